/- Generic texts and models for the proofs of this seat: part 9. -/
import Derived.Test.YtcpcagdialnbeaaY08
set_option linter.unusedVariables false
set_option linter.unusedSimpArgs false
namespace Go.Proofs.Ytcpcagdialnbeaa
section
open Go Go.RowKit
def zeJ (st:Stt) (n d off:Nat) (v:Operand):List ((Nat×Nat)×Nat) :=
 match v with
 | .tmp y=>(List.range n).filterMap fun j=>(st.pid.lookup (y,j)).map fun id=>((d,off+j),id)
 | _=>[]
def znc (st:Stt) (n d off:Nat):List ((Nat×Nat)×Nat) :=
 st.pid.filter fun e=>!(e.1.1==d&&decide (off≤e.1.2)&&decide (e.1.2<off+n))
def zc0 (L:Lay) (S:Sig) (base:Nat) (o:Oper) (st:Stt):Option Stt :=
 match o.op with
 | .store t x v=>if o.guard.isSome||o.dst.isSome then none else match L.ti t,zlQ st.spe x with
  | some i,some (d,off)=>some {pid:=zeJ st i.size d off v++znc st i.size d off,alive:=st.alive,spe:=st.spe,len:=st.len,made:=st.made}
  | _,_=>none
 | _=>zdF L S base o st
def zkC (o:Oper) (nb:List Nat):List Nat :=
 match o.dst with
 | some d=>match o.op with
  | .indexAddr _ _ _=>d::nb.filter fun t=>!(t==d)
  | _=>nb.filter fun t=>!(t==d)
 | none=>nb
def zCD (nb:List Nat):Operand→Bool
 | .tmp t=>nb.any fun e=>e==t
 | _=>false
def zlW (o:Oper) (st:Stt):Bool:=match o.op with
 | .store _ x _=>o.guard.isNone&&o.dst.isNone&&zCD st.nb x
 | _=>false
def zn6 (L:Lay) (S:Sig) (base:Nat) (o:Oper) (st:Stt):Option Stt :=
 if zlW o st then some st else(zc0 L S base o st).map fun st'=>{st' with nb:=zkC o st.nb}
section
variable {P:Program}{L:Lay}{S:Sig}{call:Orc}{p p':Stb}{w w':World}{a:Act}{s s':VS}{q:SPe}{o:Oper}{st st':Stt}{Own:Nat→Prop}{base:Nat}
theorem zqx (hL:LayOk P L) (hI:Inv st p w a.tmps s Own) {t:Nat}{x v:Operand} (hop:o.op=.store t x v) (hs:zaK L call o s=some s') (hstep:zc0 L S base o st=some st'):Does P o a w fun v w'=>∃p',Inv st' p' w' (a.put o.dst v).tmps s' Own∧Evo Own p w p' w':=by
 obtain⟨val,hR⟩:=hI.rooms;simp only[zc0,hop] at hstep;split at hstep
 ·cases hstep
 rename_i hgd;simp only[Bool.or_eq_true,Option.isSome_iff_ne_none,not_or,Decidable.not_not,ne_eq] at hgd;split at hstep
 case h_2=>cases hstep
 rename_i i d off hi hps;cases hstep;simp only[zaK,hop,hi,Option.bind_some,zzOb] at hs;obtain⟨r,hr,xv,hxv,hs⟩:=hs;have hrb:=zng hI.spe hps hr
 subst hrb;simp only at hs;split at hs
 case h_2=>cases hs
 rename_i cs hcs;split at hs
 case isFalse=>cases hs
 rename_i hc;cases hs;have hsee:∀y,zcK p w a.tmps s y:=fun y t _=>hI.slots t
 obtain⟨b,hd,hx⟩:=zj8 hr (hsee x);have hsr:=(hI.slots d).1
 rw[hcs] at hsr;obtain⟨b',arr,T,e,hb,hrl⟩:=hsr;rw[hd] at e;cases e;obtain⟨b0,e0,hp0,hown0,hlt0⟩:=hI.box d cs hcs;rw[hd] at e0;cases e0;have hv:=zcV (a:=a) hxv (hsee v)
 obtain⟨w',arr',hrun,hb',hrl',hin,hout,hsize,hoth,h1,h2,h3⟩:=zqP (P:=P) (hL t i hi) hb hrl hc.1 hc.2 hv;have hev:Evo (·=b) p w p w':=zbw hp0 hsize hoth h1 h2 h3
 have hdlt:d<s.σ.length:=by
  rcases Nat.lt_or_ge d s.σ.length with h|h
  ·exact h
  ·unfold VS.get at hcs
   rw[List.getD,List.getElem?_eq_none h] at hcs;cases hcs
 have hget:∀y,y≠d→VS.get {s with σ:=s.σ.set d (.box (zbY cs off xv.cells))} y=s.get y:=fun y hy=>by
  simp only[VS.get,List.getD,List.getElem?_set_ne (Ne.symm hy)]
 have hgetd:VS.get {s with σ:=s.σ.set d (.box (zbY cs off xv.cells))} d=.box (zbY cs off xv.cells):=by
  simp only[VS.get,List.getD,List.getElem?_set_self hdlt,Option.getD_some]
 have hotherbox:∀y cs' b'',y≠d→s.get y=.box cs'→b''=b→a.tmps.getD y undef≠.pointer (some ⟨b'',0,none⟩):=fun y cs' b'' hy hy' hbb=>by
  subst hbb;exact hI.boxd d y cs cs' b'' (Ne.symm hy) hcs hy' hd
 have hdn:o.dst=none:=hgd.2
 refine zrn (w':=w') (by simp[execOp,hop,hx,hrun]) ⟨p,?_,hev.weaken (fun x _ h=>by rw[h];exact hown0)⟩
 rw[hdn];show Inv _ p w' a.tmps _ Own
 have hgarr:∀y k r,VS.get {s with σ:=s.σ.set d (.box (zbY cs off xv.cells))} y=.arr k r→y≠d∧s.get y=.arr k r:=fun y k r hy=>by
  by_cases hyd:y=d
  ·subst hyd;rw[hgetd] at hy;cases hy
  ·rw[hget y hyd] at hy;exact⟨hyd,hy⟩
 have hgal:∀y e,VS.get {s with σ:=s.σ.set d (.box (zbY cs off xv.cells))} y=.al e→y≠d∧s.get y=.al e:=fun y e hy=>by
  by_cases hyd:y=d
  ·subst hyd;rw[hgetd] at hy;cases hy
  ·rw[hget y hyd] at hy;exact⟨hyd,hy⟩
 refine⟨by rw[hI.size];simp,by rw[hI.len];simp,fun t ht=>(by cases ht),hI.sonce,fun y=>?_,⟨fun x hx=>hI.zp.1 x (by omega),fun x hx=>hI.zp.2 x (by omega)⟩,hI.once,hI.spe,fun x hx=>hI.own x (by omega),fun y cs' hy=>?_,fun y y' cs1 cs2 bb hne hy hy' hb1=>?_,fun y k r bb hy hbb=>?_,fun y e k r hy he=>?_,⟨fun y e hy=>hI.mks.1 y e (hgal y e hy).2,fun y k r hy=>hI.mks.2 y k r (hgarr y k r hy).2⟩,val,?_⟩
 ·obtain⟨g1,g2⟩:=hI.slots y
  constructor
  ·by_cases hyd:y=d
   ·subst hyd
    rw[hgetd,hd];exact⟨b,arr',T,rfl,hb',hrl'.evo (B:=(·=b)) ⟨rfl,rfl,rfl,Nat.le_refl _,fun _ _ _=>rfl,fun _ _=>Nat.le_refl _,fun _ _ _=>rfl,fun _ _ _ _=>rfl,fun _ _=>rfl,fun _ h1 h2=>absurd h1 (Nat.not_le.2 h2)⟩ |> fun h=>by
     refine RepL.evo hev (RepL.of hrl'.length fun j u c hu hc'=>?_)
     obtain⟨u',hu',hr'⟩:=hrl'.get hc';rw[hu] at hu';cases hu';exact hr'⟩
   ·rw[hget y hyd]
    exact zeH hev (fun cs' hcs' b'' hb'' he=>hotherbox y cs' b'' hyd hcs' he hb'') (fun k r hkr b'' hb'' he=>by
     subst he;exact(hI.arr y k r b'' hkr hb'').2.2.2.1 d cs hcs hd) g1
  ·intro r hr'
   have:=g2 r hr'
   cases r with
   | ref cs'=>exact PRef.evo hev this
   | box d' off'=>exact this
   | el d' k n j=>exact this
 ·by_cases hyd:y=d
  ·subst hyd
   exact⟨b,hd,hp0,hown0,by omega⟩
  ·rw[hget y hyd] at hy
   obtain⟨b2,x1,x2,x3,x4⟩:=hI.box y cs' hy;exact⟨b2,x1,x2,x3,by omega⟩
 ·have key:∀y cs',VS.get {s with σ:=s.σ.set d (.box (zbY cs off xv.cells))} y=.box cs'→∃cs'',s.get y=.box cs'':=fun y cs' hy=>by
   by_cases hyd:y=d
   ·subst hyd;exact⟨cs,hcs⟩
   ·rw[hget y hyd] at hy;exact⟨_,hy⟩
  obtain⟨c1,k1⟩:=key y cs1 hy;obtain⟨c2,k2⟩:=key y' cs2 hy';exact hI.boxd y y' c1 c2 bb hne k1 k2 hb1
 ·obtain⟨_,hy⟩:=hgarr y k r hy
  obtain⟨x1,x2,x3,x4,x5⟩:=hI.arr y k r bb hy hbb;refine⟨x1,x2,by omega,fun z cs' hz=>?_,fun z k' r' hz hzb=>x5 z k' r' (hgarr z k' r' hz).2 hzb⟩
  by_cases hzd:z=d
  ·subst hzd;exact x4 z cs hcs
  ·rw[hget z hzd] at hz;exact x4 z cs' hz
 ·exact hI.al y e k r (hgal y e hy).2 (hgarr e k r he).2
 ·refine⟨fun z id hm=>?_,fun id k hm=>?_,fun id k bb hm hbb=>?_,hR.apart,fun z id k y k' r b' hm hal hy hyb hb'=>?_⟩
  ·rcases List.mem_append.1 hm with hm|hm
   ·cases v with
    | tmp y =>
     simp only[zeJ,List.mem_filterMap,List.mem_range,zzOm,Prod.mk.injEq] at hm;obtain⟨j,hj,id',hid,rfl,rfl⟩:=hm;obtain⟨hcell,_⟩:=hR.place _ _ (zau hid);simp only at hcell ⊢;have hcell:zax w (a.eval (.tmp y)) j=some (val id'):=hcell
     rw[zbm hv] at hcell;rw[hd,hgetd];refine⟨?_,by intro h;cases h⟩
     show w'.cell? ⟨b,off+j,none⟩=_
     rw[zaV hb',hin j (Array.getElem?_eq_some_iff.1 hcell).1,hcell]
    | const c=>simp[zeJ] at hm
    | global g=>simp[zeJ] at hm
    | func g=>simp[zeJ] at hm
   ·unfold znc at hm
    obtain⟨hm,hf⟩:=List.mem_filter.1 hm;obtain⟨hcell,hu⟩:=hR.place _ _ hm;by_cases hzd:z.1=d
    ·rw[hzd] at hcell ⊢
     rw[hgetd];refine⟨?_,by intro h;cases h⟩
     rw[hd] at hcell ⊢;have hcell:w.cell? ⟨b,z.2,none⟩=some (val id):=hcell
     show w'.cell? ⟨b,z.2,none⟩=_
     rw[zaV hb] at hcell;rw[zaV hb',hout z.2 ?_,hcell];have hl:=hv.cells.length
     simp[hzd] at hf
     simp at hl
     omega
    ·rw[hget _ hzd]
     exact⟨zjP hI hev (fun b'' cs' he hx'=>hotherbox z.1 cs' b'' hzd hx' he) hu hcell,hu⟩
  ·refine(hR.alive id k hm).evo hev (fun b'' hb'' he=>?_)
   subst he;exact(hR.own id k b'' hm hb'').2 d cs hcs hd
  ·obtain⟨x1,x2⟩:=hR.own id k bb hm hbb
   refine⟨x1,fun y cs' hy=>?_⟩
   by_cases hyd:y=d
   ·subst hyd;exact x2 y cs hcs
   ·rw[hget y hyd] at hy;exact x2 y cs' hy
  ·obtain⟨hyd,hy⟩:=hgarr y k' r hy
   rcases List.mem_append.1 hm with hm|hm
   ·exfalso
    cases v with
    | tmp u =>
     simp only[zeJ,List.mem_filterMap,List.mem_range,zzOm,Prod.mk.injEq] at hm;obtain⟨j,hj,id',hid,rfl,rfl⟩:=hm;obtain⟨_,h2,_⟩:=hR.row _ _ k y k' r b' (zau hid) hal hy hyb hb';have h3:=zhz hxv
     rcases h2 with h2|h2
     ·simp only at h2;rw[h2,hy] at h3;cases h3
     ·simp only at h2;rw[h2] at h3;cases h3
    | const c=>simp[zeJ] at hm
    | global g=>simp[zeJ] at hm
    | func g=>simp[zeJ] at hm
   ·unfold znc at hm
    obtain⟨hm,_⟩:=List.mem_filter.1 hm;obtain⟨h1,h2,h3⟩:=hR.row _ _ k y k' r b' hm hal hy hyb hb';refine⟨h1,h2.imp (fun e=>e) fun h2=>?_,h3⟩
    by_cases hzd:z.1=d
    ·rw[hzd,hcs] at h2;cases h2
    ·rw[hget _ hzd];exact h2
theorem step_skip (hI:Inv st p w a.tmps s Own) {g:Nat×Bool} (hg:o.guard=some g) (hstep:zdF L S base o st=some st') :
  Inv st' p w (a.put o.dst undef).tmps (s.put o.dst .und) Own:=by
 obtain⟨val,hR⟩:=hI.rooms;unfold zdF at hstep;split at hstep
 case isFalse=>cases hstep
 rename_i htk;simp only[Bool.and_eq_true] at htk;simp only[zzOb] at hstep;obtain⟨E,hE,hstep⟩:=hstep;split at hstep
 ·cases hstep
 rename_i hEmp;cases hstep;have hE0:E=[]:=by
  cases E with
  | nil=>rfl
  | cons x l=>simp[hg] at hEmp
 subst hE0;have hnp:zgF L S base o st=[]:=by unfold zgF;split <;> simp[hg]
 have hna:zbG L S base o=[]:=by unfold zbG;split <;> simp[hg]
 obtain⟨hF,honce⟩:=zap (o:=o) hI.once .und;have hget:∀t,(s.put o.dst .und).get t=.und∨((s.put o.dst .und).get t=s.get t∧o.dst≠some t):=by
  intro t;by_cases hd:o.dst=some t
  ·left
   rw[hd,zb1];split <;> rfl
  ·exact .inr ⟨hF.get t hd,hd⟩
 have hslots:∀t,zcM p w (a.put o.dst undef).tmps (s.put o.dst .und) t:=by
  intro t;by_cases hd:o.dst=some t
  ·rw[hd]
   refine⟨?_,fun q' hq=>by rw[zcD] at hq;cases hq⟩
   have hun:(a.put (some t) undef).tmps.getD t undef=undef:=by
    by_cases hlt:t<a.tmps.size
    ·exact zft hlt
    ·exact zl7 hlt
   rw[hun,zb1];split <;> (intro b hb;cases hb)
  ·exact zn4 hI (.refl (fun _=>False) p w) (fun _ _ _ h=>h.elim) (fun _ _ _ _ h=>h.elim) hF hd
 have hspe:zbR (zbI L o st.spe) (s.put o.dst .und):=by
  unfold zbI;cases hd:o.dst with
  | none=>exact hI.spe
  | some d =>
   have hc:=zjL hI.spe hI.sonce hI.once d .und
   have hp:zbR ((d,none)::znr d st.spe) (s.put (some d) .und):=by
    constructor
    ·intro t ht
     simp only[List.lookup] at ht;split at ht
     ·cases ht
     ·exact hc.1 t ht
    ·intro t b off ht
     simp only[List.lookup] at ht;split at ht
     ·cases ht
     ·exact hc.2 t b off ht
   cases ho:o.op <;> simp only[hg] <;> first|exact hc|exact hp
 have hold:∀d cs,(s.put o.dst .und).get d=.box cs→s.get d=.box cs∧(a.put o.dst undef).tmps.getD d undef=a.tmps.getD d undef:=fun d cs h=>by
  rcases hget d with h'|⟨h',hd⟩
  ·rw[h'] at h;cases h
  ·rw[h'] at h;exact⟨h,zaM hd⟩
 have hmade:∀d,d∈st.made→d∈zii L o st.made:=fun d hd=>by
  unfold zii;split
  ·split
   ·exact List.mem_cons_of_mem _ hd
   ·exact hd
  ·exact hd
 have holdA:∀d k r,(s.put o.dst .und).get d=.arr k r→s.get d=.arr k r∧(a.put o.dst undef).tmps.getD d undef=a.tmps.getD d undef∧o.dst≠some d:=fun d k r h=>by
  rcases hget d with h'|⟨h',hd⟩
  ·rw[h'] at h;cases h
  ·rw[h'] at h;exact⟨h,zaM hd,hd⟩
 have holdL:∀d e,(s.put o.dst .und).get d=.al e→s.get d=.al e∧(a.put o.dst undef).tmps.getD d undef=a.tmps.getD d undef:=fun d e h=>by
  rcases hget d with h'|⟨h',hd⟩
  ·rw[h'] at h;cases h
  ·rw[h'] at h;exact⟨h,zaM hd⟩
 refine⟨by rw[zmf,hI.size,hF.len],by rw[hF.len];exact hI.len,fun t ht=>(by cases ht),zkY L o hI.sonce,hslots,hI.zp,honce,hspe,hI.own,fun d cs h=>?_,fun d d' cs cs' b hne h h' hb=>?_,fun d k r b h hb=>?_,fun t d k r h h'=>?_,⟨fun t e h=>(hI.mks.1 t e (holdL t e h).1).imp (hmade e) fun h=>h,fun d k r h=>hmade d (hI.mks.2 d k r (holdA d k r h).1)⟩,val,?_⟩
 ·obtain⟨h1,h2⟩:=hold d cs h
  rw[h2];exact hI.box d cs h1
 ·obtain⟨h1,h2⟩:=hold d cs h
  obtain⟨h3,h4⟩:=hold d' cs' h';rw[h2] at hb;rw[h4];exact hI.boxd d d' cs cs' b hne h1 h3 hb
 ·obtain⟨h1,h2,_⟩:=holdA d k r h
  rw[h2] at hb;obtain⟨x1,x2,x3,x4,x5⟩:=hI.arr d k r b h1 hb;refine⟨x1,x2,x3,fun d' cs hd'=>?_,fun d' k' r' hd' hb'=>?_⟩
  ·obtain⟨h3,h4⟩:=hold d' cs hd'
   rw[h4];exact x4 d' cs h3
  ·obtain⟨h3,h4,_⟩:=holdA d' k' r' hd'
   rw[h4] at hb';exact x5 d' k' r' h3 hb'
 ·obtain⟨h1,h2⟩:=holdL t d h
  obtain⟨h3,h4,_⟩:=holdA d k r h';rw[h2,h4];exact hI.al t d k r h1 h3
 ·rw[hnp,hna]
  refine⟨fun x id hm=>?_,fun id k hm=>?_,fun id k b hm hb=>?_,fun id k id' k' b hm hm' hne hb=>?_,fun x id k d k' r b hm hal h hbd hb=>?_⟩
  ·simp only[List.nil_append] at hm
   obtain⟨hm,hd⟩:=List.mem_filter.1 hm;simp only[Bool.not_eq_true',beq_eq_false_iff_ne] at hd;obtain⟨hc,hu⟩:=hR.place _ _ hm;rw[zaM hd,hF.get _ hd];exact⟨hc,hu⟩
  ·exact hR.alive id k (by simpa using hm)
  ·obtain⟨h1,h2⟩:=hR.own id k b (by simpa using hm) hb
   refine⟨h1,fun d cs h=>?_⟩
   obtain⟨h3,h4⟩:=hold d cs h;rw[h4];exact h2 d cs h3
  ·exact hR.apart id k id' k' b (by simpa using hm) (by simpa using hm') hne hb
  ·obtain⟨h1,h2,_⟩:=holdA d k' r h
   rw[h2] at hbd;simp only[List.nil_append] at hm;obtain⟨hm,hdx⟩:=List.mem_filter.1 hm;simp only[Bool.not_eq_true',beq_eq_false_iff_ne] at hdx;obtain⟨x1,x2,x3⟩:=hR.row x id k d k' r b hm (by simpa using hal) h1 hbd hb
   exact⟨x1,by rw[hF.get _ hdx];exact x2,x3⟩
end
end
section
open Go Go.RowKit
section
variable {P:Program}{L:Lay}{S:Sig}{call:Orc}{p p':Stb}{w w':World}{a:Act}{s s':VS}{q:SPe}{o:Oper}{st st':Stt}{Own:Nat→Prop}{base:Nat}
theorem Rep.flat {v:Value}{c:AC} (h:Rep p w v c) (hc:zl5 c=true) (p':Stb) (w':World):Rep p' w' v c:=by
 cases h with
 | int n=>exact .int n
 | bool b=>exact .bool b
 | nil _ _=>cases hc
 | sl _ _ _ _ _ _ _ _ _ _ _ _ _ _=>cases hc
theorem RepL.flat (p':Stb) (w':World):∀{vs:List Value}{cs:List AC},RepL p w vs cs→cs.all zl5=true→RepL p' w' vs cs
 | [],[],_,_=>trivial
 | _::_,_::_,⟨h1,h2⟩,h=>by
  simp only[List.all_cons,Bool.and_eq_true] at h;exact⟨h1.flat h.1 _ _,h2.flat p' w' h.2⟩
theorem RepS.flat {v:Value}{x:SV} (h:RepS p w v x) (hc:zqo x=true) (p':Stb) (w':World):RepS p' w' v x:=by
 cases x with
 | cell c=>exact Rep.flat h (by simpa [zqo,SV.cells] using hc) _ _
 | agg cs=>obtain⟨b,e,h⟩:=h;exact⟨b,e,h.flat p' w' hc⟩
theorem RepSs.flat (p':Stb) (w':World):∀{vs:List Value}{cs:List SV},RepSs p w vs cs→cs.all zqo=true→RepSs p' w' vs cs
 | [],[],_,_=>trivial
 | _::_,_::_,⟨h1,h2⟩,h=>by
  simp only[List.all_cons,Bool.and_eq_true] at h;exact⟨h1.flat h.1 _ _,h2.flat p' w' h.2⟩
theorem SR.flat {v:Value}{x:AV} (h:SR p w v x) (hc:zqA x=true) (p':Stb) (w':World):SR p' w' v x:=by
 cases x with
 | v x=>exact RepS.flat h hc _ _
 | tup xs=>obtain⟨b,e,h⟩:=h;exact⟨b,e,h.flat p' w' hc⟩
 | _=>cases hc
theorem zrO {k:Nat}:∀{rows:List (List AC)},apR k rows=true→∀r∈rows,apL k r=true
 | [],_,_,h=>by cases h
 | _::_,h,r,hr=>by
  simp only[apR,Bool.and_eq_true] at h;rcases List.mem_cons.1 hr with rfl|hr
  ·exact h.1
  ·exact zrO h.2 r hr
theorem zjy {k:Nat}:∀{cs:List AC},apL k cs=true→∀c∈cs,apC k c=true
 | [],_,_,h=>by cases h
 | _::_,h,r,hr=>by
  simp only[apL,Bool.and_eq_true] at h;rcases List.mem_cons.1 hr with rfl|hr
  ·exact h.1
  ·exact zjy h.2 r hr
theorem zxH {k:Nat}:∀{cs:List AC},(∀c∈cs,apC k c=true)→apL k cs=true
 | [],_=>rfl
 | c::cs,h=>by rw[apL,h c List.mem_cons_self,zxH fun d hd=>h d (List.mem_cons_of_mem _ hd)];rfl
theorem zwd {k:Nat}:∀{rows:List (List AC)},(∀r∈rows,apL k r=true)→apR k rows=true
 | [],_=>rfl
 | r::rows,h=>by rw[apR,h r List.mem_cons_self,zwd fun d hd=>h d (List.mem_cons_of_mem _ hd)];rfl
theorem zsQ {k:Nat}{rows:List (List AC)} (h:apR k rows=true):apL k rows.flatten=true:=zxH fun c hc=>by
 obtain⟨r,hr,hc⟩:=List.mem_flatten.1 hc;exact zjy (zrO h r hr) c hc
theorem Rep.low {p':Stb}{k:Nat}{v:Value}{c:AC} (h:Rep p w v c) (hp:∀b,p' b=p b∨∀j,p.ok b j→j=k) (hok:p'.ok=p.ok):apC k c=true→Rep p' w v c:=by
 induction h with
 | int n=>exact fun _=>.int n
 | bool b=>exact fun _=>.bool b
 | nil a j=>exact fun _=>.nil a j
 | sl b o cap j rows f hk hrows hb hpb hob hcap hc _ ih =>
  intro ha;simp only[apC,Bool.and_eq_true,Bool.not_eq_true'] at ha;have hpe:p' b=p b:=(hp b).resolve_right fun h=>by
   have:=h j hob
   rw[this,Nat.beq_refl] at ha;cases ha.1
  refine .sl b o cap j rows f hk hrows hb (by rw[hpe];exact hpb) (by rw[hok];exact hob) hcap hc fun i x c hx=>ih i x c hx ?_
  have hm:c∈rows.getD i []:=List.mem_of_getElem? hx
  refine zjy (zrO ha.2 (rows.getD i []) ?_) c hm
  rcases Nat.lt_or_ge i rows.length with hi|hi
  ·simp[List.getD,List.getElem?_eq_getElem hi]
  ·simp[List.getD,List.getElem?_eq_none hi] at hm
theorem RepL.low {p':Stb}{k:Nat} (hp:∀b,p' b=p b∨∀j,p.ok b j→j=k) (hok:p'.ok=p.ok):∀{vs:List Value}{cs:List AC},RepL p w vs cs→apL k cs=true→RepL p' w vs cs
 | [],[],_,_=>trivial
 | _::_,_::_,⟨h1,h2⟩,h=>by
  simp only[apL,Bool.and_eq_true] at h;exact⟨h1.low hp hok h.1,h2.low hp hok h.2⟩
theorem RepS.low {p':Stb}{k:Nat} (hp:∀b,p' b=p b∨∀j,p.ok b j→j=k) (hok:p'.ok=p.ok) {v:Value}{x:SV} (h:RepS p w v x) (ha:apL k x.cells=true):RepS p' w v x:=by
 cases x with
 | cell c=>exact Rep.low h hp hok (zjy ha c (by simp[SV.cells]))
 | agg cs=>obtain⟨b,e,h⟩:=h;exact⟨b,e,h.low hp hok ha⟩
def loV (p:Stb) (v:Value):Stb:=⟨fun b=>if zar v=some b then 0 else p b,p.ok⟩
theorem zli (p:Stb) (v:Value) (b:Nat):loV p v b=if zar v=some b then 0 else p b:=rfl
theorem zx3 (p:Stb) (v:Value) (b:Nat):loV p v b≤p b:=by rw[zli];split <;> omega
theorem zpT {v:Value}{k:Nat}{rows:List (List AC)} (h:Rep p w v (.sl k rows)) (hr:Rt p w v k) (hk:0<k) (hf:apR k rows=true) (hu:∀b,zar v=some b→∀j,p.ok b j→j=k) (p':Stb) (hp':p'.ok=p.ok) (hlow:∀b,zar v≠some b→p' b=p b):SR p' w v (.arr k rows):=by
 rcases h.row with ⟨⟨ad,rfl⟩,rfl⟩|⟨b,o,cap,us,rfl,_,hrows,hb,hp,hcap,hus,hrep,hc⟩
 ·rcases hr with e|⟨b,off,len,cap,arr,T,e,h1,h2,h3,_,h5⟩
  ·exact⟨hk,by simp,.inl ⟨e,rfl⟩⟩
  ·cases e
   exact⟨hk,by simp,.inr ⟨b,off,0,arr,T,[],rfl,⟨⟨(by rw[hp'];exact h5),(by rw[hp'];exact hu _ rfl)⟩,Nat.le_refl _,h3⟩,h1,by simp,trivial,fun j u h=>by simp at h⟩⟩
 ·rcases hr with e|⟨b',off,len,cap',arr,T,e,h1,h2,h3,_,h5⟩
  ·cases e
  ·cases e
   exact⟨hk,hrows,.inr ⟨b,o,cap,arr,T,us,rfl,⟨⟨(by rw[hp'];exact h5),(by rw[hp'];exact hu _ rfl)⟩,hcap,h3⟩,h1,hus,hrep.low (fun x=>by
    by_cases hx:x=b
    ·exact .inr (by rw[hx];exact hu b rfl)
    ·exact .inl (hlow x (fun e=>hx (by cases e;rfl)))) hp' (zsQ hf),fun j u hj=>by rw[←zaV h1];exact hc j u hj⟩⟩
theorem Rt.lower {p':Stb}{v:Value}{k:Nat} (h:Rt p w v k) (hp:∀b,p' b≤p b) (hp':p'.ok=p.ok):Rt p' w v k:=by
 rcases h with e|⟨b,off,len,cap,arr,T,e,h1,h2,h3,h4,h5⟩
 ·exact .inl e
 ·exact .inr ⟨b,off,len,cap,arr,T,e,h1,h2,h3,Nat.le_trans (hp b) h4,by rw[hp'];exact h5⟩
theorem zoV {x:Operand}{d0 k:Nat}{r:List (List AC)} (h:zg5 s x=some (d0,k,r)):∃t,x=.tmp t∧s.get d0=.arr k r∧(t=d0∨s.get t=.al d0):=by
 cases x with
 | const c=>cases h
 | global c=>cases h
 | func c=>cases h
 | tmp t =>
 simp only[zg5] at h;unfold zgg at h;split at h
 ·rename_i k' r' hx
  cases h;exact⟨_,rfl,hx,.inl rfl⟩
 ·rename_i d hx
  split at h
  ·rename_i k' r' hd
   cases h;exact⟨t,rfl,hd,.inr hx⟩
  ·cases h
 ·cases h
theorem zmx (hI:Inv st p w a.tmps s Own) {x:Operand}{d0 k:Nat}{r:List (List AC)} (h:zg5 s x=some (d0,k,r)):a.eval x=a.tmps.getD d0 undef∧SR p w (a.tmps.getD d0 undef) (.arr k r):=by
 obtain⟨t,rfl,hd,ht⟩:=zoV h;refine⟨?_,by have:=(hI.slots d0).1;rw[hd] at this;exact this⟩
 show a.tmps.getD t undef=_
 rcases ht with rfl|ht
 ·rfl
 ·exact hI.al t d0 k r ht hd
theorem zkS {v:Value}{k:Nat}{r:List (List AC)} (h:SR p w v (.arr k r)):∃ad cap,v=.slice ad r.length cap:=by
 rcases h.2.2 with ⟨e,rfl⟩|⟨b,o,cap,arr,T,us,e,_⟩
 ·exact⟨none,0,e⟩
 ·exact⟨_,_,e⟩
theorem zg6 (hq:zbR q s) (h1:NoTwice q) (h2:NoTwice s.pe) (x:AV) (hf:∀t y f,o.op≠.fieldAddr t y f) (hi:∀t y f,o.op≠.indexAddr t y f):zbR (zbI L o q) (s.put o.dst x):=by
 unfold zbI;cases hd:o.dst with
 | none=>exact hq
 | some d =>
  have hc:=zjL hq h1 h2 d x
  cases ho:o.op <;> first|exact hc|exact absurd ho (hf _ _ _)|exact absurd ho (hi _ _ _)
def zn2 (P:Program) (L:Lay) (S:Sig) (st:Stt) (o:Oper) (a:Act) (p:Stb) (w:World) (s s':VS):Prop :=
 (zbQ L S o=[]∧ze1 o s s'∧NoTwice s'.pe∧zbR (zbI L o st.spe) s')∧Does P o a w fun v w'=>∃p',zhx L S st.spe o a p w s' v p' w'∧ArrOk L S st.spe o a.tmps s s' v w p' w'
theorem zxL (hI:Inv st p w a.tmps s Own) {x:Operand} (hop:o.op=.move x∨o.op=.assign x) {d:Nat} (hd:o.dst=some d) (hlt:d<s.σ.length) {d0 k:Nat}{r:List (List AC)} (hx:zg5 s x=some (d0,k,r)) (hne:d≠d0):zn2 P L S st o a p w s (s.put (some d) (.al d0)):=by
 obtain⟨t,rfl,hd0,ht⟩:=zoV hx;obtain⟨hv,hsr⟩:=zmx hI hx;obtain⟨ad,cap,hsl⟩:=zkS hsr;have hf:zaI L S o=[]:=by rcases hop with hop|hop <;> simp[zaI,hop]
 have hmv:∀e∈zaL L st.spe o,e.2=(t,e.1):=by
  rcases hop with hop|hop <;> simp only[zaL,hop] <;> split <;> simp
 have hput:=zap (o:=o) hI.once (.al d0)
 have hspe:=zg6 (L:=L) (o:=o) hI.spe hI.sonce hI.once (.al d0) (by rcases hop with hop|hop <;> simp[hop]) (by rcases hop with hop|hop <;> simp[hop])
 have hpost:=zbE (L:=L) (S:=S) (q:=st.spe) (o:=o) hI.zp hI.size (x:=.al d0) (v:=a.eval (.tmp t)) (by rw[hv,hsl];exact⟨_,_,_,rfl⟩) hf (fun e he u hu=>by rw[hmv e he] at hu;exact hu)
 rw[hd] at hput hspe hpost;refine⟨⟨by rcases hop with hop|hop <;> simp[zbQ,hop],hput.1,hput.2,hspe⟩,zaN (v:=a.eval (.tmp t)) (w':=w) (by rcases hop with hop|hop <;> simp[execOp,hop]) ⟨p,hpost,?_⟩⟩
 have hg:(s.put (some d) (.al d0)).get d=.al d0:=by rw[zb1,if_pos hlt]
 refine⟨fun d' k' rows hd' h=>?_,fun d' e hd' h=>?_,fun d' hd' h=>?_⟩
 ·rw[hd] at hd';cases hd';rw[hg] at h;cases h
 ·rw[hd] at hd';cases hd'
  rw[hg] at h;cases h;refine⟨Ne.symm hne,hv,⟨k,r,hd0⟩,hf,fun e he=>?_⟩
  rw[hmv e he];exact⟨rfl,ht⟩
 ·rw[hd] at hd';cases hd';rw[hg] at h;cases h
theorem zC9 (hL:LayOk P L) (hI:Inv st p w a.tmps s Own) {x:Operand}{t:Nat}{ats:Array TypeId} (hop:o.op=.call {callee:=.builtin .len,args:=#[x],argTypes:=ats}) (ht:ats.getD 0 0=t) (hats:ats.size=1)
  {e:TI} (he:L.el t=some e) {d0 k:Nat}{r:List (List AC)} (hx:zg5 s x=some (d0,k,r)):zn2 P L S st o a p w s (s.put o.dst (.v (.cell (.int r.length)))):=by
 obtain⟨hv,hsr⟩:=zmx hI hx;obtain⟨ad,cap,hsl⟩:=zkS hsr;obtain⟨u,hu,hT⟩:=hL.el he;have h0:ats[0]?=some t:=by
  rw[←ht];simp[Array.getD,hats]
 have hput:=zap (o:=o) hI.once (.v (.cell (.int r.length)))
 have hspe:=zg6 (L:=L) (o:=o) hI.spe hI.sonce hI.once (.v (.cell (.int r.length))) (by simp[hop]) (by simp[hop])
 have hmv:zaL L st.spe o=[]:=by simp[zaL,hop]
 refine⟨⟨by simp[zbQ,hop],hput.1,hput.2,hspe⟩,zaN (v:=.int .i64 r.length) (w':=w) ?_ ⟨p,zbE hI.zp hI.size (x:=.v (.cell (.int r.length))) (.int _) (by simp[zaI,hop]) (by rw[hmv];simp),.plain (za5 rfl) (by rw[hmv];simp)⟩⟩
 simp[execOp,hop,resolve,invoke,builtin,Builtin.len_,h0,run_underlying hu,hv,hsl,goInt]
theorem zyM (hL:LayOk P L) (hI:Inv st p w a.tmps s Own) {t:Nat}{x ix:Operand} (hop:o.op=.indexAddr t x ix) {e:TI} (he:L.el t=some e) {d0:Nat}{r:List (List AC)} (hx:zg5 s x=some (d0,e.size,r)) {n:Int} (hn:ze9 L s ix=some n) (h0:0≤n) (hnr:n<r.length)
  {d:Nat} (hd:o.dst=some d) (hlt:d<s.σ.length) (hne:d≠d0):zn2 P L S st o a p w s {(s.put (some d) .und) with pe:=(d,.el d0 e.size n.toNat 0)::(s.put (some d) .und).pe}:=by
 obtain⟨hv,hsr⟩:=zmx hI hx;obtain⟨u,hu,hT⟩:=hL.el he;obtain⟨inf,z,h1,h2,_,_,_,_⟩:=hT.info;have hin:=zdG (p:=p) (w:=w) (a:=a) hn (fun t _=>hI.slots t)
 rcases hsr.2.2 with ⟨_,rfl⟩|⟨b,o',cap,arr,T,us,hsl,hcap,hb,hus,hrep,hcell⟩
 ·simp at hnr;omega
 have hfr:zaI L S o=[]:=by simp[zaI,hop]
 have hmv:zaL L st.spe o=[]:=by simp[zaL,hop]
 have hpf:=zlH (o:=o) hI.once hd (.el d0 e.size n.toNat 0)
 have hspe:zbR (zbI L o st.spe) {(s.put (some d) .und) with pe:=(d,.el d0 e.size n.toNat 0)::(s.put (some d) .und).pe}:=by
  unfold zbI;rw[hd];simp only[hop];exact zsw (zjL hI.spe hI.sonce hI.once d .und) _ _ (fun b off h=>by cases h)
 refine⟨⟨by simp[zbQ,hop],hpf.1,hpf.2,hspe⟩,zaN (v:=.pointer (some ⟨b,o'+n.toNat*e.size,none⟩)) (w':=w) ?_ ⟨p,⟨.refl _ _ _,hI.zp,fun d' hd'=>?_,zuo hd _,(fun _ _ _=>.inr ⟨hfr,hmv⟩),by rw[hfr];simp,by rw[hfr];simp,by rw[hmv];simp⟩,.plain (fun d' hd'=>?_) (by rw[hmv];simp)⟩⟩
 ·simp[execOp,hop,hin,hv,hsl,Instr.indexAt,run_underlying hu,asIntOf,h0,hnr,sizeOf,typeInfo,h1,h2,Addr.add_lit]
 ·rw[hd] at hd' ⊢
  cases hd';refine zjo hI.size hlt ⟨b,o',r.length,cap,?_,rfl⟩
  rw[←hsl];simp[Act.put,hne]
 ·rw[hd] at hd'
  cases hd';have:VS.get {(s.put (some d) .und) with pe:=(d,.el d0 e.size n.toNat 0)::(s.put (some d) .und).pe} d=(s.put (some d) .und).get d:=rfl
  rw[this,zb1,if_pos hlt];rfl
theorem ztk {k:Nat}{rows:List (List AC)} (h:∀r∈rows,r.length=k) {n j m:Nat} (hn:n<rows.length) (hj:j+m≤k):(rows.flatten.drop (n*k+j)).take m=((rows.getD n []).drop j).take m:=by
 have hg:rows.getD n []=rows[n]:=by simp[List.getD,List.getElem?_eq_getElem hn]
 have hlen:(rows.getD n []).length=k:=by rw[hg];exact h _ (List.getElem_mem hn)
 rw[←List.drop_drop,←zjH rows n h,List.drop_eq_getElem_cons hn,List.flatten_cons,←hg];rw[List.drop_append_of_le_length (by omega),List.take_append_of_le_length (by rw[List.length_drop];omega)]
theorem zBo (hL:LayOk P L) (hI:Inv st p w a.tmps s Own) {t:Nat}{x:Operand} (hop:o.op=.load t x) {i:TI} (hi:L.ti t=some i) {d0 k n j:Nat} (hp:zgU s x=some (.el d0 k n j)) {r:List (List AC)} (hd0:s.get d0=.arr k r) (hn:n<r.length) (hj:j+i.size≤k)
  {v:SV} (hv:mkV i (((r.getD n []).drop j).take i.size)=some v):zn2 P L S st o a p w s (s.put o.dst (.v v)):=by
 obtain⟨b,o',len,cap,hm,hx⟩:=zj8 (p:=p) (w:=w) (a:=a) hp (fun t _=>hI.slots t)
 have hsr:=(hI.slots d0).1
 rw[hd0] at hsr;obtain⟨hk,hrows,hh⟩:=hsr;rcases hh with ⟨_,rfl⟩|⟨b',o2,cap',arr,T,us,hsl,hcap,hb,hus,hrep,hcell⟩
 ·simp at hn
 rw[hsl] at hm;cases hm;have hT:=hL t i hi
 have hle:n*k+k≤r.length*k:=by rw[←Nat.succ_mul];exact Nat.mul_le_mul_right _ hn
 have hr':RepL p w ((us.drop (n*k+j)).take i.size) (((r.getD n []).drop j).take i.size):=by
  rw[←ztk hrows hn hj];exact(hrep.drop _).take _
 have hrun:=zfm (P:=P) (w:=w) hT (b:=b) (o:=o'+n*k+j) (us:=(us.drop (n*k+j)).take i.size) (by rw[List.length_take,List.length_drop];omega) (fun y u hy=>by
  have hy:=zdp hy
  rw[List.getElem?_drop] at hy;rw[zaV hb,←hcell _ u hy]
  congr 1
  omega)
 have hmv:zaL L st.spe o=[]:=by
  have:zlQ st.spe x=none:=by
   unfold zgU at hp;split at hp
   ·rename_i y
    unfold zlQ;split at hp
    ·rename_i r' hr2
     cases hp;cases hqj:st.spe.lookup y with
     | none=>rw[hI.spe.1 y hqj] at hr2;cases hr2
     | some z =>
      cases z with
      | none=>simp[hqj]
      | some df=>rw[hI.spe.2 y df.1 df.2 hqj] at hr2;cases hr2
    ·split at hp <;> cases hp
   ·cases hp
  simp[zaL,hop,this]
 have hput:=zap (o:=o) hI.once (.v v)
 have hspe:=zg6 (L:=L) (o:=o) hI.spe hI.sonce hI.once (.v v) (by simp[hop]) (by simp[hop])
 exact⟨⟨by simp[zbQ,hop],hput.1,hput.2,hspe⟩,zaN (w':=w) (by simp[execOp,hop,hx,Instr.loadAt,Instr.sureAddr,hrun]) ⟨p,zbE hI.zp hI.size (x:=.v v) (zr5 hr' hv) (by simp[zaI,hop]) (by rw[hmv];simp),.plain (za5 rfl) (by rw[hmv];simp)⟩⟩
theorem zBN (hL:LayOk P L) (hI:Inv st p w a.tmps s Own) {t:Nat}{x y:Operand} (hop:o.op=.makeSlice t x y) {e:TI} (he:L.el t=some e) {l c:Int} (hl:ze9 L s x=some l) (hc:ze9 L s y=some c) (c1:0≤l) (c2:l≤c) (c3:c≤zgY) (c4:0<e.size)
  {d:Nat} (hd:o.dst=some d) (hlt:d<s.σ.length) (hhome:L.home 0 o.dst=true) (hf:apL e.size e.zero=true):zn2 P L S st o a p w s (s.put (some d) (.arr e.size (List.replicate l.toNat e.zero))):=by
 obtain⟨u,hu,hT⟩:=hL.el he;obtain⟨v,w',p',hrun,hrep,hrt,hev,hz',hblk⟩:=ziv (t:=t) hu hT c4 c1 c2 c3 hI.zp;have hs1:=zdG (p:=p) (w:=w) (a:=a) hl (fun t _=>hI.slots t)
 have hs2:=zdG (p:=p) (w:=w) (a:=a) hc (fun t _=>hI.slots t)
 have hlow:∀b,loV p' v b≤p' b:=zx3 p' v
 have hev':Evo (fun _=>False) p w (loV p' v) w':=⟨hev.os,hev.tape,hev.output,hev.size,hev.block,fun b hb=>by rw[zli,if_neg (fun h=>by have:=hblk b h;omega)];exact hev.keepP b hb,fun b hb hn=>by rw[zli,if_neg (fun h=>by have:=hblk b h;omega)];exact hev.same b hb hn,hev.stable,hev.okk,hev.uq⟩
 have hput:=zap (o:=o) hI.once (.arr e.size (List.replicate l.toNat e.zero))
 have hspe:=zg6 (L:=L) (o:=o) hI.spe hI.sonce hI.once (.arr e.size (List.replicate l.toNat e.zero)) (by simp[hop]) (by simp[hop])
 have hfr:zaI L S o=[(0,e.size)]:=by simp[zaI,hop,he]
 have hmv:zaL L st.spe o=[]:=by simp[zaL,hop]
 have hsr:SR (loV p' v) w' v (.arr e.size (List.replicate l.toNat e.zero)):=zpT hrep hrt c4 (zwd fun r hr=>by rw[List.eq_of_mem_replicate hr];exact hf) (fun b hb j hj=>hev.uq b (by rw[hblk b hb];exact Nat.le_refl _) (hrt.lt hb) _ _ hj (hrt.okAt hb)) _ rfl (fun b hb=>by rw[zli,if_neg hb])
 have hpost:=zgq (L:=L) (S:=S) (o:=o) (a:=a) (q:=st.spe) (s':=s.put o.dst (.arr e.size (List.replicate l.toNat e.zero))) (e0:=(0,e.size)) (hev'.weaken fun b _ hb=>hb.elim) ⟨(fun b hb=>by rw[zli];split;rfl;exact hz'.1 b hb),hz'.2⟩
  (zbO hI.size hsr) (zh3 (by intro _ h;cases h)) (zdc (by intro h;cases h)) hfr hmv (u:=v) (by rw[zbm (x:=.cell _) hrep,hrep.cells];rfl) (hrt.lower hlow rfl) (fun b hb=>.inl (by rw[hblk b hb];exact Nat.le_refl _))
 rw[hd] at hput hspe hpost;refine⟨⟨by simp[zbQ,hop],hput.1,hput.2,hspe⟩,zaN (v:=v) (w':=w') (by simp[execOp,hop,hs1,hs2,hrun]) ⟨_,hpost,?_⟩⟩
 have hg:(s.put (some d) (.arr e.size (List.replicate l.toNat e.zero))).get d=.arr e.size (List.replicate l.toNat e.zero):=by rw[zb1,if_pos hlt]
 refine⟨fun d' k' rows hd' h=>?_,fun d' e hd' h=>?_,fun d' hd' h=>?_⟩
 ·rw[hd] at hd';cases hd'
  rw[hg] at h;cases h;refine⟨by simpa [zqd,hop] using hhome,by rw[hfr];simp,hmv,fun b hb=>⟨by rw[hblk b hb];exact Nat.le_refl _,by rw[zli,if_pos hb],hrt.lt hb⟩⟩
 ·rw[hd] at hd';cases hd';rw[hg] at h;cases h
 ·rw[hd] at hd';cases hd';rw[hg] at h;cases h
end
end
end Go.Proofs.Ytcpcagdialnbeaa

/- Generic texts and models for the proofs of this seat: part 16. -/
import Derived.Test.YtcpcagdialnbeaaY15
import Derived.OpenShut
import Derived.Deep.Draws
import Derived.Deep.Slices
import Derived.WalkKit
import Derived.Below
import Derived.Laws.OwnMore
import Derived.Lib.Hide
import Derived.Laws.AppendOwn
import Derived.Laws.AppendOwnNone
import Derived.ChangeSame
import Derived.Test.YtcpcagdialnbeaaProg
import Derived.Deep.RegionWith
import Derived.Deep.RegionHeld3
import Derived.RegionTactic
import Derived.ChangeAlike
import Derived.Deep.QuietTactic
import Derived.BigQuiet
import Derived.Outline
import Derived.LoopTactic
import Derived.OwnWalk
import Derived.Laws.MakeOwn
import Derived.Maps.AppendAt
set_option linter.unusedVariables false
set_option linter.unusedSimpArgs false
namespace Go.Proofs.Ytcpcagdialnbeaa
section
open Go Go.RowKit
section
variable {P:Program}{L:Lay}{S:Sig}{call:Orc}{sm:VS}{tm st st':Stt}{Own:Nat→Prop}{p p':Stb}{w w':World}{a a':Act}{σ σ2:List AV}{H:List Nat}
def zeX (core:List Oper) (t:Nat):Bool:=core.any (zjY t)
theorem zuk {core:List Oper}{t:Nat} (h:zeX core t=false):∀o∈core,o.dst≠some t:=by
 intro o ho hd;unfold zeX at h;rw[List.any_eq_false] at h;have:=h o ho
 unfold zjY at this;rw[hd] at this;simp at this
theorem zjh {f:Nat→AV→Option AV}:∀{l l2:List AV}{n:Nat},zjR f n l=some l2→l2.length=l.length∧∀i x,l[i]?=some x→∃y,l2[i]?=some y∧f (n+i) x=some y
 | [],l2,n,h=>by cases h;exact⟨rfl,fun i x hx=>by simp at hx⟩
 | z::l,l2,n,h=>by
  simp only[zjR,zzOb,zzOm] at h;obtain⟨y,h1,ys,h2,rfl⟩:=h;obtain⟨h3,h4⟩:=zjh h2;refine⟨by simp[h3],fun i x hx=>?_⟩
  cases i with
  | zero=>simp at hx;subst hx;exact⟨y,rfl,h1⟩
  | succ i =>
   obtain⟨u,g1,g2⟩:=h4 i x (by simpa using hx)
   exact⟨u,by simpa using g1,by rw[show n+(i+1)=n+1+i by omega];exact g2⟩
inductive Bk (H:List Nat) (core:List Oper) (σ:List AV) (sm:VS) (t:Nat):AV→Prop
 | old (h:zeX core t=false):Bk H core σ sm t (σ.getD t .und)
 | flat (c:AC) (h:sm.get t=.v (.cell c)) (hc:zl5 c=true):Bk H core σ sm t (.v (.cell c))
 | lost (k:Nat) (r:List (List AC)) (h:sm.get t=.v (.cell (.sl k r))):Bk H core σ sm t (.al zbK)
 | und (h:sm.get t=.und):Bk H core σ sm t .und
 | name (z e k:Nat) (r:List (List AC)) (k':Nat) (r':List (List AC)) (o:Oper) (ho:o∈core) (hm:zg9 H o=some (t,z)) (hg:o.guard=none) (hz:zgg {σ:=σ,pe:=[]} z=some (e,k,r)) (h:sm.get t=.v (.cell (.sl k' r'))):Bk H core σ sm t (.al e)
 | out (h:σ.length≤t):Bk H core σ sm t .und
theorem ztd {o:Oper}{d z:Nat} (h:zg9 H o=some (d,z)):o.dst=some d∧o.op=.move (.tmp z):=by
 unfold zg9 at h;split at h
 ·split at h
  ·cases h
   rename_i h1 h2 _;exact⟨h1,h2⟩
  ·cases h
 ·cases h
theorem zyj {core:List Oper} (h:zjR (zd6 H core σ sm) 0 σ=some σ2) (t:Nat):Bk H core σ sm t (σ2.getD t .und):=by
 obtain⟨hl,hg⟩:=zjh h;rcases Nat.lt_or_ge t σ.length with ht|ht
 ·obtain⟨y,hy,hf⟩:=hg t σ[t] (List.getElem?_eq_getElem ht)
  rw[Nat.zero_add] at hf;rw[show σ2.getD t .und=y by simp[List.getD,hy]]
  unfold zd6 at hf;split at hf
  ·rename_i hfind
   cases hf;have hw:zeX core t=false:=by
    unfold zeX;rw[List.any_eq_false];intro o ho
    simpa using List.find?_eq_none.1 hfind o ho
   have:=Bk.old (H:=H) (σ:=σ) (sm:=sm) hw
   rwa [show σ.getD t .und=σ[t] by simp[List.getD,ht]] at this
  ·rename_i o hfind
   have ho:=List.mem_of_find?_eq_some hfind
   have hd:o.dst=some t:=by
    have:=List.find?_some hfind
    unfold zjY at this;split at this
    ·rename_i d hd
     rw[hd,Nat.eq_of_beq_eq_true this]
    ·cases this
   have plain:(match sm.get t with
     | .v (.cell c)=>if zl5 c then some (.v (.cell c)) else some (.al zbK)
     | .und=>some .und
     | _=>none)=some y→Bk H core σ sm t y:=fun hf=>by
    split at hf
    ·rename_i c hc
     split at hf
     ·rename_i hcf
      cases hf;exact .flat c hc hcf
     ·rename_i hcf
      cases hf;cases c with
      | sl k r=>exact .lost k r hc
      | int n=>exact absurd rfl hcf
      | bool n=>exact absurd rfl hcf
    ·rename_i hu
     cases hf;exact .und hu
    ·cases hf
   split at hf
   ·rename_i d z hm hgd
    split at hf
    ·rename_i e k r k' r' hz hs
     cases hf;have:=(ztd hm).1
     rw[hd] at this;cases this;exact .name z e k r k' r' o ho hm hgd hz hs
    ·cases hf
   ·exact plain hf
 ·rw[show σ2.getD t .und=.und by simp[List.getD,List.getElem?_eq_none (show σ2.length≤t by omega)]]
  exact .out ht
theorem zu3 (hI:Inv st p w a.tmps {σ:=σ,pe:=[]} Own) (hev:Evo (fun _=>False) (zdy p a.tmps {σ:=σ,pe:=[]}) w p' w'):Evo (fun _=>False) p w (zjS p' a.tmps {σ:=σ,pe:=[]}) w':=by
 have hdp:∀b,¬(∃n,zdg a.tmps {σ:=σ,pe:=[]} b n)→zjS p' a.tmps {σ:=σ,pe:=[]} b=p' b:=fun b h=>by rw[zkU,if_neg h]
 have hdz:∀b,(∃n,zdg a.tmps {σ:=σ,pe:=[]} b n)→zjS p' a.tmps {σ:=σ,pe:=[]} b=0:=fun b h=>by rw[zkU,if_pos h]
 exact⟨hev.os,hev.tape,hev.output,hev.size,hev.block,fun b hb=>by
   by_cases h:∃n,zdg a.tmps {σ:=σ,pe:=[]} b n
   ·obtain⟨n,hn⟩:=h
    rw[(zfY hI hn).1];exact Nat.zero_le _
   ·rw[hdp b h,←zdJ (p:=p) h]
    exact hev.keepP b hb,fun b hb _=>by
   by_cases h:∃n,zdg a.tmps {σ:=σ,pe:=[]} b n
   ·rw[hdz b h]
    obtain⟨n,hn⟩:=h;exact(zfY hI hn).1.symm
   ·rw[hdp b h,←zdJ (p:=p) h]
    exact hev.same b hb (fun h=>h),fun b o hb ho=>hev.stable b o hb (Nat.lt_of_lt_of_le ho ((zbV hI).keepP b hb)),hev.okk,hev.uq⟩
theorem zzl {core:List Oper} (hI:Inv st p w a.tmps {σ:=σ,pe:=[]} Own) (hev:Evo (fun _=>False) (zdy p a.tmps {σ:=σ,pe:=[]}) w p' w') (hz:Zp p' w') (hc:Inv tm p' w' a'.tmps sm Own) (hlen:sm.σ.length=σ.length)
  (hkeep:∀t,zeX core t=false→a'.tmps.getD t undef=a.tmps.getD t undef) (hback:zjR (zd6 H core σ sm) 0 σ=some σ2) (hno:st.len≤zbK)
  (hmv:∀o∈core,∀d z,zg9 H o=some (d,z)→o.guard=none→(∃id,((d,0),id)∈tm.pid∧((z,0),id)∈tm.pid)∧zeX core z=false) :
  Inv {pid:=st.pid.filter (fun e=>!zeX core e.1.1),alive:=st.alive,spe:=[],len:=st.len,made:=st.made} (zjS p' a.tmps {σ:=σ,pe:=[]}) w' a'.tmps {σ:=σ2,pe:=[]} Own:=by
 obtain⟨val,hR⟩:=hI.rooms;have hdp:∀b,¬(∃n,zdg a.tmps {σ:=σ,pe:=[]} b n)→zjS p' a.tmps {σ:=σ,pe:=[]} b=p' b:=fun b h=>by rw[zkU,if_neg h]
 have hdz:∀b,(∃n,zdg a.tmps {σ:=σ,pe:=[]} b n)→zjS p' a.tmps {σ:=σ,pe:=[]} b=0:=fun b h=>by rw[zkU,if_pos h]
 have hev':=zu3 hI hev
 generalize hq:zjS p' a.tmps {σ:=σ,pe:=[]}=q at hev'
 have hzq:Zp q w':=⟨fun b hb=>by
  rw[←hq];by_cases h:∃n,zdg a.tmps {σ:=σ,pe:=[]} b n
  ·exact hdz b h
  ·rw[hdp b h];exact hz.1 b hb,fun _ _ _=>trivial⟩
 have hl2:σ2.length=σ.length:=(zjh hback).1
 have hbk:∀t,Bk H core σ sm t (VS.get {σ:=σ2,pe:=[]} t):=fun t=>zyj hback t
 have hsame:∀b,b<w.heap.size→q b=p b:=fun b hb=>hev'.same b hb (fun h=>h)
 have hsl:∀t k r,sm.get t=.v (.cell (.sl k r))→∃A l c,a'.tmps.getD t undef=.slice A l c:=fun t k r h=>by
  have hs:=(hc.slots t).1
  rw[h] at hs;have hs:Rep p' w' (a'.tmps.getD t undef) (.sl k r):=hs
  generalize a'.tmps.getD t undef=v at hs
  cases hs with
  | nil A k=>exact⟨A,0,0,rfl⟩
  | sl b o cap k rows f hk hrows hb hp hok hcap hcl hr=>exact⟨_,_,_,rfl⟩
 have hname:∀t z e k r k' r' o,o∈core→zg9 H o=some (t,z)→o.guard=none→zgg {σ:=σ,pe:=[]} z=some (e,k,r)→sm.get t=.v (.cell (.sl k' r'))→a'.tmps.getD t undef=a.tmps.getD e undef∧VS.get {σ:=σ,pe:=[]} e=.arr k r:=fun t z e k r k' r' o ho hm hg hzz hs=>by
  obtain⟨⟨id,h1,h2⟩,h3⟩:=hmv o ho t z hm hg;obtain⟨_,_,hd,_⟩:=zoV (s:={σ:=σ,pe:=[]}) (x:=.tmp z) hzz;have hze:=(zmx hI (x:=.tmp z) hzz).1
  refine⟨?_,hd⟩
  have hze:a.tmps.getD z undef=a.tmps.getD e undef:=hze
  obtain⟨val',hR'⟩:=hc.rooms;have p1:=(hR'.place _ _ h1).1
  have p2:=(hR'.place _ _ h2).1
  simp only at p1 p2;rw[hkeep z h3,hze] at p2;obtain⟨A,l,c,ev⟩:=hsl t k' r' hs;have hsz:=(hI.slots e).1
  rw[hd] at hsz;have e2:∃A l c,a.tmps.getD e undef=.slice A l c:=by
   rcases hsz.2.2 with ⟨e,_⟩|⟨_,_,_,_,_,_,e,_⟩
   ·exact⟨_,_,_,e⟩
   ·exact⟨_,_,_,e⟩
  obtain⟨A2,l2,c2,e2⟩:=e2;rw[ev] at p1 ⊢;rw[e2] at p2 ⊢;have p1:some (Value.slice A l c)=some (val' id):=p1
  have p2:some (Value.slice A2 l2 c2)=some (val' id):=p2
  rw[←p2] at p1;exact Option.some.inj p1
 have hbox:∀d cs,VS.get {σ:=σ2,pe:=[]} d=.box cs→VS.get {σ:=σ,pe:=[]} d=.box cs∧a'.tmps.getD d undef=a.tmps.getD d undef:=fun d cs hd=>by
  have h:=hbk d
  generalize VS.get {σ:=σ2,pe:=[]} d=x at h hd
  subst hd;generalize hx:AV.box cs=x at h
  cases h with
  | old h=>exact⟨by first|rfl|exact hx.symm,hkeep d h⟩
  | flat c h hc=>cases hx
  | lost k r h=>cases hx
  | und h=>cases hx
  | name z e k r k' r' o ho hm hg hz h=>cases hx
  | out h=>cases hx
 have harr:∀d k r,VS.get {σ:=σ2,pe:=[]} d=.arr k r→VS.get {σ:=σ,pe:=[]} d=.arr k r∧a'.tmps.getD d undef=a.tmps.getD d undef:=fun d k r hd=>by
  have h:=hbk d
  generalize VS.get {σ:=σ2,pe:=[]} d=x at h hd
  subst hd;generalize hx:AV.arr k r=x at h
  cases h with
  | old h=>exact⟨by first|rfl|exact hx.symm,hkeep d h⟩
  | flat c h hc=>cases hx
  | lost k r h=>cases hx
  | und h=>cases hx
  | name z e k r k' r' o ho hm hg hz h=>cases hx
  | out h=>cases hx
 have hal:∀t d,VS.get {σ:=σ2,pe:=[]} t=.al d→(VS.get {σ:=σ,pe:=[]} t=.al d∧a'.tmps.getD t undef=a.tmps.getD t undef)∨d=zbK∨(a'.tmps.getD t undef=a.tmps.getD d undef∧∃k r,VS.get {σ:=σ,pe:=[]} d=.arr k r):=fun t d hd=>by
  have h:=hbk t
  generalize VS.get {σ:=σ2,pe:=[]} t=x at h hd
  subst hd;generalize hx:AV.al d=x at h
  cases h with
  | old h=>exact .inl ⟨by first|rfl|exact hx.symm,hkeep t h⟩
  | flat c h hc=>cases hx
  | lost k r h=>cases hx;exact .inr (.inl rfl)
  | und h=>cases hx
  | name z e k r k' r' o ho hm hg hz h =>
   cases hx;obtain⟨h1,h2⟩:=hname t z d k r k' r' o ho hm hg hz h;exact .inr (.inr ⟨h1,k,r,h2⟩)
  | out h=>cases hx
 have hnohome:∀k r,VS.get {σ:=σ,pe:=[]} zbK≠.arr k r:=fun k r h=>by
  have:σ.length≤zbK:=by have:=hI.len;simp only at this;omega
  simp only[VS.get,List.getD,List.getElem?_eq_none this] at h;cases h
 refine⟨by rw[hc.size,hlen];exact hl2.symm,by rw[hI.len];exact hl2.symm,fun t ht=>(by cases ht),trivial,fun t=>⟨?_,fun q hq=>by cases hq⟩,hzq,trivial,⟨fun _ _=>rfl,fun _ _ _ h=>by cases h⟩,fun b hb=>hI.own b (Nat.le_trans hev.size hb),fun d cs hd=>?_,fun d d' cs cs' b hne hd hd'=>?_,fun d k r b hd hb=>?_,fun t d k r ht hd=>?_,⟨fun t d ht=>?_,fun d k r hd=>hI.mks.2 d k r (harr d k r hd).1⟩,val,⟨fun z id hm=>?_,fun id k hm=>(hR.alive id k hm).evo hev' (fun _ _ h=>h),fun id k b hm hb=>?_,hR.apart,fun z id k d k' r b hm hal' hd hb hvb=>?_⟩⟩
 ·have h:=hbk t
  generalize VS.get {σ:=σ2,pe:=[]} t=x at h
  cases h with
  | old h =>
   rw[hkeep t h];exact zeH hev' (fun _ _ _ _ h=>h) (fun _ _ _ _ _ h=>h) (hI.slots t).1
  | flat c h hcf =>
   have hs:=(hc.slots t).1
   rw[h] at hs;exact Rep.flat hs hcf _ _
  | lost k r h=>exact hsl t k r h
  | und h =>
   have hs:=(hc.slots t).1
   rw[h] at hs;exact hs
  | name z e k r k' r' o ho hm hg hz h=>exact hsl t k' r' h
  | out h =>
   have:a'.tmps.getD t undef=undef:=by
    have:=hc.size
    rw[Array.getD_eq_getD_getElem?,Array.getElem?_eq_none (by omega)]
    rfl
   rw[this];intro b hb;cases hb
 ·obtain⟨h1,h2⟩:=hbox d cs hd
  obtain⟨b,g1,g2,g3,g4⟩:=hI.box d cs h1;exact⟨b,by rw[h2];exact g1,by rw[hsame b g4];exact g2,g3,Nat.lt_of_lt_of_le g4 hev.size⟩
 ·obtain⟨h1,h2⟩:=hbox d cs hd
  obtain⟨h3,h4⟩:=hbox d' cs' hd';rw[h2,h4];exact hI.boxd d d' cs cs' b hne h1 h3
 ·obtain⟨h1,h2⟩:=harr d k r hd
  rw[h2] at hb;obtain⟨g1,g2,g3,g4,g5⟩:=hI.arr d k r b h1 hb;refine⟨by rw[hsame b g3];exact g1,g2,Nat.lt_of_lt_of_le g3 hev.size,fun d' cs hd'=>?_,fun d' k' r' hd' hb'=>?_⟩
  ·obtain⟨x1,x2⟩:=hbox d' cs hd'
   rw[x2];exact g4 d' cs x1
  ·obtain⟨x1,x2⟩:=harr d' k' r' hd'
   rw[x2] at hb';exact g5 d' k' r' x1 hb'
 ·obtain⟨h1,h2⟩:=harr d k r hd
  rcases hal t d ht with ⟨x1,x2⟩|rfl|⟨x1,_⟩
  ·rw[x2,h2]
   exact hI.al t d k r x1 h1
  ·exact absurd h1 (hnohome k r)
  ·rw[x1,h2]
 ·rcases hal t d ht with ⟨x1,x2⟩|rfl|⟨x1,k,r,x3⟩
  ·exact hI.mks.1 t d x1
  ·exact .inr rfl
  ·exact .inl (hI.mks.2 d k r x3)
 ·rw[List.mem_filter] at hm
  obtain⟨hm,hw⟩:=hm;have hw:zeX core z.1=false:=by simpa using hw
  obtain⟨h1,h2⟩:=hR.place z id hm;have hg:VS.get {σ:=σ2,pe:=[]} z.1=VS.get {σ:=σ,pe:=[]} z.1:=by
   rcases Nat.lt_or_ge z.1 σ.length with hlt|hge
   ·obtain⟨y,hy,hf⟩:=(zjh hback).2 z.1 σ[z.1] (List.getElem?_eq_getElem hlt)
    have hfn:core.find? (zjY z.1)=none:=by
     rw[List.find?_eq_none];intro o ho;unfold zeX at hw;rw[List.any_eq_false] at hw;exact hw o ho
    unfold zd6 at hf;rw[Nat.zero_add,hfn] at hf;cases hf;simp only[VS.get,List.getD,hy,List.getElem?_eq_getElem hlt]
   ·simp only[VS.get,List.getD,List.getElem?_eq_none hge,List.getElem?_eq_none (show σ2.length≤z.1 by omega)]
  refine⟨?_,by rw[hg];exact h2⟩
  rw[hkeep z.1 hw];exact zjP hI hev' (fun b cs h=>h.elim) h2 h1
 ·obtain⟨h1,h2⟩:=hR.own id k b hm hb
  refine⟨h1,fun d cs hd=>?_⟩
  obtain⟨x1,x2⟩:=hbox d cs hd;rw[x2];exact h2 d cs x1
 ·rw[List.mem_filter] at hm
  obtain⟨hm,hw⟩:=hm;have hw:zeX core z.1=false:=by simpa using hw
  obtain⟨x1,x2⟩:=harr d k' r hd;rw[x2] at hb;obtain⟨g1,g2,g3⟩:=hR.row z id k d k' r b hm hal' x1 hb hvb;refine⟨g1,g2.imp (fun h=>h) fun h=>?_,g3⟩
  rcases Nat.lt_or_ge z.1 σ.length with hlt|hge
  ·obtain⟨y,hy,hf⟩:=(zjh hback).2 z.1 σ[z.1] (List.getElem?_eq_getElem hlt)
   have hfn:core.find? (zjY z.1)=none:=by
    rw[List.find?_eq_none];intro o ho;unfold zeX at hw;rw[List.any_eq_false] at hw;exact hw o ho
   unfold zd6 at hf;rw[Nat.zero_add,hfn] at hf;cases hf;rw[←h];simp only[VS.get,List.getD,hy,List.getElem?_eq_getElem hlt]
  ·simp only[VS.get,List.getD,List.getElem?_eq_none hge] at h
   cases h
end
def zta (os:List Oper):Bool :=
 zpu (os.take (zdT os)) &&
 os.zipIdx.all (fun e=>e.1.after.toList.all fun x=>!Region.binds .any x||decide (x.on<e.2)) &&
 (os.take (zdT os)).all (fun o=>match o.guard with|some g=>decide (g.1<(os.take (zdT os)).length)|none=>true) &&
 os.zipIdx.all (fun e=>decide (e.2<zdT os)||(List.range e.2).all fun k=>zcx e.1 k)
def zyo (H:List Nat) (core:List Oper) (tm:Stt):Bool:=core.all fun o=>match zg9 H o with
 | some (d,z)=>o.guard.isSome||((match tm.pid.lookup (d,0),tm.pid.lookup (z,0) with
  | some i,some j=>Nat.beq i j
  | _,_=>false)&&!zeX core z)
 | none=>true
def zui:zjN:=fun L S ops st =>
 if st.spe.isEmpty&&st.nb.isEmpty&&zta ops.toList&&Nat.ble st.len zbK&&(ops.toList.take (zdT ops.toList)).all (fun o=>(zbQ L S o).isEmpty) then
  (zcl L S (zhI {pid:=st.pid,alive:=[],spe:=[],len:=st.len,made:=st.made}) (ops.toList.take (zdT ops.toList)) {pid:=st.pid,alive:=[],spe:=[],len:=st.len,made:=st.made}).bind fun r =>
  if zyo (L.rows ops.toList) (ops.toList.take (zdT ops.toList)) r.2 then
   (zjC L S (zhI {pid:=st.pid.filter (fun e=>!zeX (ops.toList.take (zdT ops.toList)) e.1.1),alive:=st.alive,spe:=[],len:=st.len,made:=st.made}) (ops.toList.drop (zdT ops.toList))
    {pid:=st.pid.filter (fun e=>!zeX (ops.toList.take (zdT ops.toList)) e.1.1),alive:=st.alive,spe:=[],len:=st.len,made:=st.made}).map fun r=>{pid:=r.2.pid,alive:=r.2.alive,spe:=[],len:=r.2.len,made:=r.2.made}
  else none
 else none
def zao:zjN:=fun L S ops st=>if zza L ops.toList then zui L S ops st else zpo L S ops st
end
section
open Go Go.RowKit
section
variable {P:Program}{L:Lay}{S:Sig}{call:Orc}{all:List Oper}
theorem zl4:∀(xs ys:List Oper) (s:VS),zdC L call all (xs++ys) s=(zdC L call all xs s).bind (zdC L call all ys)
 | [],ys,s=>rfl
 | x::xs,ys,s=>by
  rw[List.cons_append,zjj,zjj,Option.bind_assoc]
  congr 1
  funext s1
  exact zl4 xs ys s1
theorem zh8:∀(xs ys:List Oper) (b:Nat) (st:Stt),zcl L S b (xs++ys) st=(zcl L S b xs st).bind fun r=>zcl L S r.1 ys r.2
 | [],ys,b,st=>rfl
 | x::xs,ys,b,st=>by
  simp only[List.cons_append,zcl,Option.bind_assoc]
  congr 1
  funext st1
  exact zh8 xs ys _ st1
theorem zx0 {tr:List Rec}{s0 sm:VS}{t0 tm:Stt}{b0:Nat} (k2:∀r∈tr,ztP L S call all r) (hns:∀r∈tr,zaA r.o=false) (k3:∀r,tr[0]?=some r→r.s=s0∧r.st=t0∧r.base=b0)
  (k4:∀(j:Nat) (r r':Rec),tr[j]?=some r→tr[j+1]?=some r'→r'.s=r.s'∧r'.st=r.st'∧r'.base=r.base+zgG L S r.o) (k5:∀r,tr.getLast?=some r→sm=r.s'∧tm=r.st') (k6:tr=[]→sm=s0∧tm=t0):Tr L S call all tr s0 t0 b0 sm tm :=
 ⟨fun j r hj=>⟨k2 r (List.mem_of_getElem? hj),hns r (List.mem_of_getElem? hj)⟩,k3,k4,fun j r hj hn=>by
  refine k5 r ?_
  rw[List.getLast?_eq_getElem?];have h1:=(List.getElem?_eq_some_iff.1 hj).1
  have h2:=List.getElem?_eq_none_iff.1 hn
  rw[show tr.length-1=j by omega]
  exact hj,k6⟩
theorem zjQ:∀{os:List Oper}{b b':Nat}{st st':Stt},st.nb=[]→zcl L S b os st=some (b',st')→st'.nb=[]
 | [],_,_,_,_,h,hs=>by cases hs;exact h
 | o::os,b,b',st,st',_,hs=>by
  simp only[zcl,zzOb] at hs;obtain⟨st1,h1,hs⟩:=hs;refine zjQ (st:=st1) ?_ hs
  unfold zc0 at h1;split at h1
  ·split at h1
   ·cases h1
   ·split at h1
    ·cases h1;rfl
    ·cases h1
  ·unfold zdF at h1
   split at h1
   case isFalse=>cases h1
   simp only[zzOb] at h1;obtain⟨E,_,h1⟩:=h1;split at h1
   ·cases h1
   ·cases h1;rfl
theorem zvU (hP:P.follows .mixedOrders=true) (hL:LayOk P L) (hC:za4 P S call) (Own:Nat→Prop) (id:Nat) (oa:Array Oper) (st st':Stt) (σ:List AV) (s':VS) (p:Stb) (w:World) (a:Act) (Q:Exit→Act→World→Prop) (hdr:zpo L S oa st=some st') (hv:zdC L call oa.toList oa.toList {σ:=σ,pe:=[]}=some s')
  (hna:∀t k r,VS.get {σ:=σ,pe:=[]} t≠.arr k r) (hnl:∀t d,VS.get {σ:=σ,pe:=[]} t=.al d→d=zbK) (hI:Inv st p w a.tmps {σ:=σ,pe:=[]} Own)
  (hQ:∀a' w' p',Inv st' p' w' a'.tmps {σ:=s'.σ,pe:=[]} Own→Evo Own p w p' w'→a'.defers=a.defers→Q .normal a' w'):(Code.region id oa true).wp P Q a w:=by
 unfold zpo at hdr;split at hdr
 case isFalse=>cases hdr
 rename_i hc;simp only[Bool.and_eq_true,List.isEmpty_iff] at hc;obtain⟨⟨hspe,hnb⟩,hc⟩:=hc;simp only[zzOm] at hdr;obtain⟨⟨bm,stz⟩,hsteps,rfl⟩:=hdr;unfold zr2 at hc;simp only[Bool.and_eq_true] at hc;obtain⟨⟨⟨hany,hedge⟩,hguard⟩,htl⟩:=hc;have hA:=zmW hany
 have hedge':∀(i:Nat) (o:Oper),oa[i]?=some o→∀e∈o.after,Region.binds .any e=true→e.on<i:=by
  intro i o ho e he hb;have h1:=List.all_eq_true.1 hedge _ (zc1 (l:=oa.toList) (i:=i) (x:=o) (by simpa using ho))
  have h2:=List.all_eq_true.1 h1 e (by simpa using he)
  simp only[hb,Bool.not_true,Bool.false_or,decide_eq_true_eq] at h2;exact h2
 generalize hcore:ziL oa.toList=core at hany hguard htl hA
 have hns:∀o∈core,zaA o=false:=fun o ho=>by
  obtain⟨i,hi,he⟩:=List.mem_iff_getElem.1 ho;exact(hA.store i o (by rw[List.getElem?_eq_getElem hi,he])).1
 -- the last one
 have hsplit:core=oa.toList∨∃o,oa.toList=core++[o]∧∀i,i<core.length→zcx o i=true:=by
  unfold ziL at hcore;split at hcore
  ·exact .inl hcore.symm
  ·rcases List.eq_nil_or_concat oa.toList with h|⟨l,o,h⟩
   ·left;rw[←hcore,h];rfl
   ·right
    have hl:core=l:=by rw[←hcore,h];simp
    refine⟨o,by rw[hl];simpa using h,?_⟩
    rw[h] at htl;simp only[Bool.or_eq_true,beq_iff_eq] at htl;rcases htl with htl|htl
    ·rw[hl] at htl;simp at htl
    ·simp at htl
     intro i hi;exact htl i hi
 have hsub:∀(i:Nat) (o:Oper),core[i]?=some o→oa.toList[i]?=some o:=fun i o hi=>by
  rcases hsplit with h|⟨x,h,_⟩
  ·rw[←h];exact hi
  ·rw[h,List.getElem?_append_left (List.getElem?_eq_some_iff.1 hi).1];exact hi
 have hla:∀(i:Nat) (o:Oper) (t:Nat),core[i]?=some o→t∈zbe oa.toList o→t∈zbe core o:=fun i o t hi ht=>by
  unfold zbe at ht ⊢;rcases List.mem_append.1 ht with ht|ht
  ·exact List.mem_append_left _ ht
  ·refine List.mem_append_right _ ?_
   cases hg:o.guard with
   | none=>rw[hg] at ht;exact ht
   | some g =>
    rw[hg] at ht;simp only at ht ⊢;have h1:=List.all_eq_true.1 hguard o (List.mem_of_getElem? hi)
    rw[hg] at h1;simp only[decide_eq_true_eq] at h1;rw[hsub g.1 core[g.1] (List.getElem?_eq_getElem h1)] at ht;rw[List.getElem?_eq_getElem h1];exact ht
 have hsz:oa.toList.length=oa.size:=by simp
 refine wp_region_any hP ?_
 have hI':=hI.drew
 have hcnt:(Array.replicate oa.size false).toList.count false=oa.size:=by simp
 -- the run of those that come up in any order
 obtain⟨sc,stc,bc,hvc,hsc,htail⟩:∃sc stc bc,zdC L call oa.toList core {σ:=σ,pe:=[]}=some sc∧zcl L S (zhI st) core st=some (bc,stc) ∧
   ((core.length=oa.size∧sc=s'∧stc=stz)∨(core.length+1=oa.size∧∃o,oa[core.length]?=some o∧(∀i,i<core.length→zcx o i=true)∧zc8 L call oa.toList o sc=some s'∧zc0 L S bc o stc=some stz)):=by
  rcases hsplit with h|⟨o,h,hw⟩
  ·exact⟨s',stz,bm,by rw[h];exact hv,by rw[h];exact hsteps,.inl ⟨by rw[h,hsz],rfl,rfl⟩⟩
  ·have hv':zdC L call oa.toList (core++[o]) {σ:=σ,pe:=[]}=some s':=by rw[←h];exact hv
   have hs':zcl L S (zhI st) (core++[o]) st=some (bm,stz):=by rw[←h];exact hsteps
   rw[zl4] at hv';rw[zh8] at hs';simp only[zzOb] at hv' hs';obtain⟨sc,hvc,hv'⟩:=hv';obtain⟨⟨bc,stc⟩,hsc,hs'⟩:=hs';rw[zjj] at hv';simp only[zzOb] at hv';obtain⟨s2,hv2,hv'⟩:=hv';cases hv';simp only[zcl,zzOb] at hs';obtain⟨st2,hs2,hs'⟩:=hs';cases hs';refine⟨sc,stc,bc,hvc,hsc,.inr ⟨?_,o,?_,hw,hv2,hs2⟩⟩
   ·rw[←hsz,h];simp
   ·have:oa.toList[core.length]?=some o:=by rw[h];simp
    simpa using this
 have hval:∀f args r,call f args=some r→zix r=true:=fun f args r h=>(hC f args r h).1.1
 obtain⟨tr,k1,k2,k3,k4,k5,k6,k7,k8,k9,k10,k11⟩:=zwz (s:={σ:=σ,pe:=[]}) trivial hval core (zhI st) bc {σ:=σ,pe:=[]} sc st stc hns hvc hsc (zdQ st) trivial hI.sonce hI.spe ⟨fun _ _ _ _ _ h=>(by cases h),hna,hnl⟩
 have hTr:Tr L S call oa.toList tr {σ:=σ,pe:=[]} st (zhI st) sc stc:=zx0 (fun r hr=>(k2 r hr).1) (fun r hr=>hns r.o (by rw[←k1];exact List.mem_map_of_mem hr)) k3 k4 k5 k6
 have hstart:=InvD.start (D:=fun i=>(Array.replicate oa.size false).getD i false=true) hTr (zdQ st) rfl hI' (fun j hj=>by
  rw[Array.getD_eq_getD_getElem?,Array.getElem?_replicate] at hj;split at hj <;> cases hj)
 refine zxb hL hC hTr (fun j r hr=>(k2 r (List.mem_of_getElem? hr)).2) k1 hA hsub hla rfl (zdQ st) hI.len k7 k8 k9 k11 (zjQ hnb hsc) hedge' k10 htail oa.size _ p _ a (by simp) hcnt (fun _=>by
  rw[Array.getD_eq_getD_getElem?,Array.getElem?_replicate];split <;> rfl) hstart fun a' w' p' g1 g2 g3=>?_
 refine hQ a' w' p' ?_ ((zfj Own).trans g2 (fun _ _ h=>h) (fun _ _ h=>h)) g3
 exact g1.reset
theorem zv0 (hP:P.follows .mixedOrders=true) (hL:LayOk P L) (hC:za4 P S call) (Own:Nat→Prop) (id:Nat) (oa:Array Oper) (st st':Stt) (σ:List AV) (s1 s3:VS) (σ2:List AV) (p:Stb) (w:World) (a:Act) (Q:Exit→Act→World→Prop) (hdr:zui L S oa st=some st')
  (hv1:zdC L call oa.toList (oa.toList.take (zdT oa.toList)) {σ:=zjg σ,pe:=[]}=some s1) (hb:zjR (zd6 (L.rows oa.toList) (oa.toList.take (zdT oa.toList)) σ s1) 0 σ=some σ2) (hv3:ziW L call oa.toList (oa.toList.drop (zdT oa.toList)) {σ:=σ2,pe:=[]}=some s3) (hI:Inv st p w a.tmps {σ:=σ,pe:=[]} Own)
  (hQ:∀a' w' p',Inv st' p' w' a'.tmps {σ:=s3.σ,pe:=[]} Own→Evo Own p w p' w'→a'.defers=a.defers→Q .normal a' w'):(Code.region id oa true).wp P Q a w:=by
 unfold zui at hdr;split at hdr
 case isFalse=>cases hdr
 rename_i hc;simp only[Bool.and_eq_true,List.isEmpty_iff] at hc;obtain⟨⟨⟨⟨hspe,hnb⟩,hc⟩,hno⟩,heats⟩:=hc;have hno:=Nat.le_of_ble_eq_true hno
 have hnle:zdT oa.toList≤oa.size:=by
  unfold zdT;split
  ·have:oa.toList.length=oa.size:=by simp
   omega
  ·simp
 generalize hn:zdT oa.toList=n at *
 generalize hcore:oa.toList.take n=core at *
 have hcl:core.length=n:=by rw[←hcore];simp;omega
 simp only[zzOb] at hdr;obtain⟨⟨bc,stc⟩,hsc,hdr⟩:=hdr;split at hdr
 case isFalse=>cases hdr
 rename_i hmo;simp only[zzOm] at hdr;obtain⟨⟨bz,stz⟩,hst3,rfl⟩:=hdr;unfold zta at hc;rw[hn,hcore] at hc;simp only[Bool.and_eq_true] at hc;obtain⟨⟨⟨hany,hedge⟩,hguard⟩,htl⟩:=hc;have hA:=zmW hany
 have hedge':∀(i:Nat) (o:Oper),oa[i]?=some o→∀e∈o.after,Region.binds .any e=true→e.on<i:=by
  intro i o ho e he hb;have h1:=List.all_eq_true.1 hedge _ (zc1 (l:=oa.toList) (i:=i) (x:=o) (by simpa using ho))
  have h2:=List.all_eq_true.1 h1 e (by simpa using he)
  simp only[hb,Bool.not_true,Bool.false_or,decide_eq_true_eq] at h2;exact h2
 have hwt:∀(i:Nat) (o:Oper),n≤i→oa[i]?=some o→∀k,k<i→zcx o k=true:=by
  intro i o hi ho k hk;have h1:=List.all_eq_true.1 htl _ (zc1 (l:=oa.toList) (i:=i) (x:=o) (by simpa using ho))
  simp only[Bool.or_eq_true,decide_eq_true_eq,List.all_eq_true,List.mem_range] at h1;rcases h1 with h1|h1
  ·omega
  ·exact h1 k hk
 have hns:∀o∈core,zaA o=false:=fun o ho=>by
  obtain⟨i,hi,he⟩:=List.mem_iff_getElem.1 ho;exact(hA.store i o (by rw[List.getElem?_eq_getElem hi,he])).1
 have hsub:∀(i:Nat) (o:Oper),core[i]?=some o→oa.toList[i]?=some o:=fun i o hi=>by
  have:=(List.getElem?_eq_some_iff.1 hi).1
  rw[←hcore,List.getElem?_take_of_lt (by omega)] at hi
  exact hi
 have hla:∀(i:Nat) (o:Oper) (t:Nat),core[i]?=some o→t∈zbe oa.toList o→t∈zbe core o:=fun i o t hi ht=>by
  unfold zbe at ht ⊢;rcases List.mem_append.1 ht with ht|ht
  ·exact List.mem_append_left _ ht
  ·refine List.mem_append_right _ ?_
   cases hg:o.guard with
   | none=>rw[hg] at ht;exact ht
   | some g =>
    rw[hg] at ht;simp only at ht ⊢;have h1:=List.all_eq_true.1 hguard o (List.mem_of_getElem? hi)
    rw[hg] at h1;simp only[decide_eq_true_eq] at h1;rw[hsub g.1 core[g.1] (List.getElem?_eq_getElem h1)] at ht;rw[List.getElem?_eq_getElem h1];exact ht
 refine wp_region_any hP ?_
 have hI':=hI.drew
 have hV:=hI'.viewed
 have hcnt:(Array.replicate oa.size false).toList.count false=oa.size:=by simp
 have hval:∀f args r,call f args=some r→zix r=true:=fun f args r h=>(hC f args r h).1.1
 generalize ht0:({pid:=st.pid,alive:=[],spe:=[],len:=st.len,made:=st.made}:Stt)=t0 at hsc hV
 have ht0s:t0.spe=[]:=by rw[←ht0]
 have ht0n:t0.nb=[]:=by rw[←ht0]
 have hnr:zeD {σ:=zjg σ,pe:=[]}:=⟨fun _ _ _ _ _ h=>(by cases h),fun t k r=>by rw[zia];exact(zjr _ _).1 k r,fun t d h=>by rw[zia] at h;exact(zjr _ _).2 d h⟩
 obtain⟨tr,k1,k2,k3,k4,k5,k6,k7,k8,k9,k10,k11⟩:=zwz (s:={σ:=zjg σ,pe:=[]}) trivial hval core (zhI t0) bc {σ:=zjg σ,pe:=[]} s1 t0 stc hns hv1 hsc (zdQ t0) trivial (by rw[ht0s];trivial) (by rw[ht0s];exact⟨fun _ _=>rfl,fun _ _ _ h=>by cases h⟩) hnr
 have hmem:∀(j:Nat) (r:Rec),tr[j]?=some r→r.o∈core:=fun j r hr=>by rw[←k1];exact List.mem_map_of_mem (List.mem_of_getElem? hr)
 have hTr:Tr L S call oa.toList tr {σ:=zjg σ,pe:=[]} t0 (zhI t0) s1 stc:=zx0 (fun r hr=>(k2 r hr).1) (fun r hr=>hns r.o (by rw[←k1];exact List.mem_map_of_mem hr)) k3 k4 k5 k6
 have hstart:=InvD.start (D:=fun i=>(Array.replicate oa.size false).getD i false=true) hTr (zdQ t0) rfl hV (fun j hj=>by
  rw[Array.getD_eq_getD_getElem?,Array.getElem?_replicate] at hj;split at hj <;> cases hj)
 have htrl:tr.length=core.length:=by rw[←k1];simp
 refine zwu hL hC hTr (fun j r hr=>(k2 r (List.mem_of_getElem? hr)).2) k1 hA hsub hla rfl (zdQ t0) hV.len k11 hedge' (by omega) (fun i o hi ho k hk=>hwt i o (by omega) ho k (by omega)) (fun j r hr=>?_) oa.size _ _ _ a (by simp) hcnt (fun i _=>by
  rw[Array.getD_eq_getD_getElem?,Array.getElem?_replicate];split <;> rfl) hstart fun fuel listed p' w' a' g1 g2 g3 g4 g5 g6 g7=>?_
 ·have:=List.all_eq_true.1 heats r.o (hmem j r hr)
  exact List.isEmpty_iff.1 this
 have hfull:=g4.full hTr (zdQ t0) hV.len k7 k8 k9 k11 (zjQ ht0n hsc) (fun j r hj=>(g3 j).2 (by have:=(List.getElem?_eq_some_iff.1 hj).1;omega))
 have hl1:s1.σ.length=σ.length:=by
  have:=hTr.len tr.length (Nat.le_refl _)
  rw[zdL (Nat.le_refl _)] at this
  simpa [zjg] using this.1
 have hmid:=zzl (H:=L.rows oa.toList) (core:=core) hI' g5 hfull.zp hfull hl1 (fun t ht=>g6 t fun j r hr=>zuk ht r.o (hmem j r hr)) hb hno (fun o ho d z hm hg=>by
  have:=List.all_eq_true.1 hmo o ho
  rw[hm,hg] at this;simp only[Option.isSome_none,Bool.false_or,Bool.and_eq_true,Bool.not_eq_true'] at this;obtain⟨h1,h2⟩:=this;split at h1
  ·rename_i i j hi hj
   rw[←Nat.eq_of_beq_eq_true h1] at hj;exact⟨⟨i,zau hi,zau hj⟩,h2⟩
  ·cases h1)
 refine ztZ hL hC hedge' _ n rfl hwt fuel listed _ w' a' {σ:=σ2,pe:=[]} _ _ g1 g2 (fun i=>by rw[g3 i,hcl]) hnle hmid (zdQ _) hv3 hst3 fun a2 w2 p2 h1 h2 h3=>hQ a2 w2 p2 h1.reset ?_ (h3.trans g7)
 exact((zfj Own).trans ((zu3 hI' g5).weaken (C:=Own) (fun _ _ h=>h.elim)) (fun _ _ h=>h) (fun _ _ h=>h)).trans h2 (fun _ _ h=>h) (fun _ _ h=>h)
theorem zp8 (hP:P.follows .mixedOrders=true) (hL:LayOk P L) (hC:za4 P S call):zk5 P L S call zao:=by
 intro Own id oa st st' σ σ' p w a Q hdr hv hI hQ;unfold zao at hdr;unfold zj9 at hv;split at hdr
 ·rename_i hr
  rw[if_pos hr] at hv;simp only[zzOb,zzOm] at hv;obtain⟨s1,h1,s2,h2,s3,h3,rfl⟩:=hv;exact zv0 hP hL hC Own id oa st st' σ s1 s3 s2 p w a Q hdr h1 h2 h3 hI hQ
 ·rename_i hr
  rw[if_neg hr] at hv;simp only[zzOm] at hv;obtain⟨s1,h1,rfl⟩:=hv;exact zvU hP hL hC Own id oa st st' (zit σ) s1 p w a Q hdr h1 (zo4 σ) (zr0 σ) hI.masked hQ
theorem znH {E:zpI} (hP:P.follows .mixedOrders=true) (hL:LayOk P L) (hE:∀f e,S.has f=false→E.lookup f=some e→∀call,za4 P S call→zjm P S f (ziT call e)) (hall:∀f,S.has f=true→∃fn,P.funcs[f]?=some fn∧zay zao L S fn (S.sg f)=true) {f:FuncId}{args:List SV}{r:AV} (h:V P L S.has E f args=some r) (ht:(S.sg f).takes=[])
  {p:Stb}{w:World}{vals:List Value} (hreps:RepSs p w vals args) (hz:Zp p w) :
  Calls P f vals.toArray w fun e w'=>∃v,e=.returned v∧Below w.heap.size w w'∧∃p',SR p' w' v r∧Evo (fun _=>False) p w p' w'∧Zp p' w' ∧
   (∀e∈(S.sg f).gives,∃u,zax w' v e.1=some u∧Rt p' w' u e.2∧∀b,zar u=some b→w.heap.size≤b) :=
 zAJ hL hE hall (fun _ hC=>zp8 hP hL hC) h ht hreps hz
end
end
section
open Go Go.RowKit Go.Deep Go.ChangeShapes
section
variable {H:Type}{enc:TypeId×Value→H}{P:Program}{w:World}{held:Bool}
end
end
section
open Go.RowKit
end
section
open Go.RowKit Go.Deep Go.ChangeShapes
section
variable {H:Type}{enc:TypeId×Value→H}{P:Program}{w:World}{held:Bool}
end
end
section
open Go.RowKit
end
section
open Go.RowKit
theorem zw7 (w:World) (o:Obj) (k:Nat):(w.alloc o).heap[k]?=if k=w.heap.size then some o else w.heap[k]?:=by
 show(w.heap.push o)[k]?=_
 rw[Array.getElem?_push]
theorem zup (w:World) (o:Obj) (k:Nat) (h:k=w.heap.size):(w.alloc o).heap[k]?=some o:=by rw[zw7,if_pos h]
end
section
open Go.RowKit Go.BigFrame
theorem ztA {fn:Func}{p:Tmp}{ty:TypeId} (h:fn.results=#[.cell p ty]) (tmps:Array Value) (P:Program) (w:World) :
  (results fn tmps).run P w=((asAddr (tmps.getD p undef)).run P w).andThen fun a w₁=>(loadVar ty a).run P w₁:=by
 simp only[results,h];simp[Sem.run_bind,Result.andThen]
end
section
open Go.RowKit
end
section
open Go.RowKit Go.BigFrame
end
section
open Go.RowKit Go.BigFrame
end
section
open Go.RowKit Go.BigFrame
end
section
open Go.RowKit Go.BigFrame
end
section
open Go Go.RowKit
section
variable {P:Program}{p q:Stb}{w w':World}
theorem zrq {n b:Nat} (h0:p b=0):Evo (·=b) p w (raP p b n) w :=
 ⟨rfl,rfl,rfl,Nat.le_refl _,fun _ _ _=>rfl,fun x _=>(by
  rw[zep];split
  ·rename_i e;subst e;omega
  ·exact Nat.le_refl _),fun x _ hx=>zlx hx,fun _ _ _ _=>rfl,fun _ _=>rfl,fun _ h1 h2=>absurd h1 (Nat.not_le.2 h2)⟩
end
end
section
open Go Go.RowKit
abbrev TOrc:=FuncId→List AC→List SV→Option (AV×List AC)
structure TS where
 s:VS
 tk:List Nat
 q:List AC
def zwy (tk:List Nat):Operand→Bool
 | .tmp i=>tk.any fun t=>Nat.beq t i
 | _=>false
def zld (L:Lay) (tk:List Nat) (o:Oper):Bool:=match o.op with
 | .move x|.assign x=>zwy tk x&&(L.ti o.type).isNone
 | _=>false
def zgu (T:Nat→Bool) (o:Oper):Bool:=match o.op with
 | .call {callee:=.value (.func f),..}=>T f
 | _=>false
def zgT (d:Option Nat) (tk:List Nat):List Nat:=match d with
 | some d=>tk.filter fun t=>!Nat.beq t d
 | none=>tk
def zlf (L:Lay) (ct:TOrc) (o:Oper) (t:TS):Option (AV×List AC):=match o.op with
 | .call {callee:=.value (.func f),args,argTypes}=>match args.toList,argTypes.toList with
  | x::xs,_::ts=>if zwy t.tk x then(ze4 L t.s xs ts).bind fun vs=>ct f t.q vs else none
  | _,_=>none
 | _=>none
def zfc (b:Oper→VS→Option VS) (L:Lay) (T:Nat→Bool) (ct:TOrc) (o:Oper) (t:TS):Option TS :=
 if zgu T o then(zlf L ct o t).map fun r=>⟨t.s.put o.dst r.1,zgT o.dst t.tk,r.2⟩
 else if zld L t.tk o then match o.dst with
  | some d=>some ⟨t.s.put (some d) .und,d::t.tk,t.q⟩
  | none=>none
 else(b o t.s).map fun s'=>⟨s',zgT o.dst t.tk,t.q⟩
def zc3 (b:Oper→VS→Option VS) (L:Lay) (T:Nat→Bool) (ct:TOrc) (all:List Oper) (o:Oper) (t:TS):Option TS:=match o.guard with
 | none=>zfc b L T ct o t
 | some g=>(zck all t.s g).bind fun u=>if u then zfc b L T ct o t else some ⟨t.s.put o.dst .und,zgT o.dst t.tk,t.q⟩
def zdb (b:Oper→VS→Option VS) (L:Lay) (T:Nat→Bool) (ct:TOrc) (all:List Oper):List Oper→TS→Option TS
 | [],t=>some t
 | o::rest,t=>(zc3 b L T ct all o t).bind (zdb b L T ct all rest)
class Home where
 hm:Nat
instance zDi:Home:=⟨0⟩
def zzL [Home] (tk:List Nat):Bool:=tk.any fun t=>Nat.beq t Home.hm
def zkl [Home] (L:Lay) (T:Nat→Bool) (call:Orc) (ct:TOrc) (ops:List Oper) (d:Bool) (x:List AV×List AC):Option (List AV×List AC) :=
 (if d then zdb (zaK L call) L T ct ops ops ⟨{σ:=zit x.1,pe:=[]},[Home.hm],x.2⟩ else zdb (vop L call) L T ct ops ops ⟨{σ:=x.1,pe:=[]},[Home.hm],x.2⟩).bind fun t =>
  if zzL t.tk then some (t.s.σ,t.q) else none
def zaS [Home] (L:Lay) (T:Nat→Bool) (call:Orc) (ct:TOrc):Nat→Code→List AV×List AC→Option (Xt×(List AV×List AC))
 | 0,_,_=>none
 | n+1,c,s =>
  match c with
  | .skip=>some (.norm,s)
  | .region _ ops d=>(zkl L T call ct ops.toList d s).map fun s=>(.norm,s)
  | .seq a b=>(zaS L T call ct n a s).bind fun r=>match r with
   | (.norm,s')=>zaS L T call ct n b s'
   | r=>some r
  | .cond x a b=>(zfk L {σ:=s.1,pe:=[]} x).bind fun t=>if t then zaS L T call ct n a s else zaS L T call ct n b s
  | .block id b=>(zaS L T call ct n b s).map fun r=>match r with
   | (.exit i,s')=>if i=id then(.norm,s') else(.exit i,s')
   | r=>r
  | .loop b=>(zaS L T call ct n b s).bind fun r=>match r with
   | (.norm,s')=>zaS L T call ct n (.loop b) s'
   | r=>some r
  | .exit id=>some (.exit id,s)
  | .ret=>some (.ret,s)
  | _=>none
def zle (L:Lay) (T:Nat→Bool) (call:Orc) (ct:TOrc) (n:Nat) (fn:Func) (q:List AC) (args:List SV):Option (AV×List AC) :=
 match fn.body with
 | none=>none
 | some c=>if args.length+1≤fn.ntmps then(zaS L T call ct n c (.und::(args.map .v++List.replicate (fn.ntmps-(args.length+1)) .und),q)).bind fun r=>match r with
  | (.exit _,_)=>none
  | (_,s)=>(zeq L s.1 fn.results.toList).map fun vs=>(match vs with
   | [v]=>.v v
   | vs=>.tup vs,s.2)
  else none
def TOrc.le (a b:TOrc):Prop:=∀f q x r,a f q x=some r→b f q x=some r
structure zzv where
 run:TOrc→List AC→List SV→Option (AV×List AC)
 mono:∀a b,TOrc.le a b→∀q x r,run a q x=some r→run b q x=some r
 cont:∀(c:TOrc) (cs:Nat→TOrc),(∀n m,n≤m→TOrc.le (cs n) (cs m))→(∀f q x r,c f q x=some r→∃n,cs n f q x=some r)→∀q x r,run c q x=some r→∃n,run (cs n) q x=some r
abbrev zmy:=Nat→Option zzv
def zeb (P:Program) (L:Lay) (T:Nat→Bool) (call:Orc) (E:zmy):Nat→TOrc
 | 0,_,_,_=>none
 | n+1,f,q,args=>if T f then match E f with
  | some e=>e.run (zeb P L T call E n) q args
  | none=>match P.funcs[f]? with
   | some fn=>zle L T call (zeb P L T call E n) n fn q args
   | none=>none
  else none
end
end Go.Proofs.Ytcpcagdialnbeaa

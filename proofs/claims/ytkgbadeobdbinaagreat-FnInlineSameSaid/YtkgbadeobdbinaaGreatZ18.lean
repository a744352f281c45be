/- Generic texts and models for the proofs of this seat: part 18. -/
import Derived.Test.YtkgbadeobdbinaaGreatZ17
set_option linter.unusedVariables false
set_option linter.unusedSimpArgs false
namespace Go.Proofs.YtkgbadeobdbinaaGreat
section
open Go Go.RowKit
def zop (b:Nat) (m:Array Value) (tk:List Nat):Prop:=∀t∈tk,m.getD t undef=zbh b
section
variable {P:Program}{L:Lay}{S:Sig}{T:Nat→Bool}{call:Orc}{ct:TOrc}{p p':Stb}{w w' w1:World}{a:Act}{s s':VS}{t t':TS}{o:Oper}{st st':Stt}{Own:Nat→Prop}{base b:Nat}
theorem zhv (h:zh5 T o=true):∃f xs ts,o.op=.call {callee:=.value (.func f),args:=xs,argTypes:=ts}∧T f=true:=by
 unfold zh5 at h;split at h
 ·rename_i f xs ts hop
  exact⟨f,xs,ts,hop,h⟩
 ·cases h
theorem zmY {r:AV×List AC} (h:znM L ct o t=some r):∃f xs ts x xs' t0 ts' vs i,o.op=.call {callee:=.value (.func f),args:=xs,argTypes:=ts}∧xs.toList=x::xs'∧ts.toList=t0::ts'∧x=.tmp i∧i∈t.tk∧zgd L t.s xs' ts'=some vs∧ct f t.q vs=some r:=by
 unfold znM at h;split at h
 ·rename_i f xs ts hop
  split at h
  ·rename_i x xs' t0 ts' h1 h2
   split at h
   ·rename_i hx
    simp only[zzOb] at h;obtain⟨vs,hvs,h⟩:=h;obtain⟨i,hi,him⟩:=zsf hx;exact⟨f,xs,ts,x,xs',t0,ts',vs,i,hop,h1,h2,hi,him,hvs,h⟩
   ·cases h
  ·cases h
 ·cases h
theorem zhl {tk:List Nat} (h:znP L tk o=true):∃i,(o.op=.move (.tmp i)∨o.op=.assign (.tmp i))∧i∈tk∧L.ti o.type=none:=by
 unfold znP at h;split at h
 ·rename_i x hop
  simp only[Bool.and_eq_true,Option.isNone_iff_eq_none] at h;obtain⟨i,rfl,hi⟩:=zsf h.1;exact⟨i,.inl hop,hi,h.2⟩
 ·rename_i x hop
  simp only[Bool.and_eq_true,Option.isNone_iff_eq_none] at h;obtain⟨i,rfl,hi⟩:=zsf h.1;exact⟨i,.inr hop,hi,h.2⟩
 ·cases h
theorem zxa {q:SPe}{i d:Nat} (hop:o.op=.move (.tmp i)∨o.op=.assign (.tmp i)) (hti:L.ti o.type=none) (hv:a.tmps.getD i undef=zbh b) (hz:Zp p w) (hsz:a.tmps.size=s.σ.length) (hd:o.dst=some d) :
  Does P o a w fun v w'=>v=zbh b∧w'=w∧zjR L S q o a p w (s.put (some d) .und) v p w:=by
 have hfr:zaR L S o=[]:=by
  rcases hop with hop|hop <;> simp[zaR,hop]
 have hmv:zaT L q o=[]:=by
  rcases hop with hop|hop <;> simp[zaT,hop,hti]
 have hev:(execOp a.eval o).run P w=.ok (.value (zbh b)) w:=by
  have:a.eval (.tmp i)=zbh b:=hv
  rcases hop with hop|hop <;> simp[execOp,hop,this]
 refine zaX hev ⟨rfl,rfl,.refl _ _ _,hz,?_,?_,fun _ _ _=>.inr ⟨hfr,hmv⟩,by rw[hfr];simp,by rw[hfr];simp,by rw[hmv];simp⟩
 ·have:=zb0 (o:=o) (w:=w) (p:=p) (a:=a) (s:=s) (x:=.und) (v:=zbh b) hsz (by intro c h;cases h)
  intro d' hd';have h1:=this d' hd'
  rw[hd] at hd';cases hd';rw[hd] at h1 ⊢;exact h1
 ·intro d' cs hd' h
  rw[hd] at hd';cases hd';rw[zcg] at h;split at h <;> cases h
theorem zBu (hC:zdh P S T ct) (hI:Inv st p w a.tmps t.s Own) (htk:zop b a.tmps t.tk) (hK:TK p w Own b t.q) (hk:zh5 T o=true∨znP L t.tk o=true) {bop:Oper→VS→Option VS} (hs:zgi bop L T ct o t=some t') (hstep:zd9 L S base o st=some st')
  (hb1:∀q id,(q,id)∈st.pid→id<base) (hb2:∀id k,(id,k)∈st.alive→id<base) :
  Does P o a w fun v w'=>∃p',Inv st' p' w' (a.put o.dst v).tmps t'.s Own∧Evo (fun c=>Own c∨c=b) p w p' w'∧TK p' w' Own b t'.q∧zop b (a.put o.dst v).tmps t'.tk:=by
 have hkeep:∀v,zop b (a.put o.dst v).tmps (ziP o.dst t.tk):=fun v x hx=>by
  obtain⟨h1,h2⟩:=zme hx;rw[zaV h2];exact htk x h1
 unfold zgi at hs;split at hs
 ·rename_i hT
  simp only[zzOm] at hs;obtain⟨r,hcall,rfl⟩:=hs;obtain⟨f,xs,ts,x,xs',t0,ts',vs,i,hop,hxs,hts,hx,him,hvs,hct⟩:=zmY hcall;obtain⟨f',xs2,ts2,hop',hTf⟩:=zhv hT;rw[hop] at hop';cases hop';have hreps:=zmB (p:=p) (w:=w) (a:=a) _ _ _ hvs (fun x _ t _=>hI.slots t)
  have htakes:=(hC f hTf).1
  have heats:zb6 L S o=[]:=by simp[zb6,hop,htakes]
  have hmv:zaT L st.spe o=[]:=by simp[zaT,hop]
  refine(zrH (L:=L) (q:=st.spe) (s:=t.s) hC hop hTf hxs (by rw[hx];exact htk i him) hreps hct hK hI.zp hI.size).mono ?_
  rintro v w' ⟨p',w1,hp,he1,hs1,hT'⟩
  obtain⟨hF,ho⟩:=zaq (o:=o) hI.once r.1;have hsp:zb7 (zbT L o st.spe) (t.s.put o.dst r.1):=zjf hI.spe hI.sonce hI.once r.1 (by simp[hop]) (by simp[hop])
  have hval:zbS r.1=false:=by
   have:=((hC f hTf).2 _ _ _ hct).1.1
   cases hr:r.1 <;> simp_all [zkS,zbS]
  obtain⟨g1,g2⟩:=zp8 (hI.off he1 hs1 hK.not) hF ho hsp hstep (by rw[heats];intro x hx;cases hx) (by rw[heats];intro x hx;cases hx) hb1 hb2 hp (.plain (zbf hval) (by rw[hmv];intro e he;cases he))
  exact⟨p',g1,he1.trans g2 (fun _ _ h=>.inr h) (fun _ _ h=>.inl h),hT',hkeep v⟩
 ·rename_i hnT
  split at hs
  case isFalse h=>rcases hk with hk|hk <;> contradiction
  rename_i hto;split at hs
  case h_2=>cases hs
  rename_i d hd;cases hs;obtain⟨i,hop,him,hti⟩:=zhl hto;refine(zxa (S:=S) (q:=st.spe) (s:=t.s) hop hti (htk i him) hI.zp hI.size hd).mono ?_
  rintro v w' ⟨hv,rfl,hp⟩
  have heats:zb6 L S o=[]:=by rcases hop with hop|hop <;> simp[zb6,hop]
  have hmv:zaT L st.spe o=[]:=by rcases hop with hop|hop <;> simp[zaT,hop,hti]
  obtain⟨hF,ho⟩:=zaq (o:=o) hI.once .und;have hsp:zb7 (zbT L o st.spe) (t.s.put o.dst .und):=zjf hI.spe hI.sonce hI.once .und (by rcases hop with hop|hop <;> simp[hop]) (by rcases hop with hop|hop <;> simp[hop])
  rw[hd] at hF ho hsp;obtain⟨g1,g2⟩:=zp8 hI hF ho hsp hstep (by rw[heats];intro x hx;cases hx) (by rw[heats];intro x hx;cases hx) hb1 hb2 hp (.plain (by
   intro d' hd';rw[hd] at hd';cases hd';rw[zcg];split <;> rfl) (by rw[hmv];intro e he;cases he))
  refine⟨p,g1,g2.weaken (fun _ _ h=>.inl h),hK,fun x hx=>?_⟩
  by_cases hxd:o.dst=some x
  ·rw[hxd,zg7]
   ·exact hv
   ·have:=(zpQ hI hstep).2 x hxd
    rw[hI.size];exact this
  ·rw[zaV hxd]
   rcases List.mem_cons.1 hx with rfl|hx
   ·exact absurd hd hxd
   ·exact htk x hx
theorem zA0 (hL:LayOk P L) (hC:zbe P S call) (hT:zdh P S T ct) {ops:Array Oper}{i:Nat} (hi:ops[i]?=some o) (hI:Inv st p w a.tmps t.s Own) (hids:zcR st base) (htk:zop b a.tmps t.tk) (hK0:TK p w Own b t.q)
  (hs:zdn (vop L call) L T ct ops.toList o t=some t') (hstep:zqF L S base o st=some st')
  {Q:Exit→Act→World→Prop}{K:Act→World→Prop} (hK:∀a' w' p',Inv st' p' w' a'.tmps t'.s Own→zop b a'.tmps t'.tk→TK p' w' Own b t'.q→Evo (fun c=>Own c∨c=b) p w p' w'→a'.defers=a.defers→K a' w'):wpOp P ops Q i K a w:=by
 have hkeep:∀(m:Array Value),(∀t,o.dst≠some t→m.getD t undef=a.tmps.getD t undef)→zop b m (ziP o.dst t.tk):=fun m hm x hx=>by
  obtain⟨h1,h2⟩:=zme hx;rw[hm x h2];exact htk x h1
 by_cases hk:zh5 T o=true∨znP L t.tk o=true
 ·have hst:zaD o=false:=by
   rcases hk with hk|hk
   ·obtain⟨f,xs,ts,hop,_⟩:=zhv hk
    simp[zaD,hop]
   ·obtain⟨j,hop,_⟩:=zhl hk
    rcases hop with hop|hop <;> simp[zaD,hop]
  have hel:zoR o st=false:=by
   unfold zoR;split
   ·rename_i hop
    simp[zaD,hop] at hst
   ·rfl
  have hstep0:=hstep
  unfold zqF at hstep0;rw[if_neg (by rw[hel];simp)] at hstep0
  simp only[zzOm] at hstep0;obtain⟨st1,hstep1,rfl⟩:=hstep0;have hstep':=zbF hst hstep1
  have hni:∀x y z,o.op≠.indexAddr x y z:=fun x y z e=>by
   rcases hk with hk|hk
   ·obtain⟨f,xs,ts,hop,_⟩:=zhv hk
    rw[hop] at e;cases e
   ·obtain⟨j,hop,_⟩:=zhl hk
    rcases hop with hop|hop <;> (rw[hop] at e;cases e)
  have hnbF:∀s',zf3 o t.s s'→zxb (zm7 o st.nb) s':=fun s' hF=>zqf hF hI.nbk fun d _ ⟨x,y,z,e⟩=>absurd e (hni x y z)
  have hsF:∀t',zgi (vop L call) L T ct o t=some t'→zf3 o t.s t'.s:=fun t' h=>by
   unfold zgi at h;split at h
   ·simp only[zzOm] at h
    obtain⟨r,_,rfl⟩:=h;exact(zaq hI.once _).1
   ·split at h
    ·split at h
     ·rename_i d hd
      cases h;have:=(zaq (o:=o) hI.once .und).1
      rw[hd] at this;exact this
     ·cases h
    ·rename_i h1 h2
     rcases hk with hk|hk <;> contradiction
  unfold wpOp;rw[hi];simp only;have hdef:∀v,(a.put o.dst v).defers=a.defers:=fun v=>by cases o.dst <;> rfl
  have hdo:zgi (vop L call) L T ct o t=some t'→o.wp P a w K Q:=by
   intro hs;exact zBu hT hI htk hK0 hk hs hstep' hids.1 hids.2 K Q fun v w' ⟨p',h1,h2,h3,h4⟩=>hK _ _ p' (Inv.withNb (a:=a.put o.dst v) h1 (hnbF _ (hsF _ hs))) h4 h3 h2 (hdef v)
  unfold zdn at hs;split at hs
  ·rename_i hg
   have hw:Region.wanted o (yielded ops a.tmps)=true:=by unfold Region.wanted;rw[hg]
   rw[if_pos hw];exact .inl (hdo hs)
  ·rename_i g hg
   simp only[zzOb] at hs;obtain⟨u,hu,hs⟩:=hs;have hw:=zmQ hI.size (fun d _=>hI.slots d) hg hu
   cases u with
   | true =>
    rw[if_pos hw];exact .inl (hdo hs)
   | false =>
    rw[if_neg (by rw[hw];simp)]
    simp only[Bool.false_eq_true,if_false,Option.some.injEq] at hs;subst hs;exact hK _ _ p (Inv.withNb (a:=a.put o.dst undef) (step_skip hI hg hstep') (hnbF _ (zaq hI.once .und).1)) (hkeep _ fun t ht=>zaV ht) hK0 (.refl _ _ _) (hdef _)
 ·have hs':zyY L call ops.toList o t.s=some t'.s∧t'.tk=ziP o.dst t.tk∧t'.q=t.q:=by
   have hv:∀t',zgi (vop L call) L T ct o t=some t'→vop L call o t.s=some t'.s∧t'.tk=ziP o.dst t.tk∧t'.q=t.q:=fun t' h=>by
    unfold zgi at h;rw[if_neg (fun e=>hk (.inl e)),if_neg (fun e=>hk (.inr e))] at h
    simp only[zzOm] at h;obtain⟨s',h1,rfl⟩:=h;exact⟨h1,rfl,rfl⟩
   unfold zdn at hs;unfold zyY;split at hs
   ·rename_i hg
    rw[hg];exact hv t' hs
   ·rename_i g hg
    rw[hg];simp only[zzOb] at hs ⊢;obtain⟨u,hu,hs⟩:=hs;cases u with
    | true=>obtain⟨h1,h2⟩:=hv t' hs;exact⟨⟨true,hu,h1⟩,h2⟩
    | false =>
     simp only[Bool.false_eq_true,if_false,Option.some.injEq] at hs;subst hs;exact⟨⟨false,hu,rfl⟩,rfl,rfl⟩
  obtain⟨hs1,hs2,hs3⟩:=hs';refine zuY hL hC hi hI hids hs1 hstep fun a' w' p' g1 g2 g3 g4=>?_
  exact hK a' w' p' g1 (by rw[hs2];exact hkeep _ g4) (by rw[hs3];exact hK0.evo g2) (g2.weaken fun _ _ h=>.inl h) g3
theorem zzg (hL:LayOk P L) (hC:zbe P S call) (hT:zdh P S T ct) {ops:Array Oper}{i:Nat} (hi:ops[i]?=some o) (hI:Inv st p w a.tmps t.s Own) (hids:zcR st base) (htk:zop b a.tmps t.tk) (hK0:TK p w Own b t.q)
  (hs:zdn (zaS L call) L T ct ops.toList o t=some t') (hstep:zdk L S base o st=some st')
  {Q:Exit→Act→World→Prop}{K:Act→World→Prop} (hK:∀a' w' p',Inv st' p' w' a'.tmps t'.s Own→zop b a'.tmps t'.tk→TK p' w' Own b t'.q→Evo (fun c=>Own c∨c=b) p w p' w'→a'.defers=a.defers→K a' w'):wpOp P ops Q i K a w:=by
 have hkeep:∀(m:Array Value),(∀t,o.dst≠some t→m.getD t undef=a.tmps.getD t undef)→zop b m (ziP o.dst t.tk):=fun m hm x hx=>by
  obtain⟨h1,h2⟩:=zme hx;rw[hm x h2];exact htk x h1
 by_cases hk:zh5 T o=true∨znP L t.tk o=true
 ·have hst:zaD o=false:=by
   rcases hk with hk|hk
   ·obtain⟨f,xs,ts,hop,_⟩:=zhv hk
    simp[zaD,hop]
   ·obtain⟨j,hop,_⟩:=zhl hk
    rcases hop with hop|hop <;> simp[zaD,hop]
  have hstep':=zbF hst hstep
  unfold wpOp;rw[hi];simp only;have hdef:∀v,(a.put o.dst v).defers=a.defers:=fun v=>by cases o.dst <;> rfl
  have hdo:zgi (zaS L call) L T ct o t=some t'→o.wp P a w K Q:=by
   intro hs;exact zBu hT hI htk hK0 hk hs hstep' hids.1 hids.2 K Q fun v w' ⟨p',h1,h2,h3,h4⟩=>hK _ _ p' h1 h4 h3 h2 (hdef v)
  unfold zdn at hs;split at hs
  ·rename_i hg
   have hw:Region.wanted o (yielded ops a.tmps)=true:=by unfold Region.wanted;rw[hg]
   rw[if_pos hw];exact .inl (hdo hs)
  ·rename_i g hg
   simp only[zzOb] at hs;obtain⟨u,hu,hs⟩:=hs;have hw:=zmQ hI.size (fun d _=>hI.slots d) hg hu
   cases u with
   | true =>
    rw[if_pos hw];exact .inl (hdo hs)
   | false =>
    rw[if_neg (by rw[hw];simp)]
    simp only[Bool.false_eq_true,if_false,Option.some.injEq] at hs;subst hs;exact hK _ _ p (step_skip hI hg hstep') (hkeep _ fun t ht=>zaV ht) hK0 (.refl _ _ _) (hdef _)
 ·have hs':zdx L call ops.toList o t.s=some t'.s∧t'.tk=ziP o.dst t.tk∧t'.q=t.q:=by
   have hv:∀t',zgi (zaS L call) L T ct o t=some t'→zaS L call o t.s=some t'.s∧t'.tk=ziP o.dst t.tk∧t'.q=t.q:=fun t' h=>by
    unfold zgi at h;rw[if_neg (fun e=>hk (.inl e)),if_neg (fun e=>hk (.inr e))] at h
    simp only[zzOm] at h;obtain⟨s',h1,rfl⟩:=h;exact⟨h1,rfl,rfl⟩
   unfold zdn at hs;unfold zdx;split at hs
   ·rename_i hg
    rw[hg];exact hv t' hs
   ·rename_i g hg
    rw[hg];simp only[zzOb] at hs ⊢;obtain⟨u,hu,hs⟩:=hs;cases u with
    | true=>obtain⟨h1,h2⟩:=hv t' hs;exact⟨⟨true,hu,h1⟩,h2⟩
    | false =>
     simp only[Bool.false_eq_true,if_false,Option.some.injEq] at hs;subst hs;exact⟨⟨false,hu,rfl⟩,rfl,rfl⟩
  obtain⟨hs1,hs2,hs3⟩:=hs';refine zv2 hL hC hi hI hids hs1 hstep fun a' w' p' g1 g2 g3 g4=>?_
  exact hK a' w' p' g1 (by rw[hs2];exact hkeep _ g4) (by rw[hs3];exact hK0.evo g2) (g2.weaken fun _ _ h=>.inl h) g3
theorem zwE (hL:LayOk P L) (hC:zbe P S call) (hT:zdh P S T ct) {ops:Array Oper}{Q:Exit→Act→World→Prop}:∀(l:List Nat) (os:List Oper),l.map (ops[·]?)=os.map some→∀(base base':Nat) (st st':Stt) (p:Stb) (w:World) (a:Act) (t t':TS),
  Inv st p w a.tmps t.s Own→zcR st base→zop b a.tmps t.tk→TK p w Own b t.q→zdC (vop L call) L T ct ops.toList os t=some t'→zlG L S base os st=some (base',st') →
  (∀a' w' p',Inv st' p' w' a'.tmps t'.s Own→zop b a'.tmps t'.tk→TK p' w' Own b t'.q→Evo (fun c=>Own c∨c=b) p w p' w'→a'.defers=a.defers→Q .normal a' w')→wpOps P ops Q l a w
 | [],os,hl,base,base',st,st',p,w,a,t,t',hI,hids,htk,hK,hs,hst,hQ=>by
  have:os=[]:=by simpa using hl.symm
  subst this;cases hs;cases hst;exact hQ a w p hI htk hK (.refl _ _ _) rfl
 | i::l,[],hl,_,_,_,_,_,_,_,_,_,_,_,_,_,_,_,_=>by simp at hl
 | i::l,o::os,hl,base,base',st,st',p,w,a,t,t',hI,hids,htk,hK,hs,hst,hQ=>by
  simp only[List.map_cons,List.cons.injEq] at hl;simp only[zdC,zzOb] at hs;obtain⟨t1,hs1,hs⟩:=hs;simp only[zlG,zzOb] at hst;obtain⟨st1,hst1,hst⟩:=hst;rw[wpOps_cons];refine zA0 hL hC hT hl.1 hI hids htk hK hs1 hst1 fun a1 w1 p1 hI1 htk1 hK1 hev1 hd1=>?_
  exact zwE hL hC hT l os hl.2 _ base' st1 st' p1 w1 a1 t1 t' hI1 (zr2 hids hst1) htk1 hK1 hs hst fun a' w' p' h1 h2 h3 h4 h5=>hQ a' w' p' h1 h2 h3 (hev1.trans h4 (fun _ _ h=>h) (fun _ _ h=>h)) (h5.trans hd1)
end
end
section
open Go Go.RowKit
section
variable {P:Program}{L:Lay}{S:Sig}{T:Nat→Bool}{call:Orc}{ct:TOrc}{p p':Stb}{w w' w1:World}{a:Act}{s s':VS}{t t':TS}{o:Oper}{st st':Stt}{Own:Nat→Prop}{base b:Nat}{all:List Oper}{q:SPe}
theorem zy6 (hn:NoTwice s.pe) (h:zfD s) {x:AV} (hx:zbS x=false):zfD (s.put o.dst x):=by
 have hF:=(zaq (o:=o) hn x).1
 have key:∀u,(s.put o.dst x).get u=s.get u∨(s.put o.dst x).get u=x∨(s.put o.dst x).get u=.und:=fun u=>by
  by_cases hd:o.dst=some u
  ·rw[hd,zcg]
   split
   ·exact .inr (.inl rfl)
   ·exact .inr (.inr rfl)
  ·exact .inl (hF.get u hd)
 refine⟨fun u d k n j hl=>?_,fun u k r hr=>?_,fun u d hr=>?_⟩
 ·by_cases hd:o.dst=some u
  ·rw[hd,zcU] at hl;cases hl
  ·exact h.1 u d k n j (hF.pe u _ hd hl).1
 ·rcases key u with e|e|e
  ·rw[e] at hr;exact h.2.1 u k r hr
  ·rw[e] at hr;rw[hr] at hx;cases hx
  ·rw[e] at hr;cases hr
 ·rcases key u with e|e|e
  ·rw[e] at hr;exact h.2.2 u d hr
  ·rw[e] at hr;rw[hr] at hx;cases hx
  ·rw[e] at hr;cases hr
theorem zod (hC:zdh P S T ct) (h:zdn (zaS L call) L T ct all o t=some t'):(zdx L call all o t.s=some t'.s)∨(∃x,t'.s=t.s.put o.dst x∧zbS x=false∧zmJ o=false):=by
 have hv:∀t',zgi (zaS L call) L T ct o t=some t'→zaS L call o t.s=some t'.s∨(∃x,t'.s=t.s.put o.dst x∧zbS x=false∧zmJ o=false):=fun t' h=>by
  unfold zgi at h;split at h
  ·rename_i hT
   simp only[zzOm] at h;obtain⟨r,hcall,rfl⟩:=h;obtain⟨f,xs,ts,x,xs',t0,ts',vs,i,hop,_,_,_,_,_,hct⟩:=zmY hcall;obtain⟨f',xs2,ts2,hop',hTf⟩:=zhv hT;rw[hop] at hop';cases hop';have:=((hC f hTf).2 _ _ _ hct).1.1
   exact .inr ⟨r.1,rfl,by cases hr:r.1 <;> simp_all [zkS,zbS],by simp[zmJ,hop]⟩
  ·split at h
   ·rename_i hto
    split at h
    ·rename_i d hd
     cases h;obtain⟨j,hop,_⟩:=zhl hto;exact .inr ⟨.und,by rw[hd],rfl,by rcases hop with hop|hop <;> simp[zmJ,hop]⟩
    ·cases h
   ·simp only[zzOm] at h
    obtain⟨s',h1,rfl⟩:=h;exact .inl h1
 unfold zdn at h;unfold zdx;split at h
 ·rename_i hg
  rw[hg];exact hv t' h
 ·rename_i g hg
  rw[hg];simp only[zzOb] at h ⊢;obtain⟨u,hu,h⟩:=h;cases u with
  | true =>
   rcases hv t' h with h1|h1
   ·exact .inl ⟨true,hu,h1⟩
   ·exact .inr h1
  | false =>
   simp only[Bool.false_eq_true,if_false,Option.some.injEq] at h;subst h;exact .inl ⟨false,hu,rfl⟩
theorem zD4 (hC:zdh P S T ct) (h:zdn (zaS L call) L T ct all o t=some t'):zDt L call all o t.s t'.s:=by
 rcases zod hC h with h1|⟨x,h1,_,h2⟩
 ·exact .inl h1
 ·exact .inr ⟨⟨x,h1⟩,h2⟩
theorem zBQ (hC:zdh P S T ct) (hval:∀f args r,call f args=some r→zkS r=true):∀(os:List Oper) (base bm:Nat) (t tm:TS) (st stm:Stt),(∀o∈os,zaD o=false)→zdC (zaS L call) L T ct all os t=some tm→zcF L S base os st=some (bm,stm)→zcR st base→NoTwice t.s.pe→NoTwice st.spe→zb7 st.spe t.s→zfD t.s →
  ∃(tr:List Rec) (ts:Nat→TS),tr.map (·.o)=os∧(∀r∈tr,zwS L S call all r)∧(∀r,tr[0]?=some r→r.s=t.s∧r.st=st∧r.base=base) ∧
   (∀(j:Nat) (r r':Rec),tr[j]?=some r→tr[j+1]?=some r'→r'.s=r.s'∧r'.st=r.st'∧r'.base=r.base+ziM L S r.o) ∧
   (∀r,tr.getLast?=some r→tm.s=r.s'∧stm=r.st')∧(tr=[]→tm.s=t.s∧stm=st)∧NoTwice tm.s.pe∧NoTwice stm.spe∧zb7 stm.spe tm.s∧zcR stm bm∧zfD tm.s ∧
   ts 0=t∧ts tr.length=tm∧∀(j:Nat) (r:Rec),tr[j]?=some r→r.s=(ts j).s∧r.s'=(ts (j+1)).s∧zdn (zaS L call) L T ct all r.o (ts j)=some (ts (j+1))
 | [],base,bm,t,tm,st,stm,_,hv,hst,hids,h1,h2,h3,h4=>by
  cases hv;cases hst;exact⟨[],fun _=>t,rfl,fun r h=>(by cases h),fun r h=>(by cases h),fun j r r' h=>(by simp at h),fun r h=>(by cases h),fun _=>⟨rfl,rfl⟩,h1,h2,h3,hids,h4,rfl,rfl,fun j r h=>(by simp at h)⟩
 | o::os,base,bm,t,tm,st,stm,hns,hv,hst,hids,h1,h2,h3,h4=>by
  simp only[zdC,zzOb] at hv;obtain⟨t1,hv1,hv⟩:=hv;simp only[zcF,zzOb] at hst;obtain⟨st1,hst1,hst⟩:=hst;have hso:=hns o List.mem_cons_self
  have hsv:=zpr (zbF hso hst1)
  have hids1:=zpH hids hst1
  have hR:=zD4 hC hv1
  have hsp1:zb7 (zbT L o st.spe) t1.s:=by
   rcases zod hC hv1 with h|⟨x,h,_,hp⟩
   ·exact zwd h hso h3 h2 h1
   ·rw[h]
    exact zjf h3 h2 h1 x (fun a b c e=>by simp[zmJ,e] at hp) (fun a b c e=>by simp[zmJ,e] at hp)
  have hnr1:zfD t1.s:=by
   rcases zod hC hv1 with h|⟨x,h,hx,_⟩
   ·exact zqK h hso hval h1 h4
   ·rw[h];exact zy6 h1 h4 hx
  obtain⟨tr,ts,k1,k2,k3,k4,k5,k6,k7,k8,k9,k10,k11,k12,k13,k14⟩:=zBQ hC hval os _ bm t1 tm st1 stm (fun o ho=>hns o (List.mem_cons_of_mem _ ho)) hv hst hids1 (zkL hR hso h1).2 (by rw[hsv.1];exact znp L o h2) (by rw[hsv.1];exact hsp1) hnr1
  refine⟨⟨o,t.s,t1.s,base,st,st1⟩::tr,fun|0=>t|n+1=>ts n,by simp[k1],fun r hr=>?_,fun r hr=>?_,fun j r r' hr hr'=>?_,fun r hr=>?_,fun h=>(by cases h),k7,k8,k9,k10,k11,rfl,by simpa using k13,fun j r hr=>?_⟩
  ·rcases List.mem_cons.1 hr with rfl|hr
   ·exact⟨hR,hst1,hids,h1,h2,h3,h4⟩
   ·exact k2 r hr
  ·simp at hr
   subst hr;exact⟨rfl,rfl,rfl⟩
  ·match j with
   | 0 =>
    simp at hr hr'
    subst hr;obtain⟨e1,e2,e3⟩:=k3 r' hr';exact⟨e1,e2,e3⟩
   | j+1=>exact k4 j r r' (by simpa using hr) (by simpa using hr')
  ·cases htr:tr with
   | nil =>
    rw[htr] at hr;simp at hr
    subst hr;exact k6 htr
   | cons x l =>
    rw[htr] at hr;rw[List.getLast?_cons_cons] at hr;exact k5 r (by rw[htr];exact hr)
  ·match j with
   | 0 =>
    simp at hr
    subst hr;simp only[k12];exact⟨trivial,trivial,hv1⟩
   | j+1=>exact k14 j r (by simpa using hr)
variable {tr:List Rec}{s0 sm:VS}{t0 tm:Stt}{b0:Nat}{D:Nat→Prop}
theorem InvD.off {m:Array Value} (hI:InvD L S tr s0 sm t0 tm b0 D p w m Own) (he:Evo (·=b) p w p w1) (hs:w1.heap.size=w.heap.size) (hb:¬Own b) (hnr:zfD sm):InvD L S tr s0 sm t0 tm b0 D p w1 m Own:=by
 obtain⟨val,hpl,hal,hown,hap⟩:=hI.rooms;have hbox:∀d cs,Vis tr D d→sm.get d=.box cs→m.getD d undef≠.pointer (some ⟨b,0,none⟩):=fun d cs hv hd e=>by
  obtain⟨c,e1,_,h1,_⟩:=hI.box d cs hv hd;rw[e] at e1;cases e1;exact hb h1
 have hzp:Zp p w1:=⟨fun c hc=>hI.zp.1 c (by rw[←hs];exact hc),fun c hc=>hI.zp.2 c (by rw[←hs];exact hc)⟩
 refine⟨hI.size,fun t ht=>?_,hzp,fun c hc=>hI.own c (by rw[←hs];exact hc),fun d cs hv hd=>?_,hI.boxd,hI.ate,val,fun z id hm hv=>?_,fun id k hm=>?_,hown,hap⟩
 ·obtain⟨g1,g2⟩:=hI.slots t ht
  refine⟨zfG he (fun cs hcs c hc e=>by subst e;exact hbox t cs ht hcs hc) (fun k rows hk=>absurd hk (hnr.2.1 t k rows)) g1,fun r hr=>?_⟩
  have:=g2 r hr
  cases r with
  | ref cs=>exact PRef.evo he this
  | box d off=>exact this
  | el d k n j=>exact this
 ·obtain⟨c,h1,h2,h3,h4⟩:=hI.box d cs hv hd
  exact⟨c,h1,h2,h3,by rw[hs];exact h4⟩
 ·obtain⟨h1,h2,h3⟩:=hpl z id hm hv
  refine⟨?_,h2,h3⟩
  have hsl:=(hI.slots z.1 hv).1
  cases hx:sm.get z.1 with
  | und=>exact absurd hx h2
  | v x=>rw[hx] at hsl;rw[zbw hsl] at h1 ⊢;exact h1
  | tup xs=>rw[hx] at hsl;obtain⟨arr,e,_⟩:=hsl;rw[e] at h1 ⊢;exact h1
  | al d=>rw[hx] at hsl;obtain⟨_,_,_,e⟩:=hsl;rw[e] at h1 ⊢;exact h1
  | arr k rows=>exact absurd hx (hnr.2.1 z.1 k rows)
  | box cs =>
   obtain⟨c,e,_,h3,hlt⟩:=hI.box z.1 cs hv hx;rw[e] at h1 ⊢;show w1.cell? ⟨c,z.2,none⟩=_
   rw[World.cell?_of_block (w:=w) (he.block c hlt (fun e=>hb (by rw[←e];exact h3)))]
   exact h1
 ·exact(hal id k hm).evo he (fun c hc e=>by subst e;exact hb (hown id k _ hm hc).1)
def zGf (o:Oper):Bool:=match o.op with
 | .call _=>true
 | _=>false
def zn0:Nat→List Oper→Oper→Nat→Bool
 | 0,_,o,i=>zcZ o i
 | n+1,ops,o,i=>zcZ o i||(List.range ops.length).any fun k=>zcZ o k&&match ops[k]? with
  | some o'=>zGf o'&&zn0 n ops o' i
  | none=>false
def zyb (T:Nat→Bool) (ops:List Oper):Bool:=ops.zipIdx.all fun e=>!zh5 T e.1||(List.range e.2).all fun i=>match ops[i]? with
 | some o=>!zh5 T o||zn0 8 ops e.1 i
 | none=>true
theorem zyZ {ops:List Oper} (h:zyb T ops=true):∀(i j:Nat) (o o':Oper),i<j→ops[i]?=some o→ops[j]?=some o'→zh5 T o=true→zh5 T o'=true→zn0 8 ops o' i=true:=by
 intro i j o o' hij hi hj h1 h2;unfold zyb at h;have:=List.all_eq_true.1 h _ (zdm hj)
 simp only[h2,Bool.not_true,Bool.false_or,List.all_eq_true,List.mem_range] at this;have:=this i hij
 rw[hi] at this
 simpa [h1] using this
theorem zud {ops:List Oper}{D:Nat→Prop} (hcl:∀(k:Nat) (o:Oper),ops[k]?=some o→D k→∀i,zcZ o i=true→D i):∀(n:Nat) (o:Oper) (i:Nat),zn0 n ops o i=true→(∀k,zcZ o k=true→D k)→D i
 | 0,o,i,h,hw=>hw i h
 | n+1,o,i,h,hw=>by
  simp only[zn0,Bool.or_eq_true,List.any_eq_true,Bool.and_eq_true] at h;rcases h with h|⟨k,_,h1,h2⟩
  ·exact hw i h
  ·split at h2
   ·rename_i o' ho
    rw[Bool.and_eq_true] at h2;exact zud hcl n o' i h2.2 (fun m hm=>hcl k o' ho (hw k h1) m hm)
   ·cases h2
theorem zvV (h:zdn (zaS L call) L T ct all o t=some t'):(zh5 T o=false→t'.q=t.q)∧(t'.tk=ziP o.dst t.tk∨∃d,o.dst=some d∧znP L t.tk o=true∧t'.tk=d::t.tk∧zgi (zaS L call) L T ct o t=some t'):=by
 have hv:∀t',zgi (zaS L call) L T ct o t=some t'→(zh5 T o=false→t'.q=t.q)∧(t'.tk=ziP o.dst t.tk∨∃d,o.dst=some d∧znP L t.tk o=true∧t'.tk=d::t.tk∧zgi (zaS L call) L T ct o t=some t'):=fun t' h=>by
  have h0:=h
  unfold zgi at h;split at h
  ·rename_i hT
   simp only[zzOm] at h;obtain⟨r,_,rfl⟩:=h;exact⟨(fun e=>by rw[e] at hT;cases hT),.inl rfl⟩
  ·split at h
   ·rename_i hto
    split at h
    ·rename_i d hd
     cases h;exact⟨fun _=>rfl,.inr ⟨d,hd,hto,rfl,h0⟩⟩
    ·cases h
   ·simp only[zzOm] at h
    obtain⟨s',_,rfl⟩:=h;exact⟨fun _=>rfl,.inl rfl⟩
 unfold zdn at h;split at h
 ·exact hv t' h
 ·simp only[zzOb] at h
  obtain⟨u,hu,h⟩:=h;cases u with
  | true=>exact hv t' h
  | false =>
   simp only[Bool.false_eq_true,if_false,Option.some.injEq] at h;subst h;exact⟨fun _=>rfl,.inl rfl⟩
theorem zpj {ts:Nat→TS} (hts:∀(j:Nat) (r:Rec),tr[j]?=some r→zdn (zaS L call) L T ct all r.o (ts j)=some (ts (j+1))) {x:Nat}:∀(k i:Nat),i+k≤tr.length→(∀(y:Nat) (r:Rec),i≤y→y<i+k→tr[y]?=some r→r.o.dst≠some x)→(x∈(ts (i+k)).tk↔x∈(ts i).tk)
 | 0,i,_,_=>Iff.rfl
 | k+1,i,hle,hd=>by
  have ih:=zpj hts (x:=x) k i (by omega) (fun y r h1 h2 hr=>hd y r h1 (by omega) hr)
  obtain⟨r,hr⟩:∃r,tr[i+k]?=some r:=⟨tr[i+k]'(by omega),List.getElem?_eq_getElem _⟩
  rw[←ih,show i+(k+1)=i+k+1 by omega]
  have hne:=hd (i+k) r (by omega) (by omega) hr
  rcases(zvV (hts _ r hr)).2 with h|⟨d,hd',_,h,_⟩
  ·rw[h]
   constructor
   ·intro hx;exact(zme hx).1
   ·intro hx
    unfold ziP;split
    ·rename_i d hdd
     rw[List.mem_filter];refine⟨hx,?_⟩
     simp only[Bool.not_eq_true'];cases hb:Nat.beq x d with
     | false=>rfl
     | true=>exact absurd (by rw[hdd,Nat.eq_of_beq_eq_true hb]) hne
    ·exact hx
  ·rw[h,List.mem_cons]
   constructor
   ·rintro(rfl|hx)
    ·exact absurd hd' hne
    ·exact hx
   ·exact .inr
theorem zuM {ts:Nat→TS} (hts:∀(j:Nat) (r:Rec),tr[j]?=some r→zdn (zaS L call) L T ct all r.o (ts j)=some (ts (j+1))):∀(k i:Nat),i+k≤tr.length→(∀(y:Nat) (r:Rec),i≤y→y<i+k→tr[y]?=some r→zh5 T r.o=false)→(ts (i+k)).q=(ts i).q
 | 0,i,_,_=>rfl
 | k+1,i,hle,hd=>by
  have ih:=zuM hts k i (by omega) (fun y r h1 h2 hr=>hd y r h1 (by omega) hr)
  obtain⟨r,hr⟩:∃r,tr[i+k]?=some r:=⟨tr[i+k]'(by omega),List.getElem?_eq_getElem _⟩
  rw[←ih,show i+(k+1)=i+k+1 by omega]
  exact(zvV (hts _ r hr)).1 (hd (i+k) r (by omega) (by omega) hr)
end
end
end Go.Proofs.YtkgbadeobdbinaaGreat

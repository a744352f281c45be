/- Generic texts and models for the proofs of this seat: part 15. -/
import Derived.Test.YtcpcagdialnbeaaY14
set_option linter.unusedVariables false
set_option linter.unusedSimpArgs false
namespace Go.Proofs.Ytcpcagdialnbeaa
section
open Go Go.RowKit
def ziL (os:List Oper):List Oper:=if zpu os then os else os.dropLast
def zr2 (os:List Oper):Bool :=
 zpu (ziL os) &&
 os.zipIdx.all (fun e=>e.1.after.toList.all fun x=>!Region.binds .any x||decide (x.on<e.2)) &&
 (ziL os).all (fun o=>match o.guard with|some g=>decide (g.1<(ziL os).length)|none=>true) &&
 ((ziL os).length==os.length||(match os.getLast? with|some o=>(List.range (ziL os).length).all fun i=>zcx o i|none=>false))
def zpo:zjN:=fun L S ops st =>
 if st.spe.isEmpty&&st.nb.isEmpty&&zr2 ops.toList then(zcl L S (zhI st) ops.toList st).map fun r=>{pid:=r.2.pid,alive:=r.2.alive,spe:=[],len:=r.2.len,made:=r.2.made} else none
section
variable {P:Program}{L:Lay}{S:Sig}{call:Orc}{tr:List Rec}{s0 sm:VS}{t0 tm:Stt}{b0:Nat}{Own:Nat→Prop}{p:Stb}{w:World}{a:Act}{D:Nat→Prop}{all:List Oper}
theorem InvD.full {m:Array Value} (h:Tr L S call all tr s0 t0 b0 sm tm) (h0:zcG t0 b0) (hlen:t0.len=s0.σ.length) (h1:NoTwice sm.pe) (h2:NoTwice tm.spe) (h3:zbR tm.spe sm) (hnr:zeD sm) (hnb:tm.nb=[]) (hI:InvD L S tr s0 sm t0 tm b0 D p w m Own) (hD:∀(j:Nat) (r:Rec),tr[j]?=some r→D j):Inv tm p w m sm Own:=by
 obtain⟨val,hpl,hal,hown,hap⟩:=hI.rooms;have hv:∀t,Vis tr D t:=fun t j r hj _=>hD j r hj
 have hA:∀id k,(id,k)∈tm.alive→Al L S tr t0 D id k:=fun id k hm=>by
  obtain⟨c1,c2⟩:=h.alive h0 tr.length (Nat.le_refl _) id k (by rw[zdL (Nat.le_refl _)];exact hm)
  exact⟨c1.imp (fun h=>h) fun⟨i,r,_,hr,hm⟩=>⟨i,r,hD i r hr,hr,hm⟩,fun i r _ hr=>c2 i r (List.getElem?_eq_some_iff.1 hr).1 hr⟩
 have hl:=h.len tr.length (Nat.le_refl _)
 rw[zdL (Nat.le_refl _)] at hl;simp only at hl;exact⟨hI.size,by rw[hl.2,hl.1];exact hlen,fun t ht=>(by rw[hnb] at ht;cases ht),h2,fun t=>hI.slots t (hv t),hI.zp,h1,h3,hI.own,fun d cs hd=>hI.box d cs (hv d) hd,fun d d' cs cs' b hne hd hd'=>hI.boxd d d' cs cs' b (hv d) (hv d') hne hd hd',fun d k r b hd=>absurd hd (hnr.2.1 d k r),fun t d k r _ hd=>absurd hd (hnr.2.1 d k r),⟨fun t d ht=>.inr (hnr.2.2 t d ht),fun d k r hd=>absurd hd (hnr.2.1 d k r)⟩,val,
  ⟨fun q id hm=>by obtain⟨c1,c2,_⟩:=hpl q id hm (hv _);exact⟨c1,c2⟩,fun id k hm=>hal id k (hA id k hm),fun id k b hm hb=>by
   obtain⟨c1,c2⟩:=hown id k b (hA id k hm) hb;exact⟨c1,fun d cs hd=>c2 d cs (hv d) hd⟩,fun id k id' k' b hm hm'=>hap id k id' k' b (hA id k hm) (hA id' k' hm'),fun q id k d k' r b _ _ hd=>absurd hd (hnr.2.1 d k' r)⟩⟩
theorem InvD.start {m:Array Value} (h:Tr L S call all tr s0 t0 b0 sm tm) (h0:zcG t0 b0) (hpe:s0.pe=[]) (hI:Inv t0 p w m s0 Own) (hD:∀j,¬D j):InvD L S tr s0 sm t0 tm b0 D p w m Own:=by
 obtain⟨val,hR⟩:=hI.rooms;have hl:=h.len tr.length (Nat.le_refl _)
 rw[zdL (Nat.le_refl _)] at hl;simp only at hl;have hk:∀t,Vis tr D t→Keeps t (s0,t0) (sm,tm):=fun t hv=>by
  have:=h.keeps (t:=t) tr.length 0 (by omega) (fun x r _ _ hr hd=>hD x (hv x r hr hd))
  rw[Nat.zero_add,zdL (Nat.le_refl _),h.zero] at this;exact this
 have hA:∀id k,Al L S tr t0 D id k→(id,k)∈t0.alive:=fun id k hc=>by
  rcases hc.1 with hm|⟨i,r,hDi,_⟩
  ·exact hm
  ·exact absurd hDi (hD i)
 refine⟨by rw[hI.size,hl.1],fun t hv=>?_,hI.zp,hI.own,fun d cs hv hd=>?_,fun d d' cs cs' b hv hv' hne hd hd'=>?_,fun i r hDi=>absurd hDi (hD i),val,fun q id hm hv=>?_,fun id k hc=>hR.alive id k (hA id k hc),fun id k b hc hb=>?_,fun id k id' k' b hc hc'=>hR.apart id k id' k' b (hA id k hc) (hA id' k' hc')⟩
 ·obtain⟨g1,g2⟩:=hI.slots t
  have hkt:=hk t hv
  refine⟨by rw[hkt.1];exact g1,fun x hx=>?_⟩
  have:=hkt.2.1 x hx
  simp only[hpe] at this;cases this
 ·have hkd:=(hk d hv).1
  simp only at hkd;rw[hkd] at hd;exact hI.box d cs hd
 ·have hkd:=(hk d hv).1
  have hkd':=(hk d' hv').1
  simp only at hkd hkd';rw[hkd] at hd;rw[hkd'] at hd';exact hI.boxd d d' cs cs' b hne hd hd'
 ·have hkq:=hk q.1 hv
  have hm':=(hkq.2.2 q.2 id).1 hm
  obtain⟨c1,c2⟩:=hR.place q id hm';exact⟨c1,by rw[hkq.1];exact c2,.inl (h0.1 q id hm')⟩
 ·obtain⟨c1,c2⟩:=hR.own id k b (hA id k hc) hb
  refine⟨c1,fun d cs hv hd=>?_⟩
  have hkd:=(hk d hv).1
  simp only at hkd;rw[hkd] at hd;exact c2 d cs hd
theorem count_set:∀(l:List Bool) (i:Nat),l[i]?=some false→(l.set i true).count false+1=l.count false
 | [],i,h=>by simp at h
 | x::l,0,h=>by simp at h;subst h;simp
 | x::l,i+1,h=>by
  have ih:=count_set l i (by simpa using h)
  simp only[List.set_cons_succ,List.count_cons];omega
theorem InvD.congr {D':Nat→Prop}{m:Array Value} (h:InvD L S tr s0 sm t0 tm b0 D p w m Own) (hD:∀i,D i↔D' i):InvD L S tr s0 sm t0 tm b0 D' p w m Own:=by
 have:D=D':=funext fun i=>propext (hD i)
 rw[←this];exact h
theorem zkE {listed:Array Bool}{i:Nat} (h:listed.getD i true=false):listed.toList[i]?=some false:=by
 rw[Array.getD_eq_getD_getElem?] at h;cases hl:listed[i]? with
 | none=>rw[hl] at h;cases h
 | some b=>rw[hl] at h;simp at h;subst h;simpa using hl
theorem Inv.drew {st:Stt}{m:Array Value}{s:VS} (h:Inv st p w m s Own):Inv st p w.drew m s Own:=by
 obtain⟨val,hR⟩:=h.rooms;have hev:Evo (fun _=>False) p w p w.drew:=zfj _
 refine⟨h.size,h.len,h.nbk,h.sonce,fun t=>?_,h.zp,h.once,h.spe,h.own,h.box,h.boxd,h.arr,h.al,h.mks,val,⟨hR.place,fun id k hm=>(hR.alive id k hm).evo hev (fun _ _ h=>h),hR.own,hR.apart,hR.row⟩⟩
 obtain⟨g1,g2⟩:=h.slots t;refine⟨zeH hev (fun _ _ _ _ h=>h) (fun _ _ _ _ _ h=>h) g1,fun x hx=>?_⟩
 have:=g2 x hx
 cases x with
 | el d k n j=>exact this
 | ref cs=>exact PRef.evo hev this
 | box d off=>exact this
theorem zu9 {oa:Array Oper} (h:Tr L S call oa.toList tr s0 t0 b0 sm tm) {ops:List Oper} (hops:tr.map (·.o)=ops) (hsub:∀(i:Nat) (o:Oper),ops[i]?=some o→oa.toList[i]?=some o) (h0:zcG t0 b0) (hlen:t0.len=s0.σ.length) (h1:NoTwice sm.pe) (h2:NoTwice tm.spe) (h3:zbR tm.spe sm) (hnr:zeD sm) (hnb:tm.nb=[])
  (hedge:∀(i:Nat) (o:Oper),oa[i]?=some o→∀e∈o.after,Region.binds .any e=true→e.on<i)
  {sz:VS}{stz:Stt}{Own':Nat→Prop}{W:(Nat→Prop)→Stb→World→Array Value→Prop}{WZ:Stb→World→Array Value→Prop}
  (hstep:∀(D:Nat→Prop) (p:Stb) (w:World) (a:Act) (j:Nat) (r:Rec),tr[j]?=some r→¬D j→(∀i,zcx r.o i=true→D i)→InvD L S tr s0 sm t0 tm b0 D p w a.tmps Own→W D p w a.tmps→∀(Q:Exit→Act→World→Prop) (K:Act→World→Prop),
   (∀a' w' p',InvD L S tr s0 sm t0 tm b0 (fun i=>D i∨i=j) p' w' a'.tmps Own→Evo Own' p w p' w'→a'.defers=a.defers→W (fun i=>D i∨i=j) p' w' a'.tmps→K a' w')→wpOp P oa Q j K a w)
  (htail:(ops.length=oa.size∧sm=sz∧tm=stz∧∀D p w m,(∀(j:Nat) (r:Rec),tr[j]?=some r→D j)→W D p w m→WZ p w m)∨(ops.length+1=oa.size∧∃o,oa[ops.length]?=some o∧(∀i,i<ops.length→zcx o i=true) ∧
   ∀(D:Nat→Prop) (p:Stb) (w:World) (a:Act),(∀(j:Nat) (r:Rec),tr[j]?=some r→D j)→Inv tm p w a.tmps sm Own→W D p w a.tmps→∀(Q:Exit→Act→World→Prop) (K:Act→World→Prop),(∀a' w' p',Inv stz p' w' a'.tmps sz Own→Evo Own' p w p' w'→a'.defers=a.defers→WZ p' w' a'.tmps→K a' w')→wpOp P oa Q ops.length K a w))
  {Q:Exit→Act→World→Prop}:∀(fuel:Nat) (listed:Array Bool) (p:Stb) (w:World) (a:Act),listed.size=oa.size→listed.toList.count false=fuel→(ops.length+1=oa.size→listed.getD ops.length false=false) →
   InvD L S tr s0 sm t0 tm b0 (fun i=>listed.getD i false=true) p w a.tmps Own→W (fun i=>listed.getD i false=true) p w a.tmps →
   (∀a' w' p',Inv stz p' w' a'.tmps sz Own→Evo Own' p w p' w'→a'.defers=a.defers→WZ p' w' a'.tmps→Q .normal a' w')→wpAny P .any oa Q fuel listed a w:=by
 have hopl:ops.length=tr.length:=by rw[←hops];simp
 -- nothing is ready: all have come up
 have hend:∀(listed:Array Bool),listed.size=oa.size→Region.ready .any oa listed=[]→∀i,i<oa.size→listed.getD i false=true:=by
  intro listed hsz hr i;induction i using Nat.strongRecOn with
  | _ i ih =>
   intro hi;rcases hb:listed.getD i false with _|_
   ·exfalso
    have hm:i∈Region.ready .any oa listed:=by
     rw[mem_ready];refine⟨?_,oa[i],Array.getElem?_eq_getElem hi,fun e he hbd=>?_⟩
     ·rw[Array.getD_eq_getD_getElem?,Array.getElem?_eq_getElem (by omega)] at hb ⊢
      exact hb
     ·have:=hedge i oa[i] (Array.getElem?_eq_getElem hi) e he hbd
      exact ih e.on this (by omega)
    rw[hr] at hm;cases hm
   ·rfl
 have hset:∀(listed:Array Bool) (i k:Nat),i<listed.size→((listed.setIfInBounds i true).getD k false=true↔(listed.getD k false=true∨k=i)):=by
  intro listed i k hi;by_cases hk:k=i
  ·subst hk
   simp[Array.getD_eq_getD_getElem?,hi]
  ·rw[getD_set_ne false (Ne.symm hk)]
   simp[hk]
 have hdone:∀(listed:Array Bool) (p:Stb) (w:World) (a:Act),listed.size=oa.size→(ops.length+1=oa.size→listed.getD ops.length false=false) →
   InvD L S tr s0 sm t0 tm b0 (fun i=>listed.getD i false=true) p w a.tmps Own→W (fun i=>listed.getD i false=true) p w a.tmps→(∀a' w' p',Inv stz p' w' a'.tmps sz Own→Evo Own' p w p' w'→a'.defers=a.defers→WZ p' w' a'.tmps→Q .normal a' w')→Region.ready .any oa listed=[]→Q .normal a w:=by
  intro listed p w a hsz hnt hI hW hQ hr;have hallL:=hend listed hsz hr
  rcases htail with ⟨hn,rfl,rfl,hz⟩|⟨hn,_⟩
  ·exact hQ a w p (hI.full h h0 hlen h1 h2 h3 hnr hnb (fun j r hj=>hallL j (by have:=(List.getElem?_eq_some_iff.1 hj).1;omega))) (.refl _ _ _) rfl (hz _ _ _ _ (fun j r hj=>hallL j (by have:=(List.getElem?_eq_some_iff.1 hj).1;omega)) hW)
  ·have:=hnt hn
   rw[hallL _ (by omega)] at this
   cases this
 intro fuel;induction fuel with
 | zero =>
  intro listed p w a hsz hcnt hnt hI hW hQ;have hr:Region.ready .any oa listed=[]:=by
   rcases hr:Region.ready .any oa listed with _|⟨x,l⟩
   ·rfl
   ·exfalso
    have hm:x∈Region.ready .any oa listed:=by rw[hr];exact List.mem_cons_self
    have hf:=zkE (mem_ready.1 hm).1
    have:=List.count_pos_iff.2 (List.mem_of_getElem? hf)
    omega
  exact⟨hr,hdone listed p w a hsz hnt hI hW hQ hr⟩
 | succ fuel ih =>
  intro listed p w a hsz hcnt hnt hI hW hQ;refine⟨hdone listed p w a hsz hnt hI hW hQ,fun i hi=>?_⟩
  obtain⟨hun,o,ho,hdeps⟩:=mem_ready.1 hi;have hilt:i<oa.size:=(Array.getElem?_eq_some_iff.1 ho).1
  have hcnt':(listed.setIfInBounds i true).toList.count false=fuel:=by
   have:=count_set listed.toList i (zkE hun)
   rw[Array.toList_setIfInBounds];omega
  have hwait:∀k,zcx o k=true→listed.getD k false=true:=fun k hk=>by
   unfold zcx at hk;simp only[List.any_eq_true,Bool.and_eq_true,beq_iff_eq] at hk;obtain⟨e,he,hon,hb⟩:=hk;rw[←hon];exact hdeps e (by simpa using he) hb
  have hnot:¬listed.getD i false=true:=fun hh=>by
   rw[Array.getD_eq_getD_getElem?] at hun hh;rw[Array.getElem?_eq_getElem (by omega)] at hun hh
   simp at hun hh
   rw[hun] at hh;cases hh
  by_cases hcore:i<ops.length
  ·obtain⟨r,hr⟩:∃r,tr[i]?=some r:=⟨tr[i]'(by omega),List.getElem?_eq_getElem _⟩
   have hro:r.o=o:=by
    have:=hsub i r.o (zfq hops hr)
    simp only[Array.getElem?_toList] at this;rw[ho] at this;cases this;rfl
   have hcg:(fun k=>listed.getD k false=true∨k=i)=fun k=>(listed.setIfInBounds i true).getD k false=true:=funext fun k=>propext (hset listed i k (by omega)).symm
   refine hstep _ p w a i r hr hnot (fun k hk=>hwait k (by rw[←hro];exact hk)) hI hW _ _ fun a' w' p' hI' hev hd hW'=>?_
   rw[hcg] at hI' hW';refine ih (listed.setIfInBounds i true) p' w' a' (by simpa using hsz) hcnt' (fun hn=>?_) hI' hW' fun a2 w2 p2 g1 g2 g3 g4=>hQ a2 w2 p2 g1 (hev.trans g2 (fun _ _ h=>h) (fun _ _ h=>h)) (g3.trans hd) g4
   rw[getD_set_ne false (by omega)]
   exact hnt hn
  ·-- the last one,which zcx for all others
   rcases htail with ⟨hn,_⟩|⟨hn,ot,hot,hw,hv⟩
   ·omega
   ·have hie:i=ops.length:=by omega
    subst hie;rw[ho] at hot;cases hot;have hfull:=hI.full h h0 hlen h1 h2 h3 hnr hnb (fun j r hj=>hwait j (hw j (by have:=(List.getElem?_eq_some_iff.1 hj).1;omega)))
    refine hv _ p w a (fun j r hj=>hwait j (hw j (by have:=(List.getElem?_eq_some_iff.1 hj).1;omega))) hfull hW _ _ fun a' w' p' hI' hev hd hWz=>?_
    have hall':∀k,k<oa.size→(listed.setIfInBounds ops.length true).getD k false=true:=fun k hk=>by
     rw[hset listed ops.length k (by omega)]
     rcases Nat.lt_or_ge k ops.length with h|h
     ·exact .inl (hwait k (hw k h))
     ·exact .inr (by omega)
    have hready:Region.ready .any oa (listed.setIfInBounds ops.length true)=[]:=by
     rcases hr:Region.ready .any oa (listed.setIfInBounds ops.length true) with _|⟨x,l⟩
     ·rfl
     ·exfalso
      have hm:x∈Region.ready .any oa (listed.setIfInBounds ops.length true):=by rw[hr];exact List.mem_cons_self
      obtain⟨hx,o',ho',_⟩:=mem_ready.1 hm;have hxl:x<oa.size:=(Array.getElem?_eq_some_iff.1 ho').1
      have:=hall' x hxl
      rw[Array.getD_eq_getD_getElem?] at hx this;rw[Array.getElem?_eq_getElem (by simp;omega)] at hx this
      simp at hx this
      rw[this] at hx;cases hx
    have hq:=hQ a' w' p' hI' hev hd hWz
    cases fuel with
    | zero=>exact⟨hready,hq⟩
    | succ f=>exact⟨fun _=>hq,fun k hk=>by rw[hready] at hk;cases hk⟩
theorem zxb (hL:LayOk P L) (hC:za4 P S call) {oa:Array Oper} (h:Tr L S call oa.toList tr s0 t0 b0 sm tm) {ops:List Oper} (hvj:∀(j:Nat) (r:Rec),tr[j]?=some r→zc8 L call oa.toList r.o r.s=some r.s') (hops:tr.map (·.o)=ops) (hA:znY ops) (hsub:∀(i:Nat) (o:Oper),ops[i]?=some o→oa.toList[i]?=some o)
  (hla:∀(i:Nat) (o:Oper) (t:Nat),ops[i]?=some o→t∈zbe oa.toList o→t∈zbe ops o) (hpe:s0.pe=[]) (h0:zcG t0 b0) (hlen:t0.len=s0.σ.length) (h1:NoTwice sm.pe) (h2:NoTwice tm.spe) (h3:zbR tm.spe sm) (hnr:zeD sm) (hnb:tm.nb=[])
  (hedge:∀(i:Nat) (o:Oper),oa[i]?=some o→∀e∈o.after,Region.binds .any e=true→e.on<i)
  {sz:VS}{bm:Nat}{stz:Stt} (hids:zcG tm bm)
  (htail:(ops.length=oa.size∧sm=sz∧tm=stz)∨(ops.length+1=oa.size∧∃o,oa[ops.length]?=some o∧(∀i,i<ops.length→zcx o i=true)∧zc8 L call oa.toList o sm=some sz∧zc0 L S bm o tm=some stz))
  {Q:Exit→Act→World→Prop}:∀(fuel:Nat) (listed:Array Bool) (p:Stb) (w:World) (a:Act),listed.size=oa.size→listed.toList.count false=fuel→(ops.length+1=oa.size→listed.getD ops.length false=false) →
   InvD L S tr s0 sm t0 tm b0 (fun i=>listed.getD i false=true) p w a.tmps Own →
   (∀a' w' p',Inv stz p' w' a'.tmps sz Own→Evo Own p w p' w'→a'.defers=a.defers→Q .normal a' w')→wpAny P .any oa Q fuel listed a w:=by
 intro fuel listed p w a hsz hcnt hnt hI hQ;refine zu9 h hops hsub h0 hlen h1 h2 h3 hnr hnb hedge (Own':=Own) (W:=fun _ _ _ _=>True) (WZ:=fun _ _ _=>True) (sz:=sz) (stz:=stz) (fun D p w a j r hj hnot hwait hI _ Q K hK=>?_) ?_ fuel listed p w a hsz hcnt hnt hI trivial fun a' w' p' h1 h2 h3 _=>hQ a' w' p' h1 h2 h3
 ·exact zAS hL hC rfl h hops hA hsub hla hpe h0 hlen hnr hI hj hnot hwait (hvj j r hj) fun a' w' p' g1 g2 g3 _ _=>hK a' w' p' g1 g2 g3 trivial
 ·rcases htail with ⟨hn,e1,e2⟩|⟨hn,o,ho,hw,hv,hst⟩
  ·exact .inl ⟨hn,e1,e2,fun _ _ _ _ _ _=>trivial⟩
  ·exact .inr ⟨hn,o,ho,hw,fun D p w a _ hI _ Q K hK=>zsT hL hC ho hI hids hv hst fun a' w' p' g1 g2 g3 _=>hK a' w' p' g1 g2 g3 trivial⟩
end
end
section
open Go Go.RowKit
section
variable {P:Program}{L:Lay}{S:Sig}{call:Orc}{tr:List Rec}{s0 sm:VS}{t0 tm st st':Stt}{b0:Nat}{Own:Nat→Prop}{p p':Stb}{w w':World}{a a':Act}{D:Nat→Prop}{all:List Oper}{σ σ2:List AV}
theorem zia (σ:List AV) (t:Nat):VS.get {σ:=zjg σ,pe:=[]} t=zey σ (VS.get {σ:=σ,pe:=[]} t):=by
 simp only[VS.get,zjg,List.getD,List.getElem?_map];cases σ[t]? <;> rfl
theorem zjr (σ:List AV) (x:AV):(∀k r,zey σ x≠.arr k r)∧∀d,zey σ x=.al d→d=zbK:=by
 cases x with
 | al d =>
  simp only[zey];split
  ·exact⟨fun k r h=>(by cases h),fun d h=>(by cases h)⟩
  ·exact⟨fun k r h=>(by cases h),fun d h=>(by cases h;rfl)⟩
 | _=>exact⟨fun k r h=>(by cases h),fun d h=>(by cases h)⟩
theorem zxN {σ:List AV}{x:AV}{cs:List AC} (h:zey σ x=.box cs):x=.box cs:=by
 cases x with
 | al d =>
  simp only[zey] at h;split at h <;> cases h
 | arr k r=>cases h
 | _=>exact h
theorem zxS {σ:List AV}{x:AV} (h:zey σ x=.und):x=.und:=by
 cases x with
 | al d =>
  simp only[zey] at h;split at h <;> cases h
 | arr k r=>cases h
 | _=>first|rfl|cases h
theorem zn1 {m:Array Value} (hI:Inv st p w m {σ:=σ,pe:=[]} Own) {d:Nat}{cs:List AC} (hd:VS.get {σ:=σ,pe:=[]} d=.box cs) {b:Nat} (hb:m.getD d undef=.pointer (some ⟨b,0,none⟩)):¬∃n,zdg m {σ:=σ,pe:=[]} b n:=by
 rintro⟨n,e,k,rows,he,heb,_⟩
 exact(hI.arr e k rows b he heb).2.2.2.1 d cs hd hb
theorem Inv.viewed {m:Array Value} (hI:Inv st p w m {σ:=σ,pe:=[]} Own):Inv {pid:=st.pid,alive:=[],spe:=[],len:=st.len,made:=st.made} (zdy p m {σ:=σ,pe:=[]}) w m {σ:=zjg σ,pe:=[]} Own:=by
 obtain⟨val,hR⟩:=hI.rooms;have hbox:∀d cs,VS.get {σ:=zjg σ,pe:=[]} d=.box cs→VS.get {σ:=σ,pe:=[]} d=.box cs:=fun d cs hd=>by
  rw[zia] at hd;exact zxN hd
 have harr:∀t k r,VS.get {σ:=zjg σ,pe:=[]} t≠.arr k r:=fun t k r=>by rw[zia];exact(zjr _ _).1 k r
 refine⟨by rw[hI.size];simp[zjg],by rw[hI.len];simp[zjg],fun t ht=>(by cases ht),trivial,fun t=>⟨?_,fun q hq=>by cases hq⟩,zje hI,trivial,⟨fun _ _=>rfl,fun _ _ _ h=>by cases h⟩,hI.own,fun d cs hd=>?_,fun d d' cs cs' b hne hd hd'=>hI.boxd d d' cs cs' b hne (hbox d cs hd) (hbox d' cs' hd'),
  fun d k r b hd=>absurd hd (harr d k r),fun t d k r _ hd=>absurd hd (harr d k r),⟨fun t d ht=>.inr (by rw[zia] at ht;exact(zjr _ _).2 d ht),fun d k r hd=>absurd hd (harr d k r)⟩,val,⟨fun q id hm=>⟨(hR.place q id hm).1,fun h=>?_⟩,fun id k hm=>(by cases hm),fun id k b hm=>(by cases hm),fun id k id' k' b hm=>(by cases hm),fun q id k d k' r b _ hm=>(by cases hm)⟩⟩
 ·have hs:=(hI.slots t).1
  rw[zia];rcases hx:VS.get {σ:=σ,pe:=[]} t with _|x|xs|cs|⟨k,rows⟩|d
  ·rw[hx] at hs;exact hs
  ·rw[hx] at hs;exact RepS.evo (zbV hI) hs
  ·rw[hx] at hs
   exact zeH (zbV hI) (fun cs h=>by cases h) (fun k r h=>by cases h) hs
  ·rw[hx] at hs
   exact zeH (zbV hI) (fun cs' _ b hb=>zn1 hI hx hb) (fun k r h=>by cases h) hs
  ·exact zkm hI hx
  ·rw[hx] at hs
   simp only[zey];split
   ·rename_i k r hd
    have hd':VS.get {σ:=σ,pe:=[]} d=.arr k r:=hd
    rw[hI.al t d k r hx hd'];exact zkm hI hd'
   ·exact hs
 ·obtain⟨b,h1,h2,h3,h4⟩:=hI.box d cs (hbox d cs hd)
  exact⟨b,h1,by rw[zdJ (zn1 hI (hbox d cs hd) h1)];exact h2,h3,h4⟩
 ·rw[zia] at h
  exact(hR.place q id hm).2 (zxS h)
theorem zwu (hL:LayOk P L) (hC:za4 P S call) {oa:Array Oper} (h:Tr L S call oa.toList tr s0 t0 b0 sm tm) {ops:List Oper} (hvj:∀(j:Nat) (r:Rec),tr[j]?=some r→zc8 L call oa.toList r.o r.s=some r.s') (hops:tr.map (·.o)=ops) (hA:znY ops) (hsub:∀(i:Nat) (o:Oper),ops[i]?=some o→oa.toList[i]?=some o)
  (hla:∀(i:Nat) (o:Oper) (t:Nat),ops[i]?=some o→t∈zbe oa.toList o→t∈zbe ops o) (hpe:s0.pe=[]) (h0:zcG t0 b0) (hlen:t0.len=s0.σ.length) (hnr:zeD sm)
  (hedge:∀(i:Nat) (o:Oper),oa[i]?=some o→∀e∈o.after,Region.binds .any e=true→e.on<i) (hle:ops.length≤oa.size)
  (hwt:∀(i:Nat) (o:Oper),ops.length≤i→oa[i]?=some o→∀k,k<ops.length→zcx o k=true) (heat:∀(j:Nat) (r:Rec),tr[j]?=some r→zbQ L S r.o=[])
  {Q:Exit→Act→World→Prop}:∀(fuel:Nat) (listed:Array Bool) (p:Stb) (w:World) (a:Act),listed.size=oa.size→listed.toList.count false=fuel→(∀i,ops.length≤i→listed.getD i false=false) →
   InvD L S tr s0 sm t0 tm b0 (fun i=>listed.getD i false=true) p w a.tmps Own →
   (∀(fuel':Nat) (listed':Array Bool) p' w' a',listed'.size=oa.size→listed'.toList.count false=fuel'→(∀i,listed'.getD i false=true↔i<ops.length)→InvD L S tr s0 sm t0 tm b0 (fun i=>listed'.getD i false=true) p' w' a'.tmps Own →
    Evo (fun _=>False) p w p' w'→(∀t,(∀(j:Nat) (r:Rec),tr[j]?=some r→r.o.dst≠some t)→a'.tmps.getD t undef=a.tmps.getD t undef)→a'.defers=a.defers→wpAny P .any oa Q fuel' listed' a' w')→wpAny P .any oa Q fuel listed a w:=by
 have hopl:ops.length=tr.length:=by rw[←hops];simp
 have hend:∀(listed:Array Bool),listed.size=oa.size→Region.ready .any oa listed=[]→∀i,i<oa.size→listed.getD i false=true:=by
  intro listed hsz hr i;induction i using Nat.strongRecOn with
  | _ i ih =>
   intro hi;rcases hb:listed.getD i false with _|_
   ·exfalso
    have hm:i∈Region.ready .any oa listed:=by
     rw[mem_ready];refine⟨?_,oa[i],Array.getElem?_eq_getElem hi,fun e he hbd=>?_⟩
     ·rw[Array.getD_eq_getD_getElem?,Array.getElem?_eq_getElem (by omega)] at hb ⊢
      exact hb
     ·have:=hedge i oa[i] (Array.getElem?_eq_getElem hi) e he hbd
      exact ih e.on this (by omega)
    rw[hr] at hm;cases hm
   ·rfl
 have hset:∀(listed:Array Bool) (i k:Nat),i<listed.size→((listed.setIfInBounds i true).getD k false=true↔(listed.getD k false=true∨k=i)):=by
  intro listed i k hi;by_cases hk:k=i
  ·subst hk
   simp[Array.getD_eq_getD_getElem?,hi]
  ·rw[getD_set_ne false (Ne.symm hk)]
   simp[hk]
 have hfull:∀(listed:Array Bool),(∀i,ops.length≤i→listed.getD i false=false)→(∀i,i<ops.length→listed.getD i false=true)→∀i,listed.getD i false=true↔i<ops.length:=by
  intro listed h1 h2 i;rcases Nat.lt_or_ge i ops.length with hi|hi
  ·exact⟨fun _=>hi,h2 i⟩
  ·rw[h1 i hi]
   exact⟨fun h=>(by cases h),fun h=>(by omega)⟩
 intro fuel;induction fuel with
 | zero =>
  intro listed p w a hsz hcnt hnt hI hQ;refine hQ 0 listed p w a hsz hcnt (hfull listed hnt fun i hi=>?_) hI (.refl _ _ _) (fun _ _=>rfl) rfl
  rcases hb:listed.getD i false with _|_
  ·exfalso
   have hb':listed.toList[i]?=some false:=by
    rw[Array.getD_eq_getD_getElem?,Array.getElem?_eq_getElem (by omega)] at hb
    simp at hb
    rw[Array.getElem?_toList,Array.getElem?_eq_getElem (by omega),hb]
   have:=List.count_pos_iff.2 (List.mem_of_getElem? hb')
   omega
  ·rfl
 | succ fuel ih =>
  intro listed p w a hsz hcnt hnt hI hQ;by_cases hall:∀i,i<ops.length→listed.getD i false=true
  ·exact hQ _ listed p w a hsz hcnt (hfull listed hnt hall) hI (.refl _ _ _) (fun _ _=>rfl) rfl
  refine⟨fun hr=>absurd (fun i hi=>hend listed hsz hr i (by omega)) hall,fun i hi=>?_⟩
  obtain⟨hun,o,ho,hdeps⟩:=mem_ready.1 hi;have hilt:i<oa.size:=(Array.getElem?_eq_some_iff.1 ho).1
  have hcnt':(listed.setIfInBounds i true).toList.count false=fuel:=by
   have:=count_set listed.toList i (zkE hun)
   rw[Array.toList_setIfInBounds];omega
  have hwait:∀k,zcx o k=true→listed.getD k false=true:=fun k hk=>by
   unfold zcx at hk;simp only[List.any_eq_true,Bool.and_eq_true,beq_iff_eq] at hk;obtain⟨e,he,hon,hb⟩:=hk;rw[←hon];exact hdeps e (by simpa using he) hb
  have hnot:¬listed.getD i false=true:=fun hh=>by
   rw[Array.getD_eq_getD_getElem?] at hun hh;rw[Array.getElem?_eq_getElem (by omega)] at hun hh
   simp at hun hh
   rw[hun] at hh;cases hh
  by_cases hcore:i<ops.length
  ·obtain⟨r,hr⟩:∃r,tr[i]?=some r:=⟨tr[i]'(by omega),List.getElem?_eq_getElem _⟩
   have hro:r.o=o:=by
    have:=hsub i r.o (zfq hops hr)
    simp only[Array.getElem?_toList] at this;rw[ho] at this;cases this;rfl
   refine zAS hL hC rfl h hops hA hsub hla hpe h0 hlen hnr hI hr hnot (fun k hk=>hwait k (by rw[←hro];exact hk)) (hvj i r hr) fun a' w' p' hI' hev hd he hk=>?_
   refine ih (listed.setIfInBounds i true) p' w' a' (by simpa using hsz) hcnt' (fun k hk'=>?_) (hI'.congr fun k=>(hset listed i k (by omega)).symm) fun f2 l2 p2 w2 a2 g1 g2 g3 g4 g5 g6 g7=>hQ f2 l2 p2 w2 a2 g1 g2 g3 g4 ((he (heat i r hr)).trans g5 (fun _ _ h=>h) (fun _ _ h=>h)) (fun t ht=>(g6 t ht).trans (hk t (ht i r hr))) (g7.trans hd)
   rw[getD_set_ne false (by omega)]
   exact hnt k hk'
  ·exact absurd (fun k hk=>hwait k (hwt i o (by omega) ho k hk)) hall
theorem ztZ (hL:LayOk P L) (hC:za4 P S call) {oa:Array Oper} (hedge:∀(i:Nat) (o:Oper),oa[i]?=some o→∀e∈o.after,Region.binds .any e=true→e.on<i) {Q:Exit→Act→World→Prop}{stz:Stt}{sz:VS}{bz:Nat}:∀(rest:List Oper) (n:Nat),oa.toList.drop n=rest →
  (∀(i:Nat) (o:Oper),n≤i→oa[i]?=some o→∀k,k<i→zcx o k=true)→∀(fuel:Nat) (listed:Array Bool) (p:Stb) (w:World) (a:Act) (s:VS) (st:Stt) (base:Nat),listed.size=oa.size→listed.toList.count false=fuel→(∀i,listed.getD i false=true↔i<n)→n≤oa.size →
   Inv st p w a.tmps s Own→zcG st base→ziW L call oa.toList rest s=some sz→zjC L S base rest st=some (bz,stz)→(∀a' w' p',Inv stz p' w' a'.tmps sz Own→Evo Own p w p' w'→a'.defers=a.defers→Q .normal a' w')→wpAny P .any oa Q fuel listed a w
 | [],n,hr,hw,fuel,listed,p,w,a,s,st,base,hsz,hcnt,hl,hn,hI,hids,hv,hst,hQ=>by
  have hsize:oa.size≤n:=by
   have:=congrArg List.length hr
   simp at this
   omega
  cases hv;cases hst;have hready:Region.ready .any oa listed=[]:=by
   rcases hr:Region.ready .any oa listed with _|⟨x,l⟩
   ·rfl
   ·exfalso
    have hm:x∈Region.ready .any oa listed:=by rw[hr];exact List.mem_cons_self
    obtain⟨hx,o',ho',_⟩:=mem_ready.1 hm;have hxl:x<oa.size:=(Array.getElem?_eq_some_iff.1 ho').1
    have:=(hl x).2 (by omega)
    rw[Array.getD_eq_getD_getElem?] at hx this;rw[Array.getElem?_eq_getElem (by omega)] at hx this
    simp at hx this
    rw[this] at hx;cases hx
  have hq:=hQ a w p hI (.refl _ _ _) rfl
  cases fuel with
  | zero=>exact⟨hready,hq⟩
  | succ f=>exact⟨fun _=>hq,fun k hk=>by rw[hready] at hk;cases hk⟩
 | o::rest,n,hr,hw,fuel,listed,p,w,a,s,st,base,hsz,hcnt,hl,hn,hI,hids,hv,hst,hQ=>by
  have hon:oa[n]?=some o:=by
   have:(oa.toList.drop n)[0]?=some o:=by rw[hr];rfl
   simpa using this
  have hnlt:n<oa.size:=(Array.getElem?_eq_some_iff.1 hon).1
  have hrest:oa.toList.drop (n+1)=rest:=by
   have:=congrArg (List.drop 1) hr
   simpa [List.drop_drop] using this
  rw[zrC] at hv;simp only[zzOb] at hv;obtain⟨s1,hv1,hv⟩:=hv;simp only[zjC,zzOb] at hst;obtain⟨st1,hst1,hst⟩:=hst;have hun:listed.toList[n]?=some false:=by
   have:¬listed.getD n false=true:=fun h=>by have:=(hl n).1 h;omega
   rw[Array.getD_eq_getD_getElem?,Array.getElem?_eq_getElem (by omega)] at this
   simp at this
   rw[Array.getElem?_toList,Array.getElem?_eq_getElem (by omega),this]
  have hset:∀(k:Nat),((listed.setIfInBounds n true).getD k false=true↔k<n+1):=by
   intro k;by_cases hk:k=n
   ·subst hk
    simp[Array.getD_eq_getD_getElem?,hsz,hnlt]
   ·rw[getD_set_ne false (Ne.symm hk),hl]
    omega
  cases fuel with
  | zero =>
   have:=List.count_pos_iff.2 (List.mem_of_getElem? hun)
   omega
  | succ f =>
   refine⟨fun hr=>?_,fun i hi=>?_⟩
   ·exfalso
    have hm:n∈Region.ready .any oa listed:=by
     rw[mem_ready];refine⟨?_,o,hon,fun e he hbd=>(hl _).2 (hedge n o hon e he hbd)⟩
     rw[Array.getElem?_toList] at hun;rw[Array.getD_eq_getD_getElem?,hun];rfl
    rw[hr] at hm;cases hm
   ·obtain⟨hui,o',ho',hdeps⟩:=mem_ready.1 hi
    have hilt:i<oa.size:=(Array.getElem?_eq_some_iff.1 ho').1
    have hin:n≤i:=by
     rcases Nat.lt_or_ge i n with h|h
     ·exfalso
      have:=(hl i).2 h
      rw[Array.getD_eq_getD_getElem?] at hui this;rw[Array.getElem?_eq_getElem (by omega)] at hui this
      simp at hui this
      rw[this] at hui;cases hui
     ·exact h
    have hie:i=n:=by
     rcases Nat.lt_or_ge n i with h|h
     ·exfalso
      have hk:=hw i o' hin ho' n h
      unfold zcx at hk;simp only[List.any_eq_true,Bool.and_eq_true,beq_iff_eq] at hk;obtain⟨e,he,hon',hb⟩:=hk;have:=(hl _).1 (hdeps e (by simpa using he) hb)
      omega
     ·omega
    subst hie;rw[hon] at ho';cases ho';refine zsl hL hC hon hI hids hv1 hst1 fun a' w' p' hI' hev hd _=>?_
    refine ztZ hL hC hedge rest (i+1) hrest (fun k o2 h1 h2=>hw k o2 (by omega) h2) f _ p' w' a' s1 st1 _ (by simpa using hsz) ?_ hset (by omega) hI' (zo2 hids hst1) hv hst fun a2 w2 p2 g1 g2 g3=>hQ a2 w2 p2 g1 (hev.trans g2 (fun _ _ h=>h) (fun _ _ h=>h)) (g3.trans hd)
    have:=count_set listed.toList i hun
    rw[Array.toList_setIfInBounds];omega
end
end
end Go.Proofs.Ytcpcagdialnbeaa

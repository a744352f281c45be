/- Generic texts and models for the proofs of this seat: part 14. -/
import Derived.Test.YtcpcagdialnbeaaY13
set_option linter.unusedVariables false
set_option linter.unusedSimpArgs false
namespace Go.Proofs.Ytcpcagdialnbeaa
section
open Go Go.RowKit
section
variable {P:Program}{L:Lay}{S:Sig}{call:Orc}{tr:List Rec}{s0 sm:VS}{t0 tm:Stt}{b0:Nat}{Own:Nat→Prop}{p:Stb}{w:World}{a:Act}{D:Nat→Prop}{all:List Oper}
theorem Tr.len (h:Tr L S call all tr s0 t0 b0 sm tm):∀(j:Nat),j≤tr.length→(atR tr sm tm j).1.σ.length=s0.σ.length∧(atR tr sm tm j).2.len=t0.len
 | 0,_=>by rw[h.zero];exact⟨rfl,rfl⟩
 | j+1,hle=>by
  obtain⟨r,hr⟩:∃r,tr[j]?=some r:=⟨tr[j]'(by omega),List.getElem?_eq_getElem _⟩
  obtain⟨hok,hst⟩:=h.ok j r hr;have ih:=Tr.len h j (by omega)
  have h1:atR tr sm tm j=(r.s,r.st):=by unfold atR;rw[hr]
  rw[h1] at ih;rw[h.step hr];exact⟨by rw[(ziA hok.run hst hok.once).1.len];exact ih.1,by rw[(zne (zbp hst hok.step)).2];exact ih.2⟩
theorem Tr.fwd (h:Tr L S call all tr s0 t0 b0 sm tm) {t:Nat}{x:Ptr}:∀(k i:Nat),i+k≤tr.length→(∀(y:Nat) (r:Rec),i≤y→y<i+k→tr[y]?=some r→r.o.dst≠some t)→(∀(y:Nat) (r:Rec),tr[y]?=some r→∀d,r.o.dst=some d→x.at d=false) →
  (atR tr sm tm i).1.pe.lookup t=some x→(atR tr sm tm (i+k)).1.pe.lookup t=some x
 | 0,i,_,_,_,hl=>hl
 | k+1,i,hle,hd,hx,hl=>by
  have ih:=Tr.fwd h k i (by omega) (fun y r h1 h2 hr=>hd y r h1 (by omega) hr) hx hl
  obtain⟨r,hr⟩:∃r,tr[i+k]?=some r:=⟨tr[i+k]'(by omega),List.getElem?_eq_getElem _⟩
  have h1:atR tr sm tm (i+k)=(r.s,r.st):=by unfold atR;rw[hr]
  obtain⟨hok,hst⟩:=h.ok _ r hr;rw[h1] at ih;rw[show i+(k+1)=i+k+1 by omega,h.step hr]
  exact zxG hok.run hst hok.once ih (hd (i+k) r (by omega) (by omega) hr) (fun d hd'=>hx _ r hr d hd')
theorem zt5 (h:Tr L S call all tr s0 t0 b0 sm tm) {ops:List Oper} (hops:tr.map (·.o)=ops) (hA:znY ops) (hpe:s0.pe=[]) (h0:zcG t0 b0) (hlen:t0.len=s0.σ.length)
  (hnr:zeD sm) (hI:InvD L S tr s0 sm t0 tm b0 D p w a.tmps Own) {j:Nat}{r:Rec} (hj:tr[j]?=some r) (hnot:¬D j) (hwait:∀i,zcx r.o i=true→D i)
  (hrep:∀x∈zbQ L S r.o,∃c,Rep p w (a.eval x.1) c) {v:Value}{w':World}{p':Stb} (hp:zhx L S r.st.spe r.o a p w r.s' v p' w') :
  InvD L S tr s0 sm t0 tm b0 (fun i=>D i∨i=j) p' w' (a.put r.o.dst v).tmps Own∧Evo Own p w p' w':=by
 obtain⟨val,hpl,hal,hown,hap⟩:=hI.rooms;obtain⟨hok,hst⟩:=h.ok j r hj;have hjlt:j<tr.length:=(List.getElem?_eq_some_iff.1 hj).1
 have hat:atR tr sm tm j=(r.s,r.st):=by unfold atR;rw[hj]
 have hoj:=zfq hops hj
 obtain⟨E,hE,htk,hdst,hgE,hpid,halv⟩:=zdm (zbp hst hok.step);have htk:zeE L S r.o=true:=by
  unfold zkZ at htk;simp only[Bool.and_eq_true] at htk;exact htk.1
 have heat:zic L S r=E:=by unfold zic;rw[hE];rfl
 obtain⟨⟨d0,hd0⟩⟩:Nonempty {d // r.o.dst=some d}:=by obtain⟨d,hd⟩:=(hA.store j r.o hoj).2;exact⟨⟨d,hd⟩⟩
 have hlens:=h.len j (by omega)
 rw[hat] at hlens;simp only at hlens;have hlenm:=h.len tr.length (Nat.le_refl _)
 rw[zdL (Nat.le_refl _)] at hlenm;have hsz:a.tmps.size=r.s.σ.length:=by rw[hI.size,hlenm.1,hlens.1]
 have hd0lt:d0<a.tmps.size:=by
  unfold zqt at hdst;rw[hd0] at hdst;rw[hsz,hlens.1,←hlen,←hlens.2]
  simpa using hdst
 -- what the operation looks at has come up
 have hlookw:∀t,t∈zbe ops r.o→∀(i:Nat) (x:Rec),tr[i]?=some x→x.o.dst=some t→D i∧i<j:=fun t ht i x hx hd=>by
  obtain⟨h1,h2⟩:=hA.looks i j x.o r.o t (zfq hops hx) hoj hd ht;exact⟨hwait i h1,h2⟩
 have hslotJ:∀t,(∀(i:Nat) (x:Rec),tr[i]?=some x→x.o.dst=some t→D i∧i<j)→zcM p w a.tmps r.s t:=fun t ht=>by
  have hv:Vis tr D t:=fun i x hx hd=>(ht i x hx hd).1
  obtain⟨g1,g2⟩:=hI.slots t hv;have hnw:∀(y:Nat) (x:Rec),j≤y→y<j+(tr.length-j)→tr[y]?=some x→x.o.dst≠some t:=fun y x h1 _ hx hd=>by
   have:=(ht y x hx hd).2;omega
  have hk:=h.keeps (t:=t) (tr.length-j) j (by omega) hnw
  rw[show j+(tr.length-j)=tr.length by omega,zdL (Nat.le_refl _),hat] at hk
  refine⟨by rw[←hk.1];exact g1,fun x hx=>g2 x ?_⟩
  have hfw:=h.fwd (t:=t) (x:=x) (tr.length-j) j (by omega) hnw (fun y ry hry d hd=>by
   cases x with
   | el _ _ _ _=>exact absurd hx (hok.norow.1 _ _ _ _ _)
   | ref cs=>rfl
   | box b off =>
    have:=h.targets hops hA hpe j (by omega) t b off (by rw[hat];exact hx) y ry hry
    simp only[Ptr.at,beq_eq_false_iff_ne];intro e;rw[e] at this;exact this hd) (by rw[hat];exact hx)
  rw[show j+(tr.length-j)=tr.length by omega,zdL (Nat.le_refl _)] at hfw
  exact hfw
 have htarget:∀t b off,r.s.pe.lookup t=some (.box b off)→∀(i:Nat) (x:Rec),tr[i]?=some x→x.o.dst≠some b:=fun t b off hl=>h.targets hops hA hpe j (by omega) t b off (by rw[hat];exact hl)
 have hopl:∀t,Operand.tmp t∈r.o.op.operands.toList→t∈zbe ops r.o:=fun t ht=>by
  unfold zbe;exact List.mem_append_left _ (List.mem_filterMap.2 ⟨_,ht,rfl⟩)
 -- ranges of names
 have hrange:∀(i:Nat) (x:Rec) (id k:Nat),i≠j→tr[i]?=some x→(id,k)∈zbG L S x.base x.o→¬(r.base≤id∧id<r.base+zgG L S r.o):=fun i x id k hne hx hm hr=>by
  have h1:=zbP hm
  rcases Nat.lt_or_ge i j with hij|hij
  ·have:=h.base_lt hij hx hj;omega
  ·have:=h.base_lt (show j<i by omega) hj hx;omega
 have hbge:=h.base_ge hj
 have hcre:∀id,Cre L S tr b0 D id→¬(r.base≤id∧id<r.base+zgG L S r.o):=fun id hc hr=>by
  rcases hc with hc|⟨i,x,hDi,hx,k,hm⟩
  ·omega
  ·exact hrange i x id k (fun e=>hnot (by rw[←e];exact hDi)) hx hm hr
 have halt:∀id k,Al L S tr t0 D id k→¬(r.base≤id∧id<r.base+zgG L S r.o):=fun id k hc=>hcre id (by
  rcases hc.1 with hm|⟨i,x,hDi,hx,hm⟩
  ·exact .inl (h0.2 id k hm)
  ·exact .inr ⟨i,x,hDi,hx,k,hm⟩)
 -- places that the operation reads
 have hplJ:∀t n id,(∀(i:Nat) (x:Rec),tr[i]?=some x→x.o.dst=some t→D i∧i<j)→((t,n),id)∈r.st.pid→zax w (a.tmps.getD t undef) n=some (val id)∧Cre L S tr b0 D id:=fun t n id ht hm=>by
  have hv:Vis tr D t:=fun i x hx hd=>(ht i x hx hd).1
  have hk:=h.keeps (t:=t) (tr.length-j) j (by omega) (fun y x h1 _ hx hd=>by have:=(ht y x hx hd).2;omega)
  rw[show j+(tr.length-j)=tr.length by omega,zdL (Nat.le_refl _),hat] at hk
  obtain⟨c1,_,c3⟩:=hpl (t,n) id ((hk.2.2 n id).2 hm) hv;exact⟨c1,c3⟩
 have hdef:∀v,(a.put r.o.dst v).defers=a.defers:=fun v=>by cases r.o.dst <;> rfl
 have hvis:∀t,Vis tr (fun i=>D i∨i=j) t→t≠d0→Vis tr D t:=fun t ht hne i x hx hd=>by
  rcases ht i x hx hd with hD|rfl
  ·exact hD
  ·rw[hj] at hx;cases hx;rw[hd0] at hd;cases hd;exact absurd rfl hne
 have hkend:∀t,(∀(y:Nat) (x:Rec),j<y→tr[y]?=some x→x.o.dst≠some t)→Keeps t (r.s',r.st') (sm,tm):=fun t ht=>by
  have hk:=h.keeps (t:=t) (tr.length-(j+1)) (j+1) (by omega) (fun y x h1 _ hx=>ht y x (by omega) hx)
  rw[show j+1+(tr.length-(j+1))=tr.length by omega,zdL (Nat.le_refl _),h.step hj] at hk
  exact hk
 have hkd0:=hkend d0 (fun y x hy hx hd=>by have:=hA.once y j x.o r.o d0 (zfq hops hx) hoj hd hd0;omega)
 have hD':∀i,D i→D i∨i=j:=fun i h=>.inl h
 have hcre':∀id,Cre L S tr b0 D id→Cre L S tr b0 (fun i=>D i∨i=j) id:=fun id hc=>hc.imp (fun h=>h) fun⟨i,x,hDi,rest⟩=>⟨i,x,.inl hDi,rest⟩
 have htgm:∀t b off,sm.pe.lookup t=some (.box b off)→b≠d0:=fun t b off hl e=>by
  have:=h.targets hops hA hpe tr.length (Nat.le_refl _) t b off (by rw[zdL (Nat.le_refl _)];exact hl) j r hj
  rw[e] at this;exact this hd0
 have hgetd:∀{v:Value} t,t≠d0→(a.put r.o.dst v).tmps.getD t undef=a.tmps.getD t undef:=fun t hne=>zaM (by rw[hd0];intro e;cases e;exact hne rfl)
 -- ids that are used up
 have hEal:∀id k,id∈E→(id,k)∈r.st.alive→Cre L S tr b0 D id→Al L S tr t0 D id k:=fun id k hidE hm hc=>by
  obtain⟨c1,c2⟩:=h.alive h0 j (by omega) id k (by rw[hat];exact hm)
  refine⟨?_,fun i x hDi hx hmem=>?_⟩
  ·rcases c1 with c1|⟨i,x,hij,hx,hm'⟩
   ·exact .inl c1
   ·refine .inr ⟨i,x,?_,hx,hm'⟩
    rcases hc with hc|⟨i',x',hDi,hx',k',hm''⟩
    ·have:=zbP hm'
     have:=h.base_ge hx
     omega
    ·have h1:=zbP hm'
     have h2:=zbP hm''
     have:i=i':=by
      rcases Nat.lt_trichotomy i i' with h3|h3|h3
      ·have:=h.base_lt h3 hx hx';omega
      ·exact h3
      ·have:=h.base_lt h3 hx' hx;omega
     rw[this];exact hDi
  ·rcases Nat.lt_trichotomy i j with h3|h3|h3
   ·exact c2 i x h3 hx hmem
   ·exact hnot (by rw[←h3];exact hDi)
   ·obtain⟨hok',hst'⟩:=h.ok i x hx
    obtain⟨E',hE',_,_,_,_,_⟩:=zdm (zbp hst' hok'.step);have heat':zic L S x=E':=by unfold zic;rw[hE'];rfl
    rw[heat'] at hmem;obtain⟨_,k',hm'⟩:=zjf hok'.ids hE' id hmem;have hat':atR tr sm tm i=(x.s,x.st):=by unfold atR;rw[hx]
    have hilt:i<tr.length:=(List.getElem?_eq_some_iff.1 hx).1
    exact(h.alive h0 i (by omega) id k' (by rw[hat'];exact hm')).2 j r h3 hj (by rw[heat];exact hidE)
 have heatop:∀x∈zbQ L S r.o,x.1∈r.o.op.operands.toList:=by
  intro x hx;unfold zbQ at hx;split at hx
  ·rename_i args ats hop
   split at hx
   ·rename_i y z e hy he
    simp only[List.mem_singleton] at hx;subst hx;have:args=#[y,z]:=zfN hy
    subst this;simp[hop,Op.operands,Call.operands]
   ·cases hx
  ·rename_i f args ats hop
   simp only[List.mem_filterMap,zzOm] at hx;obtain⟨⟨y,ko⟩,hm,k,hk,rfl⟩:=hx;obtain⟨i,hi,_⟩:=zgh hm;simp only[hop,Op.operands,Call.operands];simp
   exact .inr (by simpa using List.mem_of_getElem? hi)
  ·cases hx
 obtain⟨hk1,hk2⟩:=zjp (a:=a) (A:=Al L S tr t0 D) hal hap hE hrep (fun x hx t ht id k h1 h2 h3=>by
  have hlk:=hlookw t (hopl t (by rw[←ht];exact heatop x hx))
  obtain⟨c1,c2⟩:=hplJ t 0 id hlk (zau h1);exact⟨c1,hEal id k h3 (za2 h2) c2⟩)
 have heatB:∀b,zlm L S r.o a b→∃id∈E,∃k,Al L S tr t0 D id k∧zar (val id)=some b:=by
  rintro b ⟨x,hx,hb⟩
  exact(hk1 x hx).2 b hb
 have hB:∀b d cs,zlm L S r.o a b→Vis tr D d→sm.get d=.box cs→a.tmps.getD d undef≠.pointer (some ⟨b,0,none⟩):=by
  intro b d cs hb hv hd;obtain⟨id,_,k,hm,hvb⟩:=heatB b hb;exact(hown id k b hm hvb).2 d cs hv hd
 have hput:(a.put r.o.dst v).tmps.getD d0 undef=v:=by rw[hd0];exact zft hd0lt
 have hd0s:d0<r.s'.σ.length:=by rw[(ziA hok.run hst hok.once).1.len,←hsz];exact hd0lt
 have hbox:∀d cs,Vis tr (fun i=>D i∨i=j) d→sm.get d=.box cs→∃b,(a.put r.o.dst v).tmps.getD d undef=.pointer (some ⟨b,0,none⟩)∧p' b=0∧Own b∧b<w'.heap.size∧(d=d0→b=w.heap.size)∧(d≠d0→b<w.heap.size∧Vis tr D d∧a.tmps.getD d undef=.pointer (some ⟨b,0,none⟩)):=by
  intro d cs hv hd;by_cases hdd:d=d0
  ·subst hdd
   rw[hkd0.1] at hd;obtain⟨e,hp0,_⟩:=hp.bx d cs hd0 hd;have hsr:=(hp.slot d hd0).1
   rw[hd] at hsr;obtain⟨b,arr,T,e',hb,_⟩:=hsr;rw[hput,e] at e';cases e';refine⟨w.heap.size,by rw[hput,e],hp0,hI.own _ (Nat.le_refl _),?_,fun _=>rfl,fun h=>absurd rfl h⟩
   rcases Nat.lt_or_ge w.heap.size w'.heap.size with hlt|hge
   ·exact hlt
   ·rw[Array.getElem?_eq_none hge] at hb;cases hb
  ·have hv':=hvis d hv hdd
   obtain⟨b,e,hp0,hown',hlt⟩:=hI.box d cs hv' hd;refine⟨b,by rw[hgetd d hdd];exact e,?_,hown',Nat.lt_of_lt_of_le hlt hp.evo.size,fun h=>absurd h hdd,fun _=>⟨hlt,hv',e⟩⟩
   rw[hp.evo.same b hlt (fun hb=>hB b d cs hb hv' hd e)]
   exact hp0
 let val':Nat→Value:=fun id=>if r.base≤id∧id<r.base+zgG L S r.o then(zax w' v (id-r.base)).getD undef else val id
 have hvold:∀id,¬(r.base≤id∧id<r.base+zgG L S r.o)→val' id=val id:=fun id h=>by simp only[val',if_neg h]
 have hvnew:∀e∈zaI L S r.o,∀u,zax w' v e.1=some u→val' (r.base+e.1)=u:=fun e he u h=>by
  have hlt:=zee _ 0 e he
  have:r.base≤r.base+e.1∧r.base+e.1<r.base+zgG L S r.o:=by unfold zgG;omega
  simp only[val',if_pos this,Nat.add_sub_cancel_left,h,Option.getD_some]
 have hnewA:∀id k,(id,k)∈zbG L S r.base r.o→∃n,(n,k)∈zaI L S r.o∧id=r.base+n:=by
  intro id k h;unfold zbG at h;split at h
  ·split at h
   ·cases h
   ·simp only[List.mem_map,Prod.mk.injEq] at h
    obtain⟨⟨n,k'⟩,hm,rfl,rfl⟩:=h;exact⟨n,hm,rfl⟩
  ·cases h
 have hsplit:∀id k,Al L S tr t0 (fun i=>D i∨i=j) id k→(Al L S tr t0 D id k∧id ∉ E)∨(id,k)∈zbG L S r.base r.o:=by
  intro id k hc;have hnE:id ∉ E:=by rw[←heat];exact hc.2 j r (.inr rfl) hj
  rcases hc.1 with hm|⟨i,x,hDi,hx,hm⟩
  ·exact .inl ⟨⟨.inl hm,fun i x hDi hx=>hc.2 i x (.inl hDi) hx⟩,hnE⟩
  ·rcases hDi with hDi|rfl
   ·exact .inl ⟨⟨.inr ⟨i,x,hDi,hx,hm⟩,fun i x hDi hx=>hc.2 i x (.inl hDi) hx⟩,hnE⟩
   ·rw[hj] at hx;cases hx;exact .inr hm
 have hevo:Evo Own p w p' w':=hp.evo.weaken (fun b _ hb=>by
  obtain⟨id,_,k,hm,hvb⟩:=heatB b hb;exact(hown id k b hm hvb).1)
 refine⟨⟨by rw[zmf];exact hI.size,fun t ht=>?_,hp.zp,fun b hb=>hI.own b (Nat.le_trans hp.evo.size hb),fun d cs hv hd=>?_,fun d d' cs cs' b hv hv' hne hd hd' hb=>?_,fun i x hDi hx id hid=>?_,val',fun x id hm hv=>?_,fun id k hc=>?_,fun id k b hc hb=>?_,fun id k id' k' b hc hc' hne hb=>?_⟩,hevo⟩
 ·by_cases hne:t=d0
  ·subst hne
   obtain⟨g1,g2⟩:=hp.slot t hd0;refine⟨?_,fun y hy=>g2 y (hkd0.2.1 y hy)⟩
   have:=hkd0.1
   simp only at this;rw[this];exact g1
  ·have hv:=hvis t ht hne
   obtain⟨g1,g2⟩:=hI.slots t hv;rw[zcM,hgetd t hne];refine⟨zeH hp.evo (fun cs hcs b hb hBb=>hB b t cs hBb hv hcs hb) (fun k rr hk=>absurd hk (hnr.2.1 t k rr)) g1,fun y hy=>?_⟩
   have:=g2 y hy
   cases y with
   | el _ _ _ _=>exact absurd hy (hnr.1 _ _ _ _ _)
   | ref cs=>exact PRef.evo hp.evo this
   | box b off =>
    obtain⟨bb,e1,e2⟩:=this;exact⟨bb,by rw[hgetd b (htgm t b off hy)];exact e1,e2⟩
 ·obtain⟨b,h1,h2,h3,h4,_⟩:=hbox d cs hv hd
  exact⟨b,h1,h2,h3,h4⟩
 ·intro hb'
  obtain⟨b1,e1,_,_,_,n1,o1⟩:=hbox d cs hv hd;obtain⟨b2,e2,_,_,_,n2,o2⟩:=hbox d' cs' hv' hd';rw[hb] at e1;cases e1;rw[hb'] at e2;cases e2;by_cases h1:d=d0
  ·have h2:d'≠d0:=fun e=>hne (by rw[h1,e])
   have:=n1 h1
   have:=(o2 h2).1
   omega
  ·obtain⟨x1,x2,x3⟩:=o1 h1
   by_cases h2:d'=d0
   ·have:=n2 h2
    omega
   ·obtain⟨y1,y2,y3⟩:=o2 h2
    exact hI.boxd d d' cs cs' b x2 y2 hne hd hd' x3 y3
 ·rcases hDi with hDi|rfl
  ·exact hcre' id (hI.ate i x hDi hx id hid)
  ·rw[hj] at hx
   cases hx;rw[heat] at hid
   -- its place was seen
   have key:∀(l:List (Operand×Nat)) (E:List Nat),zbJ r.st l=some E→(∀x∈l,x.1∈r.o.op.operands.toList)→∀id∈E,Cre L S tr b0 D id:=by
    intro l;induction l with
    | nil=>intro E h _ id hid;cases h;cases hid
    | cons y l ih =>
     obtain⟨y,k⟩:=y;intro E h hmem id hid;cases y with
     | tmp t =>
      unfold zbJ at h;split at h
      ·rename_i id' hid'
       split at h
       ·simp only[zzOb] at h
        obtain⟨l',hl,h⟩:=h;split at h
        ·cases h
        ·cases h
         rcases List.mem_cons.1 hid with rfl|hid
         ·exact(hplJ t 0 id (hlookw t (hopl t (hmem _ List.mem_cons_self))) (zau hid')).2
         ·exact ih l' hl (fun x hx=>hmem x (List.mem_cons_of_mem _ hx)) id hid
       ·cases h
      ·cases h
     | const c =>
      unfold zbJ at h;split at h
      ·rename_i heq;cases heq
      ·rename_i heq;cases heq
      ·rename_i heq;cases heq;exact ih E h (fun x hx=>hmem x (List.mem_cons_of_mem _ hx)) id hid
      ·cases h
     | global g=>simp[zbJ] at h
     | func g=>simp[zbJ] at h
   exact hcre' id (key _ E hE heatop id hid)
 ·by_cases hne:x.1=d0
  ·have hm':=(hkd0.2.2 x.2 id).1 (by rw[←hne];exact hm)
   simp only at hm';rw[hpid,List.mem_append] at hm';have hund:∀e,(e∈zaI L S r.o∨∃y,(e.1,y)∈zaL L r.st.spe r.o)→sm.get d0≠.und:=fun e he=>by
    rw[hkd0.1];rcases hp.kind d0 hd0 hd0s with h|⟨h1,h2⟩
    ·exact h
    ·rcases he with he|⟨y,he⟩
     ·rw[h1] at he;cases he
     ·rw[h2] at he;cases he
   rcases hm' with hm'|hm'
   ·unfold zgF at hm'
    rw[hd0] at hm';simp only at hm';split at hm'
    ·cases hm'
    ·rename_i hgn
     rcases List.mem_append.1 hm' with hm'|hm'
     ·simp only[List.mem_map,Prod.mk.injEq] at hm'
      obtain⟨e,he,⟨_,e2⟩,rfl⟩:=hm';obtain⟨u,hu,_,_⟩:=hp.fr e he;rw[hne,hput,←e2];refine⟨by rw[hvnew e he u hu];exact hu,hund e (.inl he),.inr ⟨j,r,.inr rfl,hj,e.2,?_⟩⟩
      unfold zbG;rw[hd0];simp only;rw[if_neg hgn];exact List.mem_map.2 ⟨e,he,rfl⟩
     ·simp only[List.mem_filterMap,zzOm,Prod.mk.injEq] at hm'
      obtain⟨e,he,id',hid,⟨_,e2⟩,rfl⟩:=hm';have hsrc:∀(i:Nat) (y:Rec),tr[i]?=some y→y.o.dst=some e.2.1→D i∧i<j:=by
       rcases zvY he with hs1|⟨y,hy,off,hps⟩
       ·exact hlookw _ (hopl _ hs1)
       ·cases y with
        | tmp t =>
         unfold zlQ at hps;simp only at hps;split at hps
         ·cases hps
          exact hlookw _ (hopl _ hy)
         ·rename_i z hz
          subst hps;intro i y' hy' hd';exact absurd hd' (htarget t e.2.1 off (hok.spe.2 t _ _ hz) i y' hy')
        | const c=>cases hps
        | global g=>cases hps
        | func g=>cases hps
      obtain⟨c1,c2⟩:=hplJ e.2.1 e.2.2 id' hsrc (zau hid);rw[hne,hput,←e2,hvold _ (hcre _ c2)];exact⟨hp.mv e he _ c1,hund (e.1,0) (.inr ⟨e.2,he⟩),hcre' _ c2⟩
   ·rw[List.mem_filter] at hm'
    simp[hd0] at hm'
  ·have hv':=hvis x.1 hv hne
   obtain⟨c1,c2,c3⟩:=hpl x id hm hv';rw[hgetd x.1 hne,hvold _ (hcre _ c3)];refine⟨?_,c2,hcre' _ c3⟩
   have hs1:=(hI.slots x.1 hv').1
   cases hx:sm.get x.1 with
   | und=>exact absurd hx c2
   | v y=>rw[hx] at hs1;rw[zbm hs1] at c1 ⊢;exact c1
   | tup ys=>rw[hx] at hs1;obtain⟨arr,e,_⟩:=hs1;rw[e] at c1 ⊢;exact c1
   | al d=>rw[hx] at hs1;obtain⟨_,_,_,e⟩:=hs1;rw[e] at c1 ⊢;exact c1
   | arr k rr=>exact absurd hx (hnr.2.1 x.1 k rr)
   | box cs =>
    obtain⟨b,e,_,_,hlt⟩:=hI.box x.1 cs hv' hx;rw[e] at c1 ⊢;show w'.cell? ⟨b,x.2,none⟩=_
    rw[World.cell?_of_block (w:=w) (hp.evo.block b hlt (fun hBb=>hB b x.1 cs hBb hv' hx e))]
    exact c1
 ·rcases hsplit id k hc with ⟨hc,hnE⟩|hm
  ·rw[hvold _ (halt id k hc)]
   refine(hal id k hc).evo hp.evo (fun b hb he=>?_)
   obtain⟨id',hid',k',hm',hv'⟩:=heatB b he;exact hap id k id' k' b hc hm' (fun e=>hnE (by rw[e];exact hid')) hb hv'
  ·obtain⟨n,he,rfl⟩:=hnewA id k hm
   obtain⟨u,hu,hrt,_⟩:=hp.fr _ he;rw[hvnew _ he u hu];exact hrt
 ·rcases hsplit id k hc with ⟨hc,hnE⟩|hm
  ·rw[hvold _ (halt id k hc)] at hb
   obtain⟨h1,h2⟩:=hown id k b hc hb;refine⟨h1,fun d cs hv hd hptr=>?_⟩
   obtain⟨b',e,_,_,_,n1,o1⟩:=hbox d cs hv hd;rw[hptr] at e;cases e;by_cases hdd:d=d0
   ·have:=n1 hdd
    have:=(hal id k hc).lt hb
    omega
   ·obtain⟨x1,x2,x3⟩:=o1 hdd
    exact h2 d cs x2 hd x3
  ·obtain⟨n,he,rfl⟩:=hnewA id k hm
   obtain⟨u,hu,_,hblk⟩:=hp.fr _ he;rw[hvnew _ he u hu] at hb;refine⟨?_,fun d cs hv hd hptr=>?_⟩
   ·rcases hblk b hb with h|h
    ·exact hI.own b h
    ·obtain⟨id',_,k',hm',hv'⟩:=heatB b h
     exact(hown id' k' b hm' hv').1
   ·obtain⟨b',e,_,_,_,n1,o1⟩:=hbox d cs hv hd
    rw[hptr] at e;cases e;by_cases hdd:d=d0
    ·have hd':=hd
     rw[hdd,hkd0.1] at hd';have:=(hp.bx d0 cs hd0 hd').2.2 _ he
     rw[hu] at this;cases this;cases hb
    ·obtain⟨x1,x2,x3⟩:=o1 hdd
     rcases hblk b hb with h|h
     ·omega
     ·exact hB b d cs h x2 hd x3
 ·have hcross:∀n k0 id1 k1 u,(n,k0)∈zaI L S r.o→zax w' v n=some u→Al L S tr t0 D id1 k1→id1 ∉ E→∀b,zar u=some b→zar (val id1)≠some b:=by
   intro n k0 id1 k1 u he hu hm1 hnE b hbu hb1';obtain⟨u',hu',_,hblk⟩:=hp.fr _ he;rw[hu] at hu';cases hu';rcases hblk b hbu with h|h
   ·have:=(hal id1 k1 hm1).lt hb1'
    omega
   ·obtain⟨id2,hid2,k2,hm2,hv2⟩:=heatB b h
    exact hap id1 k1 id2 k2 b hm1 hm2 (fun e=>hnE (by rw[e];exact hid2)) hb1' hv2
  rcases hsplit id k hc with ⟨hc,hnE⟩|hm
  ·rw[hvold _ (halt id k hc)] at hb
   rcases hsplit id' k' hc' with ⟨hc',_⟩|hm'
   ·rw[hvold _ (halt id' k' hc')]
    exact hap id k id' k' b hc hc' hne hb
   ·obtain⟨n',he',rfl⟩:=hnewA id' k' hm'
    obtain⟨u',hu',_,_⟩:=hp.fr _ he';rw[hvnew _ he' u' hu'];intro hb';exact hcross n' k' id k u' he' hu' hc hnE b hb' hb
  ·obtain⟨n,he,rfl⟩:=hnewA id k hm
   obtain⟨u,hu,_,_⟩:=hp.fr _ he;rw[hvnew _ he u hu] at hb;rcases hsplit id' k' hc' with ⟨hc',hnE'⟩|hm'
   ·rw[hvold _ (halt id' k' hc')]
    exact hcross n k id' k' u he hu hc' hnE' b hb
   ·obtain⟨n',he',rfl⟩:=hnewA id' k' hm'
    obtain⟨u',hu',_,_⟩:=hp.fr _ he';rw[hvnew _ he' u' hu'];exact hp.ap _ _ u u' b he he' (fun e=>hne (by simp only at e;rw[e])) hu hu' hb
def zi7 (all:List Oper) (r:Rec) (X:Prop):Prop:=match r.o.guard with
 | none=>X
 | some g=>∃t,zck all r.s g=some t∧if t then X else r.s'=r.s.put r.o.dst .und
theorem zrd {oa:Array Oper} (hall:all=oa.toList) (h:Tr L S call all tr s0 t0 b0 sm tm) {ops:List Oper} (hops:tr.map (·.o)=ops) (hA:znY ops) (hpe:s0.pe=[]) (h0:zcG t0 b0) (hlen:t0.len=s0.σ.length)
  (hnr:zeD sm) (hI:InvD L S tr s0 sm t0 tm b0 D p w a.tmps Own) {j:Nat}{r:Rec} (hj:tr[j]?=some r) (hnot:¬D j) (hwait:∀i,zcx r.o i=true→D i) (hsub:∀(i:Nat) (o:Oper),ops[i]?=some o→all[i]?=some o)
  (hla:∀(i:Nat) (o:Oper) (t:Nat),ops[i]?=some o→t∈zbe all o→t∈zbe ops o) {X:Prop} (hx:zi7 all r X) {Own':Nat→Prop}{R:Value→Stb→World→Prop} (hsk:∀g,r.o.guard=some g→zck all r.s g=some false→R undef p w)
  (hOwn:∀b,Own b→Own' b) (hrepX:X→(∀x∈r.o.op.operands.toList,zcK p w a.tmps r.s x)→zeE L S r.o=true→∀x∈zbQ L S r.o,∃c,Rep p w (a.eval x.1) c)
  (hdo:X→(∀x∈r.o.op.operands.toList,zcK p w a.tmps r.s x)→a.tmps.size=r.s.σ.length→Zp p w→zbR r.st.spe r.s→(∀x∈zbQ L S r.o,Rt p w (a.eval x.1) x.2)→znP ((zbQ L S r.o).map fun x=>a.eval x.1)→zeE L S r.o=true→(∀c,zlm L S r.o a c→Own c) →
   Does P r.o a w fun v w'=>∃p' w1,zhx L S r.st.spe r.o a p w1 r.s' v p' w'∧InvD L S tr s0 sm t0 tm b0 D p w1 a.tmps Own∧Evo Own' p w p w1∧R v p' w')
  {Q:Exit→Act→World→Prop}{K:Act→World→Prop} (hK:∀v w' p',InvD L S tr s0 sm t0 tm b0 (fun i=>D i∨i=j) p' w' (a.put r.o.dst v).tmps Own→Evo Own' p w p' w'→R v p' w'→K (a.put r.o.dst v) w'):wpOp P oa Q j K a w:=by
 obtain⟨val,hpl,hal,hown,hap⟩:=hI.rooms;obtain⟨hok,hst⟩:=h.ok j r hj;have hjlt:j<tr.length:=(List.getElem?_eq_some_iff.1 hj).1
 have hat:atR tr sm tm j=(r.s,r.st):=by unfold atR;rw[hj]
 have hoj:=zfq hops hj
 obtain⟨E,hE,htk,hdst,hgE,hpid,halv⟩:=zdm (zbp hst hok.step);have htk:zeE L S r.o=true:=by
  unfold zkZ at htk;simp only[Bool.and_eq_true] at htk;exact htk.1
 have heat:zic L S r=E:=by unfold zic;rw[hE];rfl
 obtain⟨⟨d0,hd0⟩⟩:Nonempty {d // r.o.dst=some d}:=by obtain⟨d,hd⟩:=(hA.store j r.o hoj).2;exact⟨⟨d,hd⟩⟩
 have hlens:=h.len j (by omega)
 rw[hat] at hlens;simp only at hlens;have hlenm:=h.len tr.length (Nat.le_refl _)
 rw[zdL (Nat.le_refl _)] at hlenm;have hsz:a.tmps.size=r.s.σ.length:=by rw[hI.size,hlenm.1,hlens.1]
 have hd0lt:d0<a.tmps.size:=by
  unfold zqt at hdst;rw[hd0] at hdst;rw[hsz,hlens.1,←hlen,←hlens.2]
  simpa using hdst
 -- what the operation looks at has come up
 have hlookw:∀t,t∈zbe ops r.o→∀(i:Nat) (x:Rec),tr[i]?=some x→x.o.dst=some t→D i∧i<j:=fun t ht i x hx hd=>by
  obtain⟨h1,h2⟩:=hA.looks i j x.o r.o t (zfq hops hx) hoj hd ht;exact⟨hwait i h1,h2⟩
 have hslotJ:∀t,(∀(i:Nat) (x:Rec),tr[i]?=some x→x.o.dst=some t→D i∧i<j)→zcM p w a.tmps r.s t:=fun t ht=>by
  have hv:Vis tr D t:=fun i x hx hd=>(ht i x hx hd).1
  obtain⟨g1,g2⟩:=hI.slots t hv;have hnw:∀(y:Nat) (x:Rec),j≤y→y<j+(tr.length-j)→tr[y]?=some x→x.o.dst≠some t:=fun y x h1 _ hx hd=>by
   have:=(ht y x hx hd).2;omega
  have hk:=h.keeps (t:=t) (tr.length-j) j (by omega) hnw
  rw[show j+(tr.length-j)=tr.length by omega,zdL (Nat.le_refl _),hat] at hk
  refine⟨by rw[←hk.1];exact g1,fun x hx=>g2 x ?_⟩
  have hfw:=h.fwd (t:=t) (x:=x) (tr.length-j) j (by omega) hnw (fun y ry hry d hd=>by
   cases x with
   | el _ _ _ _=>exact absurd hx (hok.norow.1 _ _ _ _ _)
   | ref cs=>rfl
   | box b off =>
    have:=h.targets hops hA hpe j (by omega) t b off (by rw[hat];exact hx) y ry hry
    simp only[Ptr.at,beq_eq_false_iff_ne];intro e;rw[e] at this;exact this hd) (by rw[hat];exact hx)
  rw[show j+(tr.length-j)=tr.length by omega,zdL (Nat.le_refl _)] at hfw
  exact hfw
 have htarget:∀t b off,r.s.pe.lookup t=some (.box b off)→∀(i:Nat) (x:Rec),tr[i]?=some x→x.o.dst≠some b:=fun t b off hl=>h.targets hops hA hpe j (by omega) t b off (by rw[hat];exact hl)
 have hopl:∀t,Operand.tmp t∈r.o.op.operands.toList→t∈zbe ops r.o:=fun t ht=>by
  unfold zbe;exact List.mem_append_left _ (List.mem_filterMap.2 ⟨_,ht,rfl⟩)
 have hsee:∀x∈r.o.op.operands.toList,zcK p w a.tmps r.s x:=by
  intro x hx t ht;cases x with
  | tmp i =>
   unfold looks at ht;simp only at ht;split at ht
   ·rename_i d off hl
    simp only[List.mem_cons,List.not_mem_nil,or_false] at ht;rcases ht with rfl|rfl
    ·exact hslotJ t (hlookw t (hopl t hx))
    ·exact hslotJ t (fun i' x' hx' hd'=>absurd hd' (htarget i t off hl i' x' hx'))
   ·simp only[List.mem_singleton] at ht
    subst ht;exact hslotJ t (hlookw t (hopl t hx))
  | const c=>cases ht
  | global g=>cases ht
  | func f=>cases ht
 -- ranges of names
 have hrange:∀(i:Nat) (x:Rec) (id k:Nat),i≠j→tr[i]?=some x→(id,k)∈zbG L S x.base x.o→¬(r.base≤id∧id<r.base+zgG L S r.o):=fun i x id k hne hx hm hr=>by
  have h1:=zbP hm
  rcases Nat.lt_or_ge i j with hij|hij
  ·have:=h.base_lt hij hx hj;omega
  ·have:=h.base_lt (show j<i by omega) hj hx;omega
 have hbge:=h.base_ge hj
 have hcre:∀id,Cre L S tr b0 D id→¬(r.base≤id∧id<r.base+zgG L S r.o):=fun id hc hr=>by
  rcases hc with hc|⟨i,x,hDi,hx,k,hm⟩
  ·omega
  ·exact hrange i x id k (fun e=>hnot (by rw[←e];exact hDi)) hx hm hr
 have halt:∀id k,Al L S tr t0 D id k→¬(r.base≤id∧id<r.base+zgG L S r.o):=fun id k hc=>hcre id (by
  rcases hc.1 with hm|⟨i,x,hDi,hx,hm⟩
  ·exact .inl (h0.2 id k hm)
  ·exact .inr ⟨i,x,hDi,hx,k,hm⟩)
 -- places that the operation reads
 have hplJ:∀t n id,(∀(i:Nat) (x:Rec),tr[i]?=some x→x.o.dst=some t→D i∧i<j)→((t,n),id)∈r.st.pid→zax w (a.tmps.getD t undef) n=some (val id)∧Cre L S tr b0 D id:=fun t n id ht hm=>by
  have hv:Vis tr D t:=fun i x hx hd=>(ht i x hx hd).1
  have hk:=h.keeps (t:=t) (tr.length-j) j (by omega) (fun y x h1 _ hx hd=>by have:=(ht y x hx hd).2;omega)
  rw[show j+(tr.length-j)=tr.length by omega,zdL (Nat.le_refl _),hat] at hk
  obtain⟨c1,_,c3⟩:=hpl (t,n) id ((hk.2.2 n id).2 hm) hv;exact⟨c1,c3⟩
 have hdef:∀v,(a.put r.o.dst v).defers=a.defers:=fun v=>by cases r.o.dst <;> rfl
 have hvis:∀t,Vis tr (fun i=>D i∨i=j) t→t≠d0→Vis tr D t:=fun t ht hne i x hx hd=>by
  rcases ht i x hx hd with hD|rfl
  ·exact hD
  ·rw[hj] at hx;cases hx;rw[hd0] at hd;cases hd;exact absurd rfl hne
 have hkend:∀t,(∀(y:Nat) (x:Rec),j<y→tr[y]?=some x→x.o.dst≠some t)→Keeps t (r.s',r.st') (sm,tm):=fun t ht=>by
  have hk:=h.keeps (t:=t) (tr.length-(j+1)) (j+1) (by omega) (fun y x h1 _ hx=>ht y x (by omega) hx)
  rw[show j+1+(tr.length-(j+1))=tr.length by omega,zdL (Nat.le_refl _),h.step hj] at hk
  exact hk
 have hkd0:=hkend d0 (fun y x hy hx hd=>by have:=hA.once y j x.o r.o d0 (zfq hops hx) hoj hd hd0;omega)
 have hD':∀i,D i→D i∨i=j:=fun i h=>.inl h
 have hcre':∀id,Cre L S tr b0 D id→Cre L S tr b0 (fun i=>D i∨i=j) id:=fun id hc=>hc.imp (fun h=>h) fun⟨i,x,hDi,rest⟩=>⟨i,x,.inl hDi,rest⟩
 have htgm:∀t b off,sm.pe.lookup t=some (.box b off)→b≠d0:=fun t b off hl e=>by
  have:=h.targets hops hA hpe tr.length (Nat.le_refl _) t b off (by rw[zdL (Nat.le_refl _)];exact hl) j r hj
  rw[e] at this;exact this hd0
 have hgetd:∀{v:Value} t,t≠d0→(a.put r.o.dst v).tmps.getD t undef=a.tmps.getD t undef:=fun t hne=>zaM (by rw[hd0];intro e;cases e;exact hne rfl)
 -- ids that are used up
 have hEal:∀id k,id∈E→(id,k)∈r.st.alive→Cre L S tr b0 D id→Al L S tr t0 D id k:=fun id k hidE hm hc=>by
  obtain⟨c1,c2⟩:=h.alive h0 j (by omega) id k (by rw[hat];exact hm)
  refine⟨?_,fun i x hDi hx hmem=>?_⟩
  ·rcases c1 with c1|⟨i,x,hij,hx,hm'⟩
   ·exact .inl c1
   ·refine .inr ⟨i,x,?_,hx,hm'⟩
    rcases hc with hc|⟨i',x',hDi,hx',k',hm''⟩
    ·have:=zbP hm'
     have:=h.base_ge hx
     omega
    ·have h1:=zbP hm'
     have h2:=zbP hm''
     have:i=i':=by
      rcases Nat.lt_trichotomy i i' with h3|h3|h3
      ·have:=h.base_lt h3 hx hx';omega
      ·exact h3
      ·have:=h.base_lt h3 hx' hx;omega
     rw[this];exact hDi
  ·rcases Nat.lt_trichotomy i j with h3|h3|h3
   ·exact c2 i x h3 hx hmem
   ·exact hnot (by rw[←h3];exact hDi)
   ·obtain⟨hok',hst'⟩:=h.ok i x hx
    obtain⟨E',hE',_,_,_,_,_⟩:=zdm (zbp hst' hok'.step);have heat':zic L S x=E':=by unfold zic;rw[hE'];rfl
    rw[heat'] at hmem;obtain⟨_,k',hm'⟩:=zjf hok'.ids hE' id hmem;have hat':atR tr sm tm i=(x.s,x.st):=by unfold atR;rw[hx]
    have hilt:i<tr.length:=(List.getElem?_eq_some_iff.1 hx).1
    exact(h.alive h0 i (by omega) id k' (by rw[hat'];exact hm')).2 j r h3 hj (by rw[heat];exact hidE)
 -- the operation is left out
 have skip:∀g,r.o.guard=some g→zck all r.s g=some false→r.s'=r.s.put r.o.dst .und→K (a.put r.o.dst undef) w:=by
  intro g hg hgf hs';have hE0:E=[]:=hgE (by rw[hg];rfl)
  have hnp:zgF L S r.base r.o r.st=[]:=by unfold zgF;split <;> simp[hg]
  have hna:zbG L S r.base r.o=[]:=by unfold zbG;split <;> simp[hg]
  have hund:sm.get d0=.und:=by
   rw[hkd0.1];simp only;rw[hs',hd0,zb1];split <;> rfl
  have hne0:∀d cs,sm.get d=.box cs→d≠d0:=fun d cs hd e=>by rw[e,hund] at hd;cases hd
  have hAl':∀id k,Al L S tr t0 (fun i=>D i∨i=j) id k→Al L S tr t0 D id k:=fun id k hc=>by
   refine⟨?_,fun i x hDi hx=>hc.2 i x (.inl hDi) hx⟩
   rcases hc.1 with hm|⟨i,x,hDi,hx,hm⟩
   ·exact .inl hm
   ·rcases hDi with hDi|rfl
    ·exact .inr ⟨i,x,hDi,hx,hm⟩
    ·rw[hj] at hx;cases hx;rw[hna] at hm;cases hm
  have hpeD0:sm.pe.lookup d0=none:=by
   rcases hl:sm.pe.lookup d0 with _|y
   ·rfl
   ·have:=hkd0.2.1 y hl
    simp only at this;rw[hs',hd0,zcD] at this;cases this
  refine hK _ w p ⟨by rw[zmf];exact hI.size,fun t ht=>?_,hI.zp,hI.own,fun d cs hv hd=>?_,fun d d' cs cs' b hv hv' hne hd hd' hb=>?_,fun i x hDi hx id hid=>?_,val,fun q id hm hv=>?_,fun id k hc=>hal id k (hAl' id k hc),fun id k b hc hb=>?_,fun id k id' k' b hc hc'=>hap id k id' k' b (hAl' id k hc) (hAl' id' k' hc')⟩ (.refl _ _ _) (hsk g hg hgf)
  ·by_cases hne:t=d0
   ·subst hne
    rw[zcM,hund,hd0,zft hd0lt];exact⟨(by intro b hb;cases hb),fun y hy=>by rw[hpeD0] at hy;cases hy⟩
   ·obtain⟨g1,g2⟩:=hI.slots t (hvis t ht hne)
    rw[zcM,hgetd t hne];refine⟨g1,fun y hy=>?_⟩
    have:=g2 y hy
    cases y with
    | el _ _ _ _=>exact absurd hy (hnr.1 _ _ _ _ _)
    | ref cs=>exact this
    | box b off =>
     obtain⟨bb,e1,e2⟩:=this;exact⟨bb,by rw[hgetd b (htgm t b off hy)];exact e1,e2⟩
  ·rw[hgetd d (hne0 d cs hd)]
   exact hI.box d cs (hvis d hv (hne0 d cs hd)) hd
  ·rw[hgetd d (hne0 d cs hd)] at hb
   rw[hgetd d' (hne0 d' cs' hd')];exact hI.boxd d d' cs cs' b (hvis d hv (hne0 d cs hd)) (hvis d' hv' (hne0 d' cs' hd')) hne hd hd' hb
  ·rcases hDi with hDi|rfl
   ·exact hcre' id (hI.ate i x hDi hx id hid)
   ·rw[hj] at hx;cases hx;rw[heat,hE0] at hid;cases hid
  ·by_cases hne:q.1=d0
   ·exfalso
    have:=(hkd0.2.2 q.2 id).1 (by rw[←hne];exact hm)
    simp only at this;rw[hpid,hnp,List.nil_append,List.mem_filter] at this;simp[hd0] at this
   ·rw[hgetd q.1 hne]
    obtain⟨c1,c2,c3⟩:=hpl q id hm (hvis q.1 hv hne);exact⟨c1,c2,hcre' id c3⟩
  ·obtain⟨c1,c2⟩:=hown id k b (hAl' id k hc) hb
   refine⟨c1,fun d cs hv hd=>?_⟩
   rw[hgetd d (hne0 d cs hd)];exact c2 d cs (hvis d hv (hne0 d cs hd)) hd
 -- the operation is carried out
 have run:X→r.o.wp P a w K Q:=by
  intro hs;have hrep:=hrepX hs hsee htk
  have heatop:∀x∈zbQ L S r.o,x.1∈r.o.op.operands.toList:=by
   intro x hx;unfold zbQ at hx;split at hx
   ·rename_i args ats hop
    split at hx
    ·rename_i y z e hy he
     simp only[List.mem_singleton] at hx;subst hx;have:args=#[y,z]:=zfN hy
     subst this;simp[hop,Op.operands,Call.operands]
    ·cases hx
   ·rename_i f args ats hop
    simp only[List.mem_filterMap,zzOm] at hx;obtain⟨⟨y,ko⟩,hm,k,hk,rfl⟩:=hx;obtain⟨i,hi,_⟩:=zgh hm;simp only[hop,Op.operands,Call.operands];simp
    exact .inr (by simpa using List.mem_of_getElem? hi)
   ·cases hx
  obtain⟨hk1,hk2⟩:=zjp (a:=a) (A:=Al L S tr t0 D) hal hap hE hrep (fun x hx t ht id k h1 h2 h3=>by
   have hlk:=hlookw t (hopl t (by rw[←ht];exact heatop x hx))
   obtain⟨c1,c2⟩:=hplJ t 0 id hlk (zau h1);exact⟨c1,hEal id k h3 (za2 h2) c2⟩)
  have hop:=hdo hs hsee hsz hI.zp hok.spe (fun x hx=>(hk1 x hx).1) (fun i j u v b hij hi hj hb=>by
   rw[List.getElem?_map] at hi hj;simp only[zzOm] at hi hj;obtain⟨x,hx,rfl⟩:=hi;obtain⟨y,hy,rfl⟩:=hj;exact hk2 i j x y b hij hx hy hb) htk (fun c ⟨x,hx,hc⟩=>by
   obtain⟨id,_,k,hm,hv⟩:=(hk1 x hx).2 c hc;exact(hown id k c hm hv).1)
  refine hop K Q ?_
  rintro v w' ⟨p',w1,hp,hI1,he1,hR⟩
  obtain⟨g1,g2⟩:=zt5 h hops hA hpe h0 hlen hnr hI1 hj hnot hwait (fun x hx=>by obtain⟨c,hc⟩:=hrep x hx;exact⟨c,hc.evo he1⟩) hp
  exact hK _ w' p' g1 (he1.trans g2 (fun _ _ h=>h) (fun b _ hb=>hOwn b hb)) hR
 -- which of the two
 unfold wpOp;have hoa:oa[j]?=some r.o:=by
  have:=hsub j r.o hoj
  rw[hall] at this
  simpa using this
 rw[hoa];simp only;have hrun:=hx
 unfold zi7 at hrun;split at hrun
 ·rename_i hg
  have hw:Region.wanted r.o (yielded oa a.tmps)=true:=by unfold Region.wanted;rw[hg]
  rw[if_pos hw];exact .inl (run hrun)
 ·rename_i g hg
  obtain⟨t,ht,hrun⟩:=hrun;have hw:=zka (p:=p) (w:=w) (a:=a) (ops:=oa) hsz (fun d hd=>hslotJ d (hlookw d (hla j r.o d hoj (by
   unfold zbe;rw[hg,hall];simp only;exact List.mem_append_right _ (by rw[hd];simp))))) hg (by rw[←hall];exact ht)
  cases t with
  | true =>
   rw[if_pos hw];simp only[if_true] at hrun;exact .inl (run hrun)
  | false =>
   rw[if_neg (by rw[hw];simp)]
   simp only[Bool.false_eq_true,if_false] at hrun;exact skip g hg ht hrun
theorem zAS (hL:LayOk P L) (hC:za4 P S call) {oa:Array Oper} (hall:all=oa.toList) (h:Tr L S call all tr s0 t0 b0 sm tm) {ops:List Oper} (hops:tr.map (·.o)=ops) (hA:znY ops) (hsub:∀(i:Nat) (o:Oper),ops[i]?=some o→all[i]?=some o)
  (hla:∀(i:Nat) (o:Oper) (t:Nat),ops[i]?=some o→t∈zbe all o→t∈zbe ops o) (hpe:s0.pe=[]) (h0:zcG t0 b0) (hlen:t0.len=s0.σ.length)
  (hnr:zeD sm) (hI:InvD L S tr s0 sm t0 tm b0 D p w a.tmps Own) {j:Nat}{r:Rec} (hj:tr[j]?=some r) (hnot:¬D j) (hwait:∀i,zcx r.o i=true→D i) (hvj:zc8 L call all r.o r.s=some r.s')
  {Q:Exit→Act→World→Prop}{K:Act→World→Prop} (hK:∀a' w' p',InvD L S tr s0 sm t0 tm b0 (fun i=>D i∨i=j) p' w' a'.tmps Own→Evo Own p w p' w'→a'.defers=a.defers→(zbQ L S r.o=[]→Evo (fun _=>False) p w p' w')→(∀t,r.o.dst≠some t→a'.tmps.getD t undef=a.tmps.getD t undef)→K a' w'):wpOp P oa Q j K a w:=by
 have hst:=(h.ok j r hj).2
 have hx:zi7 all r (zaK L call r.o r.s=some r.s'):=by
  unfold zi7;unfold zc8 at hvj;split at hvj
  ·rename_i hg
   rw[hg];exact hvj
  ·rename_i g hg
   rw[hg];simp only[zzOb] at hvj;obtain⟨t,ht,hrun⟩:=hvj;refine⟨t,ht,?_⟩
   cases t with
   | true=>exact hrun
   | false =>
    simp only[Bool.false_eq_true,if_false,Option.some.injEq] at hrun ⊢;exact hrun.symm
 refine zrd hall h hops hA hpe h0 hlen hnr hI hj hnot hwait hsub hla hx (Own':=Own) (R:=fun _ p' w'=>zbQ L S r.o=[]→Evo (fun _=>False) p w p' w') (fun _ _ _ _=>.refl _ _ _) (fun _ h=>h) (fun hs hsee htk=>zpM (a:=a) hs hsee htk) (fun hs hsee hsz hz hq h1 h2 htk _=>?_) fun v w' p' g1 g2 g3=>hK _ w' p' g1 g2 (by cases r.o.dst <;> rfl) g3 (fun t ht=>zaM ht)
 refine(zwJ hL hC hs hst hsee hsz hz hq h1 h2 htk).mono ?_
 rintro v w' ⟨p',hp⟩
 exact⟨p',w,hp,hI,.refl _ _ _,fun he=>hp.evo.weaken (fun b _ hb=>by obtain⟨x,hx,_⟩:=hb;rw[he] at hx;cases hx)⟩
end
end
end Go.Proofs.Ytcpcagdialnbeaa

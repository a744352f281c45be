/- Generic texts and models for the proofs of this seat: part 18. -/
import Derived.Test.YtcpcagdialnbeaaY17
set_option linter.unusedVariables false
set_option linter.unusedSimpArgs false
namespace Go.Proofs.Ytcpcagdialnbeaa
section
open Go Go.RowKit
section
variable {P:Program}{L:Lay}{S:Sig}{T:Nat→Bool}{call:Orc}{ct:TOrc}{p p':Stb}{w w' w1:World}{a:Act}{s s':VS}{t t':TS}{o:Oper}{st st':Stt}{Own:Nat→Prop}{base b:Nat}{all:List Oper}{q:SPe}
variable {tr:List Rec}{s0 sm:VS}{t0 tm:Stt}{b0:Nat}{D:Nat→Prop}
def zxD (T:Nat→Bool) (tr:List Rec) (ts:Nat→TS) (b:Nat) (Own:Nat→Prop) (D:Nat→Prop) (p:Stb) (w:World) (m:Array Value):Prop :=
 (∀x,Vis tr D x→x∈(ts tr.length).tk→m.getD x undef=zaU b)∧(∀(i:Nat) (r:Rec),tr[i]?=some r→D i→∀k,zcx r.o k=true→D k)∧∃k,k≤tr.length∧(∀(i:Nat) (r:Rec),tr[i]?=some r→zgu T r.o=true→(D i↔i<k))∧TK p w Own b (ts k).q
theorem stepT (hL:LayOk P L) (hC:za4 P S call) (hT:zcR P S T ct) {oa:Array Oper}{ts:Nat→TS} (h:Tr L S call oa.toList tr s0 t0 b0 (ts tr.length).s tm) {ops:List Oper} (hops:tr.map (·.o)=ops) (hA:znY ops) (hsub:∀(i:Nat) (o:Oper),ops[i]?=some o→oa.toList[i]?=some o)
  (hla:∀(i:Nat) (o:Oper) (t:Nat),ops[i]?=some o→t∈zbe oa.toList o→t∈zbe ops o) (hpe:s0.pe=[]) (h0:zcG t0 b0) (hlen:t0.len=s0.σ.length) (hnr:zeD (ts tr.length).s) (hord:∀(i j:Nat) (o o':Oper),i<j→ops[i]?=some o→ops[j]?=some o'→zgu T o=true→zgu T o'=true→zlR 8 ops o' i=true)
  (hts:∀(j:Nat) (r:Rec),tr[j]?=some r→r.s=(ts j).s∧r.s'=(ts (j+1)).s∧zc3 (zaK L call) L T ct oa.toList r.o (ts j)=some (ts (j+1)))
  (hI:InvD L S tr s0 (ts tr.length).s t0 tm b0 D p w a.tmps Own) (hW:zxD T tr ts b Own D p w a.tmps) {j:Nat}{r:Rec} (hj:tr[j]?=some r) (hnot:¬D j) (hwait:∀i,zcx r.o i=true→D i)
  {Q:Exit→Act→World→Prop}{K:Act→World→Prop} (hK:∀a' w' p',InvD L S tr s0 (ts tr.length).s t0 tm b0 (fun i=>D i∨i=j) p' w' a'.tmps Own→Evo (fun c=>Own c∨c=b) p w p' w'→a'.defers=a.defers→zxD T tr ts b Own (fun i=>D i∨i=j) p' w' a'.tmps→K a' w'):wpOp P oa Q j K a w:=by
 obtain⟨hW1,hcl,k,hk,hkD,hTK⟩:=hW;obtain⟨e1,e2,hv⟩:=hts j r hj;have hts':∀(j:Nat) (r:Rec),tr[j]?=some r→zc3 (zaK L call) L T ct oa.toList r.o (ts j)=some (ts (j+1)):=fun j r hr=>(hts j r hr).2.2
 obtain⟨hok,hst⟩:=h.ok j r hj;have hjlt:j<tr.length:=(List.getElem?_eq_some_iff.1 hj).1
 have hoj:=zfq hops hj
 have hat:atR tr (ts tr.length).s tm j=(r.s,r.st):=by unfold atR;rw[hj]
 have hclo:∀(k:Nat) (o:Oper),ops[k]?=some o→D k→∀i,zcx o i=true→D i:=fun k o hk hD i hi=>by
  rw[←hops,List.getElem?_map] at hk;simp only[zzOm] at hk;obtain⟨x,hx,rfl⟩:=hk;exact hcl k x hx hD i hi
 have hdone:∀i,zlR 8 ops r.o i=true→D i:=fun i hi=>zq8 hclo 8 r.o i hi hwait
 have hlens:=h.len j (by omega)
 rw[hat] at hlens;simp only at hlens;have hlenm:=h.len tr.length (Nat.le_refl _)
 rw[zdL (Nat.le_refl _)] at hlenm;have hsz:a.tmps.size=r.s.σ.length:=by rw[hI.size,hlenm.1,hlens.1]
 obtain⟨E,hE,htk0,hdst,_,_,_⟩:=zdm (zbp hst hok.step);have hdlt:∀d,r.o.dst=some d→d<a.tmps.size:=fun d hd=>by
  unfold zqt at hdst;rw[hd] at hdst;rw[hsz,hlens.1,←hlen,←hlens.2]
  simpa using hdst
 -- what the box holds ahead of it
 have hqj:zgu T r.o=true→k≤j∧(ts j).q=(ts k).q:=fun hc=>by
  have hkj:k≤j:=by
   rcases Nat.lt_or_ge j k with hlt|hge
   ·exact absurd ((hkD j r hj hc).2 hlt) hnot
   ·exact hge
  refine⟨hkj,?_⟩
  have:=zsq hts' (j-k) k (by omega) (fun y ry h1 h2 hry=>by
   cases hcy:zgu T ry.o with
   | false=>rfl
   | true =>
    have h3:=hdone y (hord y j ry.o r.o (by omega) (zfq hops hry) hoj hcy hc)
    have:=(hkD y ry hry hcy).1 h3
    omega)
  rw[show k+(j-k)=j by omega] at this
  exact this
 obtain⟨k',hk',hnew,hkq⟩:∃k',k'≤tr.length∧(∀(i:Nat) (x:Rec),tr[i]?=some x→zgu T x.o=true→((D i∨i=j)↔i<k'))∧((zgu T r.o=true∧k'=j+1)∨(zgu T r.o=false∧k'=k)):=by
  cases hc:zgu T r.o with
  | true =>
   refine⟨j+1,by omega,fun i x hx hcx=>?_,.inl ⟨rfl,rfl⟩⟩
   constructor
   ·rintro(hD|rfl)
    ·have:=(hkD i x hx hcx).1 hD
     have:=(hqj hc).1
     omega
    ·omega
   ·intro hi
    rcases Nat.lt_or_ge i j with hlt|hge
    ·exact .inl (hdone i (hord i j x.o r.o hlt (zfq hops hx) hoj hcx hc))
    ·exact .inr (by omega)
  | false =>
   refine⟨k,hk,fun i x hx hcx=>?_,.inr ⟨rfl,rfl⟩⟩
   have hne:i≠j:=fun e=>by subst e;rw[hj] at hx;cases hx;rw[hc] at hcx;cases hcx
   rw[←hkD i x hx hcx];simp[hne]
 -- names that it looks at
 have htok:∀i,Operand.tmp i∈r.o.op.operands.toList→i∈(ts j).tk→a.tmps.getD i undef=zaU b:=fun i hi him=>by
  have hin:i∈zbe ops r.o:=by
   unfold zbe;exact List.mem_append_left _ (List.mem_filterMap.2 ⟨_,hi,rfl⟩)
  have hlk:∀(y:Nat) (x:Rec),tr[y]?=some x→x.o.dst=some i→D y∧y<j:=fun y x hx hd=>by
   obtain⟨g1,g2⟩:=hA.looks y j x.o r.o i (zfq hops hx) hoj hd hin;exact⟨hwait y g1,g2⟩
  refine hW1 i (fun y x hx hd=>(hlk y x hx hd).1) ?_
  have:=zlY hts' (x:=i) (tr.length-j) j (by omega) (fun y x g1 _ hx hd=>by have:=(hlk y x hx hd).2;omega)
  rw[show j+(tr.length-j)=tr.length by omega] at this
  exact this.2 him
 have hx:zi7 oa.toList r (zfc (zaK L call) L T ct r.o (ts j)=some (ts (j+1))):=by
  unfold zi7;unfold zc3 at hv;split at hv
  ·rename_i hg
   rw[hg];exact hv
  ·rename_i g hg
   rw[hg];simp only[zzOb] at hv;obtain⟨u,hu,hrun⟩:=hv;refine⟨u,by rw[e1];exact hu,?_⟩
   cases u with
   | true=>exact hrun
   | false =>
    simp only[Bool.false_eq_true,if_false,Option.some.injEq] at hrun ⊢;rw[e2,e1,←hrun]
 refine zrd rfl h hops hA hpe h0 hlen hnr hI hj hnot hwait hsub hla hx (Own':=fun c=>Own c∨c=b) (R:=fun v p' w'=>TK p' w' Own b (ts k').q∧∀d,r.o.dst=some d→d∈(ts (j+1)).tk→v=zaU b) (fun g hg hgf=>?_) (fun _ h=>.inl h) (fun hs hsee htk=>?_) (fun hs hsee hsz hz hq g1 g2 htk hown=>?_) fun v w' p' g1 g2 ⟨g3,g4⟩=>?_
 ·have hv2:=hv
  unfold zc3 at hv2;rw[hg] at hv2;simp only at hv2;rw[←e1,hgf] at hv2;simp only[Option.bind_some,Bool.false_eq_true,if_false,Option.some.injEq] at hv2;refine⟨?_,fun d hd hm=>?_⟩
  ·rcases hkq with ⟨hc,rfl⟩|⟨_,rfl⟩
   ·rw[←hv2]
    simp only;rw[(hqj hc).2];exact hTK
   ·exact hTK
  ·rw[←hv2] at hm
   exact absurd hd (zjA hm).2
 ·have hv3:=hs
  unfold zfc at hv3;split at hv3
  ·rename_i hc
   obtain⟨f,xs,tys,hop,hTf⟩:=zfO hc;have:zbQ L S r.o=[]:=by simp[zbQ,hop,(hT f hTf).1]
   rw[this];intro x hx;cases hx
  ·split at hv3
   ·rename_i hto
    obtain⟨i,hop,_,_⟩:=zfP hto;have:zbQ L S r.o=[]:=by rcases hop with hop|hop <;> simp[zbQ,hop]
    rw[this];intro x hx;cases hx
   ·simp only[zzOm] at hv3
    obtain⟨s1,h1,_⟩:=hv3;rw[←e1] at h1;exact zpM (a:=a) h1 hsee htk
 ·have hv3:=hs
  unfold zfc at hv3;split at hv3
  ·rename_i hc
   simp only[zzOm] at hv3;obtain⟨rr,hcall,hr'⟩:=hv3;obtain⟨f,xs,tys,x,xs',ty0,tys',vs,i,hop,hxs,htys,hxi,him,hvs,hct⟩:=zkM hcall;obtain⟨f',xs2,ts2,hop',hTf⟩:=zfO hc;rw[hop] at hop';cases hop';have hopnd:∀y∈xs.toList,y∈r.o.op.operands.toList:=fun y hy=>by
    simp only[hop,Op.operands,Call.operands];simp
    exact .inr (by simpa using hy)
   rw[←e1] at hvs;have hreps:=zkD (p:=p) (w:=w) (a:=a) _ _ _ hvs (fun y hy=>hsee y (hopnd y (by rw[hxs];exact List.mem_cons_of_mem _ hy)))
   have hpx:a.eval x=zaU b:=by
    rw[hxi];exact htok i (hopnd _ (by rw[hxs,hxi];exact List.mem_cons_self)) him
   have hTKj:TK p w Own b (ts j).q:=by rw[(hqj hc).2];exact hTK
   refine(zqj (L:=L) (q:=r.st.spe) (s:=r.s) hT hop hTf hxs hpx hreps hct hTKj hz hsz).mono ?_
   rintro v w' ⟨p',w1,hp,he1,hs1,hT'⟩
   have hs':r.s.put r.o.dst rr.1=r.s':=by rw[e2,←hr',e1]
   rw[hs'] at hp;refine⟨p',w1,hp,hI.off he1 hs1 hTK.not hnr,he1.weaken (fun _ _ h=>.inr h),?_,fun d hd hm=>?_⟩
   ·rcases hkq with ⟨_,rfl⟩|⟨hc',_⟩
    ·rw[←hr'];exact hT'
    ·rw[hc] at hc';cases hc'
   ·rw[←hr'] at hm
    exact absurd hd (zjA hm).2
  ·rename_i hnc
   have hc:zgu T r.o=false:=by simpa using hnc
   have hkk:k'=k:=by
    rcases hkq with ⟨hc',_⟩|⟨_,e⟩
    ·rw[hc] at hc';cases hc'
    ·exact e
   split at hv3
   ·rename_i hto
    split at hv3
    case h_2=>cases hv3
    rename_i d hd;simp only[Option.some.injEq] at hv3;obtain⟨i,hop,him,hti⟩:=zfP hto;have hpi:=htok i (by rcases hop with hop|hop <;> simp[hop,Op.operands]) him
    refine(ztW (S:=S) (q:=r.st.spe) (s:=r.s) hop hti hpi hz hsz hd).mono ?_
    rintro v w' ⟨hvb,rfl,hp⟩
    have hs':r.s.put (some d) .und=r.s':=by rw[e2,←hv3,e1]
    rw[hs'] at hp;exact⟨p,w',hp,hI,.refl _ _ _,by rw[hkk];exact hTK,fun _ _ _=>hvb⟩
   ·simp only[zzOm] at hv3
    obtain⟨s1,h1,hr'⟩:=hv3;rw[←e1] at h1;have hs':s1=r.s':=by rw[e2,←hr']
    rw[hs'] at h1;refine(zwJ hL hC h1 hst hsee hsz hz hq g1 g2 htk).mono ?_
    rintro v w' ⟨p',hp⟩
    refine⟨p',w,hp,hI,.refl _ _ _,?_,fun d hd hm=>?_⟩
    ·rw[hkk]
     exact hTK.evo (hp.evo.weaken fun c _ hc=>hown c hc)
    ·rw[←hr'] at hm
     exact absurd hd (zjA hm).2
 ·refine hK _ w' p' g1 g2 (by cases r.o.dst <;> rfl) ⟨fun x hvx hxm=>?_,fun i x hxx hD m hm=>?_,k',hk',hnew,g3⟩
  rotate_left
  ·rcases hD with hD|rfl
   ·exact .inl (hcl i x hxx hD m hm)
   ·rw[hj] at hxx;cases hxx;exact .inl (hwait m hm)
  by_cases hd:r.o.dst=some x
  ·have hin:x∈(ts (j+1)).tk:=by
    have:=zlY hts' (x:=x) (tr.length-(j+1)) (j+1) (by omega) (fun y ry h1 _ hry hdy=>by
     have:=hA.once y j ry.o r.o x (zfq hops hry) hoj hdy hd
     omega)
    rw[show j+1+(tr.length-(j+1))=tr.length by omega] at this
    exact this.1 hxm
   rw[hd,zft (hdlt x hd)];exact g4 x hd hin
  ·rw[zaM hd]
   refine hW1 x (fun y ry hry hdy=>?_) hxm
   rcases hvx y ry hry hdy with hD|rfl
   ·exact hD
   ·rw[hj] at hry;cases hry;exact absurd hdy hd
theorem zmv {bop:Oper→VS→Option VS}:∀(xs ys:List Oper) (t:TS),zdb bop L T ct all (xs++ys) t=(zdb bop L T ct all xs t).bind (zdb bop L T ct all ys)
 | [],ys,t=>rfl
 | x::xs,ys,t=>by
  simp only[List.cons_append,zdb,Option.bind_assoc]
  congr 1
  funext t1
  exact zmv xs ys t1
def zbu (T:Nat→Bool):zjN:=fun L S ops st=>if zul T (ziL ops.toList) then zpo L S ops st else none
theorem zvL [Home] (hP:P.follows .mixedOrders=true) (hL:LayOk P L) (hC:za4 P S call) (hT:zcR P S T ct) (id:Nat) (oa:Array Oper) (σ:List AV) (q:List AC) (Q:Exit→Act→World→Prop) (hdr:zbu T L S oa st=some st') (hv:zdb (zaK L call) L T ct oa.toList oa.toList ⟨{σ:=σ,pe:=[]},[Home.hm],q⟩=some t')
  (hna:∀t k r,VS.get {σ:=σ,pe:=[]} t≠.arr k r) (hnl:∀t d,VS.get {σ:=σ,pe:=[]} t=.al d→d=zbK) (hI:Inv st p w a.tmps {σ:=σ,pe:=[]} Own) (h00:a.tmps.getD Home.hm undef=zaU b) (hTK:TK p w Own b q)
  (hQ:∀a' w' p',Inv st' p' w' a'.tmps {σ:=t'.s.σ,pe:=[]} Own→zl3 b a'.tmps t'.tk→TK p' w' Own b t'.q→Evo (fun c=>Own c∨c=b) p w p' w'→a'.defers=a.defers→Q .normal a' w'):(Code.region id oa true).wp P Q a w:=by
 unfold zbu at hdr;split at hdr
 case isFalse=>cases hdr
 rename_i hto;unfold zpo at hdr;split at hdr
 case isFalse=>cases hdr
 rename_i hc;simp only[Bool.and_eq_true,List.isEmpty_iff] at hc;obtain⟨⟨hspe,hnb⟩,hc⟩:=hc;simp only[zzOm] at hdr;obtain⟨⟨bm,stz⟩,hsteps,rfl⟩:=hdr;unfold zr2 at hc;simp only[Bool.and_eq_true] at hc;obtain⟨⟨⟨hany,hedge⟩,hguard⟩,htl⟩:=hc;have hA:=zmW hany
 have hedge':∀(i:Nat) (o:Oper),oa[i]?=some o→∀e∈o.after,Region.binds .any e=true→e.on<i:=by
  intro i o ho e he hb;have h1:=List.all_eq_true.1 hedge _ (zc1 (l:=oa.toList) (i:=i) (x:=o) (by simpa using ho))
  have h2:=List.all_eq_true.1 h1 e (by simpa using he)
  simp only[hb,Bool.not_true,Bool.false_or,decide_eq_true_eq] at h2;exact h2
 generalize hcore:ziL oa.toList=core at hany hguard htl hA hto
 have hns:∀o∈core,zaA o=false:=fun o ho=>by
  obtain⟨i,hi,he⟩:=List.mem_iff_getElem.1 ho;exact(hA.store i o (by rw[List.getElem?_eq_getElem hi,he])).1
 -- the last one
 have hsplit:core=oa.toList∨∃o,oa.toList=core++[o]∧∀i,i<core.length→zcx o i=true:=by
  unfold ziL at hcore;split at hcore
  ·exact .inl hcore.symm
  ·rcases List.eq_nil_or_concat oa.toList with h|⟨l,o,h⟩
   ·left;rw[←hcore,h];rfl
   ·right
    have hl:core=l:=by rw[←hcore,h];simp
    refine⟨o,by rw[hl];simpa using h,?_⟩
    rw[h] at htl;simp only[Bool.or_eq_true,beq_iff_eq] at htl;rcases htl with htl|htl
    ·rw[hl] at htl;simp at htl
    ·simp at htl
     intro i hi;exact htl i hi
 have hsub:∀(i:Nat) (o:Oper),core[i]?=some o→oa.toList[i]?=some o:=fun i o hi=>by
  rcases hsplit with h|⟨x,h,_⟩
  ·rw[←h];exact hi
  ·rw[h,List.getElem?_append_left (List.getElem?_eq_some_iff.1 hi).1];exact hi
 have hla:∀(i:Nat) (o:Oper) (t:Nat),core[i]?=some o→t∈zbe oa.toList o→t∈zbe core o:=fun i o t hi ht=>by
  unfold zbe at ht ⊢;rcases List.mem_append.1 ht with ht|ht
  ·exact List.mem_append_left _ ht
  ·refine List.mem_append_right _ ?_
   cases hg:o.guard with
   | none=>rw[hg] at ht;exact ht
   | some g =>
    rw[hg] at ht;simp only at ht ⊢;have h1:=List.all_eq_true.1 hguard o (List.mem_of_getElem? hi)
    rw[hg] at h1;simp only[decide_eq_true_eq] at h1;rw[hsub g.1 core[g.1] (List.getElem?_eq_getElem h1)] at ht;rw[List.getElem?_eq_getElem h1];exact ht
 have hsz:oa.toList.length=oa.size:=by simp
 refine wp_region_any hP ?_
 have hI':=hI.drew
 have hcnt:(Array.replicate oa.size false).toList.count false=oa.size:=by simp
 have hord:=zvk hto
 obtain⟨sc,stc,bc,hvc,hsc,htail⟩:∃sc stc bc,zdb (zaK L call) L T ct oa.toList core ⟨{σ:=σ,pe:=[]},[Home.hm],q⟩=some sc∧zcl L S (zhI st) core st=some (bc,stc) ∧
   ((core.length=oa.size∧sc=t'∧stc=stz)∨(core.length+1=oa.size∧∃o,oa[core.length]?=some o∧(∀i,i<core.length→zcx o i=true)∧zc3 (zaK L call) L T ct oa.toList o sc=some t'∧zc0 L S bc o stc=some stz)):=by
  rcases hsplit with h|⟨o,h,hw⟩
  ·exact⟨t',stz,bm,by rw[h];exact hv,by rw[h];exact hsteps,.inl ⟨by rw[h,hsz],rfl,rfl⟩⟩
  ·have hv':zdb (zaK L call) L T ct oa.toList (core++[o]) ⟨{σ:=σ,pe:=[]},[Home.hm],q⟩=some t':=by rw[←h];exact hv
   have hs':zcl L S (zhI st) (core++[o]) st=some (bm,stz):=by rw[←h];exact hsteps
   rw[zmv] at hv';rw[zh8] at hs';simp only[zzOb] at hv' hs';obtain⟨sc,hvc,hv'⟩:=hv';obtain⟨⟨bc,stc⟩,hsc,hs'⟩:=hs';simp only[zdb,zzOb] at hv';obtain⟨s2,hv2,hv'⟩:=hv';cases hv';simp only[zcl,zzOb] at hs';obtain⟨st2,hs2,hs'⟩:=hs';cases hs';refine⟨sc,stc,bc,hvc,hsc,.inr ⟨?_,o,?_,hw,hv2,hs2⟩⟩
   ·rw[←hsz,h];simp
   ·have:oa.toList[core.length]?=some o:=by rw[h];simp
    simpa using this
 have hval:∀f args r,call f args=some r→zix r=true:=fun f args r h=>(hC f args r h).1.1
 obtain⟨tr,ts,k1,k2,k3,k4,k5,k6,k7,k8,k9,k10,k11,k12,k13,k14⟩:=zwn hT hval core (zhI st) bc ⟨{σ:=σ,pe:=[]},[Home.hm],q⟩ sc st stc hns hvc hsc (zdQ st) trivial hI.sonce hI.spe ⟨fun _ _ _ _ _ h=>(by cases h),hna,hnl⟩
 rw[←k13] at k5 k6 k7 k9 k11 htail;have hTr:Tr L S call oa.toList tr {σ:=σ,pe:=[]} st (zhI st) (ts tr.length).s stc:=zx0 k2 (fun r hr=>hns r.o (by rw[←k1];exact List.mem_map_of_mem hr)) k3 k4 k5 k6
 have hnone:∀j,¬((Array.replicate oa.size false).getD j false=true):=fun j hj=>by
  rw[Array.getD_eq_getD_getElem?,Array.getElem?_replicate] at hj;split at hj <;> cases hj
 have hstart:=InvD.start (D:=fun i=>(Array.replicate oa.size false).getD i false=true) hTr (zdQ st) rfl hI' hnone
 have hts':∀(j:Nat) (r:Rec),tr[j]?=some r→zc3 (zaK L call) L T ct oa.toList r.o (ts j)=some (ts (j+1)):=fun j r hr=>(k14 j r hr).2.2
 have hlenr:∀(j:Nat),j<tr.length→∃r,tr[j]?=some r:=fun j hj=>⟨tr[j],List.getElem?_eq_getElem hj⟩
 have hW0:zxD T tr ts b Own (fun i=>(Array.replicate oa.size false).getD i false=true) p w.drew a.tmps:=by
  refine⟨fun x hvx hxm=>?_,fun i r _ hD=>absurd hD (hnone i),0,by omega,fun i r _ _=>⟨fun hD=>absurd hD (hnone i),fun h=>by omega⟩,?_⟩
  ·have:=zlY hts' (x:=x) tr.length 0 (by omega) (fun y r _ _ hr hd=>hnone y (hvx y r hr hd))
   rw[Nat.zero_add,k12] at this;have:=this.1 hxm
   simp only[List.mem_singleton] at this;rw[this];exact h00
  ·rw[k12]
   exact hTK.evo (zfj Own)
 have hfin:∀D p w m,(∀(j:Nat) (r:Rec),tr[j]?=some r→D j)→zxD T tr ts b Own D p w m→zl3 b m (ts tr.length).tk∧TK p w Own b (ts tr.length).q:=by
  rintro D p w m hD ⟨g1,_,k,hk,hkD,hTK⟩
  refine⟨fun x hx=>g1 x (fun j r hr _=>hD j r hr) hx,?_⟩
  have:=zsq hts' (tr.length-k) k (by omega) (fun y r h1 h2 hr=>by
   cases hc:zgu T r.o with
   | false=>rfl
   | true =>
    have:=(hkD y r hr hc).1 (hD y r hr)
    omega)
  rw[show k+(tr.length-k)=tr.length by omega] at this
  rw[this];exact hTK
 refine zu9 hTr k1 hsub (zdQ st) hI.len k7 k8 k9 k11 (zjQ hnb hsc) hedge' (sz:=t'.s) (stz:=stz) (Own':=fun c=>Own c∨c=b) (W:=zxD T tr ts b Own) (WZ:=fun p w m=>zl3 b m t'.tk∧TK p w Own b t'.q)
  (fun D p w a j r hj hnot hwait hI hW Q K hK=>stepT hL hC hT hTr k1 hA hsub hla rfl (zdQ st) hI'.len k11 hord k14 hI hW hj hnot hwait hK) ?_ oa.size _ p _ a (by simp) hcnt (fun _=>by
  rw[Array.getD_eq_getD_getElem?,Array.getElem?_replicate];split <;> rfl) hstart hW0 fun a' w' p' g1 g2 g3 g4=>?_
 ·rcases htail with ⟨hn,e1,e2⟩|⟨hn,o,ho,hw,hv2,hst2⟩
  ·exact .inl ⟨hn,by rw[e1],e2,fun D p w m hD hW=>by rw[←e1];exact hfin D p w m hD hW⟩
  ·refine .inr ⟨hn,o,ho,hw,fun D p w a hD hI hW Q K hK=>?_⟩
   obtain⟨f1,f2⟩:=hfin D p w a.tmps hD hW;exact zvO hL hC hT ho hI k10 f1 f2 hv2 hst2 fun a' w' p' g1 g2 g3 g4 g5=>hK a' w' p' g1 g4 g5 ⟨g2,g3⟩
 ·exact hQ a' w' p' g1.reset g4.1 g4.2 (((zfj Own).weaken (fun _ _ h=>.inl h)).trans g2 (fun _ _ h=>h) (fun _ _ h=>h)) g3
end
end
section
open Go Go.RowKit
section
variable {P:Program}{L:Lay}{T:Nat→Bool}{call:Orc}{E:zmy}{all:List Oper}{bop:Oper→VS→Option VS}
theorem zxe {c c':TOrc} (h:TOrc.le c c') {o:Oper}{t:TS}{r:AV×List AC} (hs:zlf L c o t=some r):zlf L c' o t=some r:=by
 unfold zlf at hs ⊢;split at hs
 ·split at hs
  ·split at hs
   ·rename_i hx
    rw[if_pos hx];simp only[zzOb] at hs ⊢;obtain⟨vs,h1,h2⟩:=hs;exact⟨vs,h1,h _ _ _ _ h2⟩
   ·cases hs
  ·cases hs
 ·cases hs
theorem zuQ {c c':TOrc} (h:TOrc.le c c') {o:Oper}{t t':TS} (hs:zfc bop L T c o t=some t'):zfc bop L T c' o t=some t':=by
 unfold zfc at hs ⊢;split at hs
 ·rename_i hc
  rw[if_pos hc];simp only[zzOm] at hs ⊢;obtain⟨r,h1,h2⟩:=hs;exact⟨r,zxe h h1,h2⟩
 ·rename_i hc
  rw[if_neg hc];exact hs
theorem zsZ {c c':TOrc} (h:TOrc.le c c') {o:Oper}{t t':TS} (hs:zc3 bop L T c all o t=some t'):zc3 bop L T c' all o t=some t':=by
 unfold zc3 at hs ⊢;split at hs
 ·exact zuQ h hs
 ·simp only[zzOb] at hs ⊢
  obtain⟨u,hu,hs⟩:=hs;refine⟨u,hu,?_⟩
  cases u
  ·exact hs
  ·exact zuQ h hs
theorem zmL {c c':TOrc} (h:TOrc.le c c'):∀{ops:List Oper}{t t':TS},zdb bop L T c all ops t=some t'→zdb bop L T c' all ops t=some t'
 | [],_,_,hs=>hs
 | o::rest,t,t',hs=>by
  simp only[zdb,zzOb] at hs ⊢;obtain⟨t1,h1,h2⟩:=hs;exact⟨t1,zsZ h h1,zmL h h2⟩
theorem zqB [Home] {c c':TOrc} (h:TOrc.le c c') {ops:List Oper}{d:Bool}{x y:List AV×List AC} (hs:zkl L T call c ops d x=some y):zkl L T call c' ops d x=some y:=by
 unfold zkl at hs ⊢;simp only[zzOb] at hs ⊢;obtain⟨t,h1,h2⟩:=hs;refine⟨t,?_,h2⟩
 cases d
 ·exact zmL h h1
 ·exact zmL h h1
theorem zbW [Home] {c c':TOrc} (h:TOrc.le c c'):∀{n m:Nat}{k:Code}{s:List AV×List AC}{r:Xt×(List AV×List AC)},n≤m→zaS L T call c n k s=some r→zaS L T call c' m k s=some r
 | 0,_,_,_,_,_,hs=>by simp[zaS] at hs
 | n+1,0,_,_,_,hm,_=>by omega
 | n+1,m+1,k,s,r,hm,hs=>by
  have hm':n≤m:=by omega
  cases k <;> simp only[zaS] at hs ⊢ <;> try exact hs
  case region id ops d =>
   simp only[zzOm] at hs ⊢;obtain⟨s1,h1,h2⟩:=hs;exact⟨s1,zqB h h1,h2⟩
  case seq a b =>
   simp only[zzOb] at hs ⊢;obtain⟨⟨e,s1⟩,h1,h2⟩:=hs;refine⟨_,zbW h hm' h1,?_⟩
   cases e with
   | norm=>exact zbW h hm' h2
   | exit i=>exact h2
   | ret=>exact h2
  case cond x a b =>
   simp only[zzOb] at hs ⊢;obtain⟨t,h1,h2⟩:=hs;refine⟨t,h1,?_⟩
   cases t
   ·exact zbW h hm' h2
   ·exact zbW h hm' h2
  case block id b =>
   simp only[zzOm] at hs ⊢;obtain⟨r1,h1,h2⟩:=hs;exact⟨r1,zbW h hm' h1,h2⟩
  case loop b =>
   simp only[zzOb] at hs ⊢;obtain⟨⟨e,s1⟩,h1,h2⟩:=hs;refine⟨_,zbW h hm' h1,?_⟩
   cases e with
   | norm=>exact zbW h hm' h2
   | exit i=>exact h2
   | ret=>exact h2
theorem zxE {c c':TOrc} (h:TOrc.le c c') {n m:Nat}{fn:Func}{q:List AC}{args:List SV}{r:AV×List AC} (hm:n≤m) (hs:zle L T call c n fn q args=some r):zle L T call c' m fn q args=some r:=by
 unfold zle at hs ⊢;split at hs
 ·exact hs
 ·rename_i k hk
  split at hs
  ·rename_i hlen
   rw[if_pos hlen];simp only[zzOb] at hs ⊢;obtain⟨r1,h1,h2⟩:=hs;exact⟨r1,zbW h hm h1,h2⟩
  ·cases hs
theorem zeL:∀{n m:Nat},n≤m→TOrc.le (zeb P L T call E n) (zeb P L T call E m)
 | 0,_,_=>fun _ _ _ _ h=>by simp[zeb] at h
 | n+1,0,hm=>by omega
 | n+1,m+1,hm=>fun f q x r h=>by
  have hm':n≤m:=by omega
  simp only[zeb] at h ⊢;split at h
  ·rename_i hF
   rw[if_pos hF];split at h
   ·rename_i e he
    exact e.mono _ _ (zeL hm') _ _ _ h
   ·split at h
    ·exact zxE (zeL hm') hm' h
    ·exact h
  ·cases h
noncomputable def TV (P:Program) (L:Lay) (T:Nat→Bool) (call:Orc) (E:zmy):TOrc:=fun f q x=>lim fun n=>zeb P L T call E n f q x
noncomputable def TVC [Home] (P:Program) (L:Lay) (T:Nat→Bool) (call:Orc) (E:zmy) (k:Code) (s:List AV×List AC):Option (Xt×(List AV×List AC)):=lim fun n=>zaS L T call (zeb P L T call E n) n k s
theorem zzk (f:FuncId) (q:List AC) (x:List SV):zxJ fun n=>zeb P L T call E n f q x:=fun _ _ _ h hs=>zeL h _ _ _ _ hs
theorem zxx [Home] (k:Code) (s:List AV×List AC):zxJ fun n=>zaS L T call (zeb P L T call E n) n k s:=fun _ _ _ h hs=>zbW (zeL h) h hs
theorem TV_iff {f:FuncId}{q:List AC}{x:List SV}{r:AV×List AC}:TV P L T call E f q x=some r↔∃n,zeb P L T call E n f q x=some r:=zoW (zzk f q x)
theorem TVC_iff [Home] {k:Code}{s:List AV×List AC}{r:Xt×(List AV×List AC)}:TVC P L T call E k s=some r↔∃n,zaS L T call (zeb P L T call E n) n k s=some r:=zoW (zxx k s)
theorem zCU (n:Nat):TOrc.le (zeb P L T call E n) (TV P L T call E):=fun _ _ _ _ h=>TV_iff.2 ⟨n,h⟩
theorem zyT (f:FuncId) (q:List AC) (x:List SV) (r:AV×List AC) (h:TV P L T call E f q x=some r):∃n,zeb P L T call E n f q x=some r:=TV_iff.1 h
theorem zut {o:Oper}{t:TS}{r:AV×List AC} (hs:zlf L (TV P L T call E) o t=some r):∃n,zlf L (zeb P L T call E n) o t=some r:=by
 unfold zlf at hs ⊢;split at hs
 ·split at hs
  ·split at hs
   ·rename_i hx
    simp only[if_pos hx];simp only[zzOb] at hs ⊢;obtain⟨vs,h1,h2⟩:=hs;obtain⟨n,hn⟩:=TV_iff.1 h2;exact⟨n,vs,h1,hn⟩
   ·cases hs
  ·cases hs
 ·cases hs
theorem zre {o:Oper}{t t':TS} (hs:zfc bop L T (TV P L T call E) o t=some t'):∃n,zfc bop L T (zeb P L T call E n) o t=some t':=by
 unfold zfc at hs ⊢;split at hs
 ·rename_i hc
  simp only[if_pos hc];simp only[zzOm] at hs ⊢;obtain⟨r,h1,h2⟩:=hs;obtain⟨n,hn⟩:=zut h1;exact⟨n,r,hn,h2⟩
 ·rename_i hc
  simp only[if_neg hc];exact⟨0,hs⟩
theorem zuB {o:Oper}{t t':TS} (hs:zc3 bop L T (TV P L T call E) all o t=some t'):∃n,zc3 bop L T (zeb P L T call E n) all o t=some t':=by
 unfold zc3 at hs ⊢;split at hs
 ·exact zre hs
 ·simp only[zzOb] at hs ⊢
  obtain⟨u,hu,hs⟩:=hs;cases u
  ·exact⟨0,false,hu,hs⟩
  ·obtain⟨n,hn⟩:=zre hs
   exact⟨n,true,hu,hn⟩
theorem zlT:∀{ops:List Oper}{t t':TS},zdb bop L T (TV P L T call E) all ops t=some t'→∃n,zdb bop L T (zeb P L T call E n) all ops t=some t'
 | [],_,_,hs=>⟨0,hs⟩
 | o::rest,t,t',hs=>by
  simp only[zdb,zzOb] at hs ⊢;obtain⟨t1,h1,h2⟩:=hs;obtain⟨n1,h1⟩:=zuB h1;obtain⟨n2,h2⟩:=zlT h2;exact⟨max n1 n2,t1,zsZ (zeL (Nat.le_max_left _ _)) h1,zmL (zeL (Nat.le_max_right _ _)) h2⟩
theorem zum [Home] {ops:List Oper}{d:Bool}{x y:List AV×List AC} (hs:zkl L T call (TV P L T call E) ops d x=some y):∃n,zkl L T call (zeb P L T call E n) ops d x=some y:=by
 unfold zkl at hs ⊢;simp only[zzOb] at hs ⊢;obtain⟨t,h1,h2⟩:=hs;cases d
 ·obtain⟨n,hn⟩:=zlT h1
  exact⟨n,t,hn,h2⟩
 ·obtain⟨n,hn⟩:=zlT h1
  exact⟨n,t,hn,h2⟩
theorem zBZ {f:FuncId}{e:zzv} (hT:T f=true) (he:E f=some e) {q:List AC}{x:List SV}{r:AV×List AC} (h:e.run (TV P L T call E) q x=some r):TV P L T call E f q x=some r:=by
 obtain⟨n,hn⟩:=e.cont _ (zeb P L T call E) (fun _ _ h=>zeL h) zyT _ _ _ h
 refine TV_iff.2 ⟨n+1,?_⟩
 simp only[zeb,hT,if_true,he];exact hn
theorem zx5 [Home] (s:List AV×List AC):TVC P L T call E .skip s=some (.norm,s):=TVC_iff.2 ⟨1,rfl⟩
theorem zxX [Home] (id:Nat) (s:List AV×List AC):TVC P L T call E (.exit id) s=some (.exit id,s):=TVC_iff.2 ⟨1,rfl⟩
theorem zzp [Home] (s:List AV×List AC):TVC P L T call E .ret s=some (.ret,s):=TVC_iff.2 ⟨1,rfl⟩
theorem zuK [Home] (id:Nat) (ops:Array Oper) (d:Bool) (s:List AV×List AC) :
  TVC P L T call E (.region id ops d) s=(zkl L T call (TV P L T call E) ops.toList d s).map fun s=>(.norm,s):=by
 refine zff fun r=>?_
 rw[TVC_iff];constructor
 ·rintro⟨n,hn⟩
  cases n with
  | zero=>simp[zaS] at hn
  | succ n =>
   simp only[zaS,zzOm] at hn ⊢;obtain⟨s1,h1,h2⟩:=hn;exact⟨s1,zqB (zCU _) h1,h2⟩
 ·intro h
  simp only[zzOm] at h;obtain⟨s1,h1,h2⟩:=h;obtain⟨n,hn⟩:=zum h1;refine⟨n+1,?_⟩
  simp only[zaS,zzOm];exact⟨s1,zqB (zeL (Nat.le_succ n)) hn,h2⟩
noncomputable def zhD [Home] (P:Program) (L:Lay) (T:Nat→Bool) (call:Orc) (E:zmy) (k:Code):Xt×(List AV×List AC)→Option (Xt×(List AV×List AC))
 | (.norm,s)=>TVC P L T call E k s
 | r=>some r
theorem zh1 [Home] {n:Nat}{k:Code}{s:List AV×List AC}{r:Xt×(List AV×List AC)} (h:zaS L T call (zeb P L T call E (n+1)) n k s=some r):TVC P L T call E k s=some r :=
 TVC_iff.2 ⟨n+1,zbW (fun _ _ _ _ h=>h) (Nat.le_succ n) h⟩
theorem zhK [Home] {k:Code}{s:List AV×List AC}{r:Xt×(List AV×List AC)} (h:TVC P L T call E k s=some r):∃n,∀m,n≤m→zaS L T call (zeb P L T call E (m+1)) m k s=some r:=by
 obtain⟨n,hn⟩:=TVC_iff.1 h;exact⟨n,fun m hm=>zbW (zeL (by omega)) hm hn⟩
theorem zvb [Home] {a b:Code}{s:List AV×List AC}{c:Code} (hc:∀n,zaS L T call (zeb P L T call E (n+1)) (n+1) c s=(zaS L T call (zeb P L T call E (n+1)) n a s).bind fun r=>match r with
   | (.norm,s')=>zaS L T call (zeb P L T call E (n+1)) n b s'
   | r=>some r):TVC P L T call E c s=(TVC P L T call E a s).bind (zhD P L T call E b):=by
 refine zff fun r=>?_
 simp only[zzOb];constructor
 ·intro h
  obtain⟨n,hn⟩:=TVC_iff.1 h;have hn:=zbW (L:=L) (zeL (P:=P) (Nat.le_succ n)) (Nat.le_succ n) hn
  rw[hc] at hn;simp only[zzOb] at hn;obtain⟨⟨e,s1⟩,h1,h2⟩:=hn;refine⟨_,zh1 h1,?_⟩
  cases e with
  | norm=>exact zh1 h2
  | exit i=>exact h2
  | ret=>exact h2
 ·rintro⟨⟨e,s1⟩,h1,h2⟩
  obtain⟨n1,h1⟩:=zhK h1;cases e with
  | norm =>
   obtain⟨n2,h2⟩:=zhK (P:=P) (L:=L) (k:=b) h2;refine TVC_iff.2 ⟨max n1 n2+1,?_⟩
   rw[hc];simp only[zzOb];exact⟨_,h1 _ (Nat.le_max_left _ _),h2 _ (Nat.le_max_right _ _)⟩
  | exit i =>
   refine TVC_iff.2 ⟨n1+1,?_⟩
   rw[hc];simp only[zzOb];exact⟨_,h1 _ (Nat.le_refl _),h2⟩
  | ret =>
   refine TVC_iff.2 ⟨n1+1,?_⟩
   rw[hc];simp only[zzOb];exact⟨_,h1 _ (Nat.le_refl _),h2⟩
theorem zz8 [Home] (a b:Code) (s:List AV×List AC):TVC P L T call E (.seq a b) s=(TVC P L T call E a s).bind (zhD P L T call E b):=zvb fun _=>rfl
theorem zwN [Home] (b:Code) (s:List AV×List AC):TVC P L T call E (.loop b) s=(TVC P L T call E b s).bind (zhD P L T call E (.loop b)):=zvb fun _=>rfl
theorem zxn [Home] (x:Operand) (a b:Code) (s:List AV×List AC) :
  TVC P L T call E (.cond x a b) s=(zfk L {σ:=s.1,pe:=[]} x).bind fun t=>if t then TVC P L T call E a s else TVC P L T call E b s:=by
 refine zff fun r=>?_
 simp only[zzOb];constructor
 ·intro h
  obtain⟨n,hn⟩:=TVC_iff.1 h;have hn:=zbW (L:=L) (zeL (P:=P) (Nat.le_succ n)) (Nat.le_succ n) hn
  simp only[zaS,zzOb] at hn;obtain⟨t,h1,h2⟩:=hn;refine⟨t,h1,?_⟩
  cases t
  ·exact zh1 h2
  ·exact zh1 h2
 ·rintro⟨t,h1,h2⟩
  cases t
  ·obtain⟨n,h2⟩:=zhK (P:=P) (L:=L) (k:=b) h2
   refine TVC_iff.2 ⟨n+1,?_⟩
   simp only[zaS,zzOb];exact⟨false,h1,h2 _ (Nat.le_refl _)⟩
  ·obtain⟨n,h2⟩:=zhK (P:=P) (L:=L) (k:=a) h2
   refine TVC_iff.2 ⟨n+1,?_⟩
   simp only[zaS,zzOb];exact⟨true,h1,h2 _ (Nat.le_refl _)⟩
def znp (id:Nat):Xt×(List AV×List AC)→Xt×(List AV×List AC)
 | (.exit i,s)=>if i=id then(.norm,s) else(.exit i,s)
 | r=>r
theorem zvR [Home] (id:Nat) (b:Code) (s:List AV×List AC):TVC P L T call E (.block id b) s=(TVC P L T call E b s).map (znp id):=by
 refine zff fun r=>?_
 simp only[zzOm];constructor
 ·intro h
  obtain⟨n,hn⟩:=TVC_iff.1 h;have hn:=zbW (L:=L) (zeL (P:=P) (Nat.le_succ n)) (Nat.le_succ n) hn
  simp only[zaS,zzOm] at hn;obtain⟨t,h1,h2⟩:=hn;exact⟨t,zh1 h1,h2⟩
 ·rintro⟨t,h1,h2⟩
  obtain⟨n,h1⟩:=zhK h1;refine TVC_iff.2 ⟨n+1,?_⟩
  simp only[zaS,zzOm];exact⟨t,h1 _ (Nat.le_refl _),h2⟩
def zo7 (L:Lay) (fn:Func):Xt×(List AV×List AC)→Option (AV×List AC)
 | (.exit _,_)=>none
 | (_,s)=>(zeq L s.1 fn.results.toList).map fun vs=>(match vs with
   | [v]=>.v v
   | vs=>.tup vs,s.2)
theorem zCF {f:FuncId}{fn:Func}{c:Code} (hT:T f=true) (hE:E f=none) (hf:P.funcs[f]?=some fn) (hb:fn.body=some c) (q:List AC) (x:List SV) (hx:x.length+1≤fn.ntmps) :
  TV P L T call E f q x=(TVC P L T call E c (.und::(x.map .v++List.replicate (fn.ntmps-(x.length+1)) .und),q)).bind (zo7 L fn):=by
 refine zff fun r=>?_
 simp only[zzOb];constructor
 ·intro h
  obtain⟨n,hn⟩:=TV_iff.1 h;cases n with
  | zero=>simp[zeb] at hn
  | succ n =>
   simp only[zeb,hT,if_true,hE,hf,zle,hb,if_pos hx,zzOb] at hn;obtain⟨⟨e,s1⟩,h1,h2⟩:=hn;exact⟨_,TVC_iff.2 ⟨n,h1⟩,by cases e <;> exact h2⟩
 ·rintro⟨⟨e,s1⟩,h1,h2⟩
  obtain⟨n,hn⟩:=TVC_iff.1 h1;refine TV_iff.2 ⟨n+1,?_⟩
  simp only[zeb,hT,if_true,hE,hf,zle,hb,if_pos hx,zzOb];exact⟨_,hn,by cases e <;> exact h2⟩
end
end
end Go.Proofs.Ytcpcagdialnbeaa

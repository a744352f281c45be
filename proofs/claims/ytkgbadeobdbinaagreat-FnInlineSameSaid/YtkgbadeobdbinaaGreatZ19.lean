/- Generic texts and models for the proofs of this seat: part 19. -/
import Derived.Test.YtkgbadeobdbinaaGreatZ18
set_option linter.unusedVariables false
set_option linter.unusedSimpArgs false
namespace Go.Proofs.YtkgbadeobdbinaaGreat
section
open Go Go.RowKit
section
variable {P:Program}{L:Lay}{S:Sig}{T:Nat→Bool}{call:Orc}{ct:TOrc}{p p':Stb}{w w' w1:World}{a:Act}{s s':VS}{t t':TS}{o:Oper}{st st':Stt}{Own:Nat→Prop}{base b:Nat}{all:List Oper}{q:SPe}
variable {tr:List Rec}{s0 sm:VS}{t0 tm:Stt}{b0:Nat}{D:Nat→Prop}
def zAn (T:Nat→Bool) (tr:List Rec) (ts:Nat→TS) (b:Nat) (Own:Nat→Prop) (D:Nat→Prop) (p:Stb) (w:World) (m:Array Value):Prop :=
 (∀x,Vis tr D x→x∈(ts tr.length).tk→m.getD x undef=zbh b)∧(∀(i:Nat) (r:Rec),tr[i]?=some r→D i→∀k,zcZ r.o k=true→D k)∧∃k,k≤tr.length∧(∀(i:Nat) (r:Rec),tr[i]?=some r→zh5 T r.o=true→(D i↔i<k))∧TK p w Own b (ts k).q
theorem stepT (hL:LayOk P L) (hC:zbe P S call) (hT:zdh P S T ct) {oa:Array Oper}{ts:Nat→TS} (h:Tr L S call oa.toList tr s0 t0 b0 (ts tr.length).s tm) {ops:List Oper} (hops:tr.map (·.o)=ops) (hA:zqC ops) (hsub:∀(i:Nat) (o:Oper),ops[i]?=some o→oa.toList[i]?=some o)
  (hla:∀(i:Nat) (o:Oper) (t:Nat),ops[i]?=some o→t∈zbn oa.toList o→t∈zbn ops o) (hpe:s0.pe=[]) (h0:zcR t0 b0) (hlen:t0.len=s0.σ.length) (hnr:zfD (ts tr.length).s) (hord:∀(i j:Nat) (o o':Oper),i<j→ops[i]?=some o→ops[j]?=some o'→zh5 T o=true→zh5 T o'=true→zn0 8 ops o' i=true)
  (hts:∀(j:Nat) (r:Rec),tr[j]?=some r→r.s=(ts j).s∧r.s'=(ts (j+1)).s∧zdn (zaS L call) L T ct oa.toList r.o (ts j)=some (ts (j+1)))
  (hI:InvD L S tr s0 (ts tr.length).s t0 tm b0 D p w a.tmps Own) (hW:zAn T tr ts b Own D p w a.tmps) {j:Nat}{r:Rec} (hj:tr[j]?=some r) (hnot:¬D j) (hwait:∀i,zcZ r.o i=true→D i)
  {Q:Exit→Act→World→Prop}{K:Act→World→Prop} (hK:∀a' w' p',InvD L S tr s0 (ts tr.length).s t0 tm b0 (fun i=>D i∨i=j) p' w' a'.tmps Own→Evo (fun c=>Own c∨c=b) p w p' w'→a'.defers=a.defers→zAn T tr ts b Own (fun i=>D i∨i=j) p' w' a'.tmps→K a' w'):wpOp P oa Q j K a w:=by
 obtain⟨hW1,hcl,k,hk,hkD,hTK⟩:=hW;obtain⟨e1,e2,hv⟩:=hts j r hj;have hts':∀(j:Nat) (r:Rec),tr[j]?=some r→zdn (zaS L call) L T ct oa.toList r.o (ts j)=some (ts (j+1)):=fun j r hr=>(hts j r hr).2.2
 obtain⟨hok,hst⟩:=h.ok j r hj;have hjlt:j<tr.length:=(List.getElem?_eq_some_iff.1 hj).1
 have hoj:=zg6 hops hj
 have hat:atR tr (ts tr.length).s tm j=(r.s,r.st):=by unfold atR;rw[hj]
 have hclo:∀(k:Nat) (o:Oper),ops[k]?=some o→D k→∀i,zcZ o i=true→D i:=fun k o hk hD i hi=>by
  rw[←hops,List.getElem?_map] at hk;simp only[zzOm] at hk;obtain⟨x,hx,rfl⟩:=hk;exact hcl k x hx hD i hi
 have hdone:∀i,zn0 8 ops r.o i=true→D i:=fun i hi=>zud hclo 8 r.o i hi hwait
 have hlens:=h.len j (by omega)
 rw[hat] at hlens;simp only at hlens;have hlenm:=h.len tr.length (Nat.le_refl _)
 rw[zeg (Nat.le_refl _)] at hlenm;have hsz:a.tmps.size=r.s.σ.length:=by rw[hI.size,hlenm.1,hlens.1]
 obtain⟨E,hE,htk0,hdst,_,_,_⟩:=zdN (zbF hst hok.step);have hdlt:∀d,r.o.dst=some d→d<a.tmps.size:=fun d hd=>by
  unfold zse at hdst;rw[hd] at hdst;rw[hsz,hlens.1,←hlen,←hlens.2]
  simpa using hdst
 -- what the box holds ahead of it
 have hqj:zh5 T r.o=true→k≤j∧(ts j).q=(ts k).q:=fun hc=>by
  have hkj:k≤j:=by
   rcases Nat.lt_or_ge j k with hlt|hge
   ·exact absurd ((hkD j r hj hc).2 hlt) hnot
   ·exact hge
  refine⟨hkj,?_⟩
  have:=zuM hts' (j-k) k (by omega) (fun y ry h1 h2 hry=>by
   cases hcy:zh5 T ry.o with
   | false=>rfl
   | true =>
    have h3:=hdone y (hord y j ry.o r.o (by omega) (zg6 hops hry) hoj hcy hc)
    have:=(hkD y ry hry hcy).1 h3
    omega)
  rw[show k+(j-k)=j by omega] at this
  exact this
 obtain⟨k',hk',hnew,hkq⟩:∃k',k'≤tr.length∧(∀(i:Nat) (x:Rec),tr[i]?=some x→zh5 T x.o=true→((D i∨i=j)↔i<k'))∧((zh5 T r.o=true∧k'=j+1)∨(zh5 T r.o=false∧k'=k)):=by
  cases hc:zh5 T r.o with
  | true =>
   refine⟨j+1,by omega,fun i x hx hcx=>?_,.inl ⟨rfl,rfl⟩⟩
   constructor
   ·rintro(hD|rfl)
    ·have:=(hkD i x hx hcx).1 hD
     have:=(hqj hc).1
     omega
    ·omega
   ·intro hi
    rcases Nat.lt_or_ge i j with hlt|hge
    ·exact .inl (hdone i (hord i j x.o r.o hlt (zg6 hops hx) hoj hcx hc))
    ·exact .inr (by omega)
  | false =>
   refine⟨k,hk,fun i x hx hcx=>?_,.inr ⟨rfl,rfl⟩⟩
   have hne:i≠j:=fun e=>by subst e;rw[hj] at hx;cases hx;rw[hc] at hcx;cases hcx
   rw[←hkD i x hx hcx];simp[hne]
 -- names that it looks at
 have htok:∀i,Operand.tmp i∈r.o.op.operands.toList→i∈(ts j).tk→a.tmps.getD i undef=zbh b:=fun i hi him=>by
  have hin:i∈zbn ops r.o:=by
   unfold zbn;exact List.mem_append_left _ (List.mem_filterMap.2 ⟨_,hi,rfl⟩)
  have hlk:∀(y:Nat) (x:Rec),tr[y]?=some x→x.o.dst=some i→D y∧y<j:=fun y x hx hd=>by
   obtain⟨g1,g2⟩:=hA.looks y j x.o r.o i (zg6 hops hx) hoj hd hin;exact⟨hwait y g1,g2⟩
  refine hW1 i (fun y x hx hd=>(hlk y x hx hd).1) ?_
  have:=zpj hts' (x:=i) (tr.length-j) j (by omega) (fun y x g1 _ hx hd=>by have:=(hlk y x hx hd).2;omega)
  rw[show j+(tr.length-j)=tr.length by omega] at this
  exact this.2 him
 have hx:zlC oa.toList r (zgi (zaS L call) L T ct r.o (ts j)=some (ts (j+1))):=by
  unfold zlC;unfold zdn at hv;split at hv
  ·rename_i hg
   rw[hg];exact hv
  ·rename_i g hg
   rw[hg];simp only[zzOb] at hv;obtain⟨u,hu,hrun⟩:=hv;refine⟨u,by rw[e1];exact hu,?_⟩
   cases u with
   | true=>exact hrun
   | false =>
    simp only[Bool.false_eq_true,if_false,Option.some.injEq] at hrun ⊢;rw[e2,e1,←hrun]
 refine zt3 rfl h hops hA hpe h0 hlen hnr hI hj hnot hwait hsub hla hx (Own':=fun c=>Own c∨c=b) (R:=fun v p' w'=>TK p' w' Own b (ts k').q∧∀d,r.o.dst=some d→d∈(ts (j+1)).tk→v=zbh b) (fun g hg hgf=>?_) (fun _ h=>.inl h) (fun hs hsee htk=>?_) (fun hs hsee hsz hz hq g1 g2 htk hown=>?_) fun v w' p' g1 g2 ⟨g3,g4⟩=>?_
 ·have hv2:=hv
  unfold zdn at hv2;rw[hg] at hv2;simp only at hv2;rw[←e1,hgf] at hv2;simp only[Option.bind_some,Bool.false_eq_true,if_false,Option.some.injEq] at hv2;refine⟨?_,fun d hd hm=>?_⟩
  ·rcases hkq with ⟨hc,rfl⟩|⟨_,rfl⟩
   ·rw[←hv2]
    simp only;rw[(hqj hc).2];exact hTK
   ·exact hTK
  ·rw[←hv2] at hm
   exact absurd hd (zme hm).2
 ·have hv3:=hs
  unfold zgi at hv3;split at hv3
  ·rename_i hc
   obtain⟨f,xs,tys,hop,hTf⟩:=zhv hc;have:zb6 L S r.o=[]:=by simp[zb6,hop,(hT f hTf).1]
   rw[this];intro x hx;cases hx
  ·split at hv3
   ·rename_i hto
    obtain⟨i,hop,_,_⟩:=zhl hto;have:zb6 L S r.o=[]:=by rcases hop with hop|hop <;> simp[zb6,hop]
    rw[this];intro x hx;cases hx
   ·simp only[zzOm] at hv3
    obtain⟨s1,h1,_⟩:=hv3;rw[←e1] at h1;exact zsM (a:=a) h1 hsee htk
 ·have hv3:=hs
  unfold zgi at hv3;split at hv3
  ·rename_i hc
   simp only[zzOm] at hv3;obtain⟨rr,hcall,hr'⟩:=hv3;obtain⟨f,xs,tys,x,xs',ty0,tys',vs,i,hop,hxs,htys,hxi,him,hvs,hct⟩:=zmY hcall;obtain⟨f',xs2,ts2,hop',hTf⟩:=zhv hc;rw[hop] at hop';cases hop';have hopnd:∀y∈xs.toList,y∈r.o.op.operands.toList:=fun y hy=>by
    simp only[hop,Op.operands,Call.operands];simp
    exact .inr (by simpa using hy)
   rw[←e1] at hvs;have hreps:=zmB (p:=p) (w:=w) (a:=a) _ _ _ hvs (fun y hy=>hsee y (hopnd y (by rw[hxs];exact List.mem_cons_of_mem _ hy)))
   have hpx:a.eval x=zbh b:=by
    rw[hxi];exact htok i (hopnd _ (by rw[hxs,hxi];exact List.mem_cons_self)) him
   have hTKj:TK p w Own b (ts j).q:=by rw[(hqj hc).2];exact hTK
   refine(zrH (L:=L) (q:=r.st.spe) (s:=r.s) hT hop hTf hxs hpx hreps hct hTKj hz hsz).mono ?_
   rintro v w' ⟨p',w1,hp,he1,hs1,hT'⟩
   have hs':r.s.put r.o.dst rr.1=r.s':=by rw[e2,←hr',e1]
   rw[hs'] at hp;refine⟨p',w1,hp,hI.off he1 hs1 hTK.not hnr,he1.weaken (fun _ _ h=>.inr h),?_,fun d hd hm=>?_⟩
   ·rcases hkq with ⟨_,rfl⟩|⟨hc',_⟩
    ·rw[←hr'];exact hT'
    ·rw[hc] at hc';cases hc'
   ·rw[←hr'] at hm
    exact absurd hd (zme hm).2
  ·rename_i hnc
   have hc:zh5 T r.o=false:=by simpa using hnc
   have hkk:k'=k:=by
    rcases hkq with ⟨hc',_⟩|⟨_,e⟩
    ·rw[hc] at hc';cases hc'
    ·exact e
   split at hv3
   ·rename_i hto
    split at hv3
    case h_2=>cases hv3
    rename_i d hd;simp only[Option.some.injEq] at hv3;obtain⟨i,hop,him,hti⟩:=zhl hto;have hpi:=htok i (by rcases hop with hop|hop <;> simp[hop,Op.operands]) him
    refine(zxa (S:=S) (q:=r.st.spe) (s:=r.s) hop hti hpi hz hsz hd).mono ?_
    rintro v w' ⟨hvb,rfl,hp⟩
    have hs':r.s.put (some d) .und=r.s':=by rw[e2,←hv3,e1]
    rw[hs'] at hp;exact⟨p,w',hp,hI,.refl _ _ _,by rw[hkk];exact hTK,fun _ _ _=>hvb⟩
   ·simp only[zzOm] at hv3
    obtain⟨s1,h1,hr'⟩:=hv3;rw[←e1] at h1;have hs':s1=r.s':=by rw[e2,←hr']
    rw[hs'] at h1;refine(zBk hL hC h1 hst hsee hsz hz hq g1 g2 htk).mono ?_
    rintro v w' ⟨p',hp⟩
    refine⟨p',w,hp,hI,.refl _ _ _,?_,fun d hd hm=>?_⟩
    ·rw[hkk]
     exact hTK.evo (hp.evo.weaken fun c _ hc=>hown c hc)
    ·rw[←hr'] at hm
     exact absurd hd (zme hm).2
 ·refine hK _ w' p' g1 g2 (by cases r.o.dst <;> rfl) ⟨fun x hvx hxm=>?_,fun i x hxx hD m hm=>?_,k',hk',hnew,g3⟩
  rotate_left
  ·rcases hD with hD|rfl
   ·exact .inl (hcl i x hxx hD m hm)
   ·rw[hj] at hxx;cases hxx;exact .inl (hwait m hm)
  by_cases hd:r.o.dst=some x
  ·have hin:x∈(ts (j+1)).tk:=by
    have:=zpj hts' (x:=x) (tr.length-(j+1)) (j+1) (by omega) (fun y ry h1 _ hry hdy=>by
     have:=hA.once y j ry.o r.o x (zg6 hops hry) hoj hdy hd
     omega)
    rw[show j+1+(tr.length-(j+1))=tr.length by omega] at this
    exact this.1 hxm
   rw[hd,zg7 (hdlt x hd)];exact g4 x hd hin
  ·rw[zaV hd]
   refine hW1 x (fun y ry hry hdy=>?_) hxm
   rcases hvx y ry hry hdy with hD|rfl
   ·exact hD
   ·rw[hj] at hry;cases hry;exact absurd hdy hd
theorem zoo {bop:Oper→VS→Option VS}:∀(xs ys:List Oper) (t:TS),zdC bop L T ct all (xs++ys) t=(zdC bop L T ct all xs t).bind (zdC bop L T ct all ys)
 | [],ys,t=>rfl
 | x::xs,ys,t=>by
  simp only[List.cons_append,zdC,Option.bind_assoc]
  congr 1
  funext t1
  exact zoo xs ys t1
def zbH (T:Nat→Bool):zlZ:=fun L S ops st=>if zyb T (zld ops.toList) then zrK L S ops st else none
theorem zyV (hP:P.follows .mixedOrders=true) (hL:LayOk P L) (hC:zbe P S call) (hT:zdh P S T ct) (id:Nat) (oa:Array Oper) (σ:List AV) (q:List AC) (Q:Exit→Act→World→Prop) (hdr:zbH T L S oa st=some st') (hv:zdC (zaS L call) L T ct oa.toList oa.toList ⟨{σ:=σ,pe:=[]},[0],q⟩=some t')
  (hna:∀t k r,VS.get {σ:=σ,pe:=[]} t≠.arr k r) (hnl:∀t d,VS.get {σ:=σ,pe:=[]} t=.al d→d=zbV) (hI:Inv st p w a.tmps {σ:=σ,pe:=[]} Own) (h00:a.tmps.getD 0 undef=zbh b) (hTK:TK p w Own b q)
  (hQ:∀a' w' p',Inv st' p' w' a'.tmps {σ:=t'.s.σ,pe:=[]} Own→zop b a'.tmps t'.tk→TK p' w' Own b t'.q→Evo (fun c=>Own c∨c=b) p w p' w'→a'.defers=a.defers→Q .normal a' w'):(Code.region id oa true).wp P Q a w:=by
 unfold zbH at hdr;split at hdr
 case isFalse=>cases hdr
 rename_i hto;unfold zrK at hdr;split at hdr
 case isFalse=>cases hdr
 rename_i hc;simp only[Bool.and_eq_true,List.isEmpty_iff] at hc;obtain⟨⟨hspe,hnb⟩,hc⟩:=hc;simp only[zzOm] at hdr;obtain⟨⟨bm,stz⟩,hsteps,rfl⟩:=hdr;unfold zuW at hc;simp only[Bool.and_eq_true] at hc;obtain⟨⟨⟨hany,hedge⟩,hguard⟩,htl⟩:=hc;have hA:=zpM hany
 have hedge':∀(i:Nat) (o:Oper),oa[i]?=some o→∀e∈o.after,Region.binds .any e=true→e.on<i:=by
  intro i o ho e he hb;have h1:=List.all_eq_true.1 hedge _ (zdm (l:=oa.toList) (i:=i) (x:=o) (by simpa using ho))
  have h2:=List.all_eq_true.1 h1 e (by simpa using he)
  simp only[hb,Bool.not_true,Bool.false_or,decide_eq_true_eq] at h2;exact h2
 generalize hcore:zld oa.toList=core at hany hguard htl hA hto
 have hns:∀o∈core,zaD o=false:=fun o ho=>by
  obtain⟨i,hi,he⟩:=List.mem_iff_getElem.1 ho;exact(hA.store i o (by rw[List.getElem?_eq_getElem hi,he])).1
 -- the last one
 have hsplit:core=oa.toList∨∃o,oa.toList=core++[o]∧∀i,i<core.length→zcZ o i=true:=by
  unfold zld at hcore;split at hcore
  ·exact .inl hcore.symm
  ·rcases List.eq_nil_or_concat oa.toList with h|⟨l,o,h⟩
   ·left;rw[←hcore,h];rfl
   ·right
    have hl:core=l:=by rw[←hcore,h];simp
    refine⟨o,by rw[hl];simpa using h,?_⟩
    rw[h] at htl;simp only[Bool.or_eq_true,beq_iff_eq] at htl;rcases htl with htl|htl
    ·rw[hl] at htl;simp at htl
    ·simp at htl
     intro i hi;exact htl i hi
 have hsub:∀(i:Nat) (o:Oper),core[i]?=some o→oa.toList[i]?=some o:=fun i o hi=>by
  rcases hsplit with h|⟨x,h,_⟩
  ·rw[←h];exact hi
  ·rw[h,List.getElem?_append_left (List.getElem?_eq_some_iff.1 hi).1];exact hi
 have hla:∀(i:Nat) (o:Oper) (t:Nat),core[i]?=some o→t∈zbn oa.toList o→t∈zbn core o:=fun i o t hi ht=>by
  unfold zbn at ht ⊢;rcases List.mem_append.1 ht with ht|ht
  ·exact List.mem_append_left _ ht
  ·refine List.mem_append_right _ ?_
   cases hg:o.guard with
   | none=>rw[hg] at ht;exact ht
   | some g =>
    rw[hg] at ht;simp only at ht ⊢;have h1:=List.all_eq_true.1 hguard o (List.mem_of_getElem? hi)
    rw[hg] at h1;simp only[decide_eq_true_eq] at h1;rw[hsub g.1 core[g.1] (List.getElem?_eq_getElem h1)] at ht;rw[List.getElem?_eq_getElem h1];exact ht
 have hsz:oa.toList.length=oa.size:=by simp
 refine wp_region_any hP ?_
 have hI':=hI.drew
 have hcnt:(Array.replicate oa.size false).toList.count false=oa.size:=by simp
 have hord:=zyZ hto
 obtain⟨sc,stc,bc,hvc,hsc,htail⟩:∃sc stc bc,zdC (zaS L call) L T ct oa.toList core ⟨{σ:=σ,pe:=[]},[0],q⟩=some sc∧zcF L S (zki st) core st=some (bc,stc) ∧
   ((core.length=oa.size∧sc=t'∧stc=stz)∨(core.length+1=oa.size∧∃o,oa[core.length]?=some o∧(∀i,i<core.length→zcZ o i=true)∧zdn (zaS L call) L T ct oa.toList o sc=some t'∧zdk L S bc o stc=some stz)):=by
  rcases hsplit with h|⟨o,h,hw⟩
  ·exact⟨t',stz,bm,by rw[h];exact hv,by rw[h];exact hsteps,.inl ⟨by rw[h,hsz],rfl,rfl⟩⟩
  ·have hv':zdC (zaS L call) L T ct oa.toList (core++[o]) ⟨{σ:=σ,pe:=[]},[0],q⟩=some t':=by rw[←h];exact hv
   have hs':zcF L S (zki st) (core++[o]) st=some (bm,stz):=by rw[←h];exact hsteps
   rw[zoo] at hv';rw[zj1] at hs';simp only[zzOb] at hv' hs';obtain⟨sc,hvc,hv'⟩:=hv';obtain⟨⟨bc,stc⟩,hsc,hs'⟩:=hs';simp only[zdC,zzOb] at hv';obtain⟨s2,hv2,hv'⟩:=hv';cases hv';simp only[zcF,zzOb] at hs';obtain⟨st2,hs2,hs'⟩:=hs';cases hs';refine⟨sc,stc,bc,hvc,hsc,.inr ⟨?_,o,?_,hw,hv2,hs2⟩⟩
   ·rw[←hsz,h];simp
   ·have:oa.toList[core.length]?=some o:=by rw[h];simp
    simpa using this
 have hval:∀f args r,call f args=some r→zkS r=true:=fun f args r h=>(hC f args r h).1.1
 obtain⟨tr,ts,k1,k2,k3,k4,k5,k6,k7,k8,k9,k10,k11,k12,k13,k14⟩:=zBQ hT hval core (zki st) bc ⟨{σ:=σ,pe:=[]},[0],q⟩ sc st stc hns hvc hsc (zem st) trivial hI.sonce hI.spe ⟨fun _ _ _ _ _ h=>(by cases h),hna,hnl⟩
 rw[←k13] at k5 k6 k7 k9 k11 htail;have hTr:Tr L S call oa.toList tr {σ:=σ,pe:=[]} st (zki st) (ts tr.length).s stc:=zCI k2 (fun r hr=>hns r.o (by rw[←k1];exact List.mem_map_of_mem hr)) k3 k4 k5 k6
 have hnone:∀j,¬((Array.replicate oa.size false).getD j false=true):=fun j hj=>by
  rw[Array.getD_eq_getD_getElem?,Array.getElem?_replicate] at hj;split at hj <;> cases hj
 have hstart:=InvD.start (D:=fun i=>(Array.replicate oa.size false).getD i false=true) hTr (zem st) rfl hI' hnone
 have hts':∀(j:Nat) (r:Rec),tr[j]?=some r→zdn (zaS L call) L T ct oa.toList r.o (ts j)=some (ts (j+1)):=fun j r hr=>(k14 j r hr).2.2
 have hlenr:∀(j:Nat),j<tr.length→∃r,tr[j]?=some r:=fun j hj=>⟨tr[j],List.getElem?_eq_getElem hj⟩
 have hW0:zAn T tr ts b Own (fun i=>(Array.replicate oa.size false).getD i false=true) p w.drew a.tmps:=by
  refine⟨fun x hvx hxm=>?_,fun i r _ hD=>absurd hD (hnone i),0,by omega,fun i r _ _=>⟨fun hD=>absurd hD (hnone i),fun h=>by omega⟩,?_⟩
  ·have:=zpj hts' (x:=x) tr.length 0 (by omega) (fun y r _ _ hr hd=>hnone y (hvx y r hr hd))
   rw[Nat.zero_add,k12] at this;have:=this.1 hxm
   simp only[List.mem_singleton] at this;rw[this];exact h00
  ·rw[k12]
   exact hTK.evo (zgl Own)
 have hfin:∀D p w m,(∀(j:Nat) (r:Rec),tr[j]?=some r→D j)→zAn T tr ts b Own D p w m→zop b m (ts tr.length).tk∧TK p w Own b (ts tr.length).q:=by
  rintro D p w m hD ⟨g1,_,k,hk,hkD,hTK⟩
  refine⟨fun x hx=>g1 x (fun j r hr _=>hD j r hr) hx,?_⟩
  have:=zuM hts' (tr.length-k) k (by omega) (fun y r h1 h2 hr=>by
   cases hc:zh5 T r.o with
   | false=>rfl
   | true =>
    have:=(hkD y r hr hc).1 (hD y r hr)
    omega)
  rw[show k+(tr.length-k)=tr.length by omega] at this
  rw[this];exact hTK
 refine zyT hTr k1 hsub (zem st) hI.len k7 k8 k9 k11 (zlO hnb hsc) hedge' (sz:=t'.s) (stz:=stz) (Own':=fun c=>Own c∨c=b) (W:=zAn T tr ts b Own) (WZ:=fun p w m=>zop b m t'.tk∧TK p w Own b t'.q)
  (fun D p w a j r hj hnot hwait hI hW Q K hK=>stepT hL hC hT hTr k1 hA hsub hla rfl (zem st) hI'.len k11 hord k14 hI hW hj hnot hwait hK) ?_ oa.size _ p _ a (by simp) hcnt (fun _=>by
  rw[Array.getD_eq_getD_getElem?,Array.getElem?_replicate];split <;> rfl) hstart hW0 fun a' w' p' g1 g2 g3 g4=>?_
 ·rcases htail with ⟨hn,e1,e2⟩|⟨hn,o,ho,hw,hv2,hst2⟩
  ·exact .inl ⟨hn,by rw[e1],e2,fun D p w m hD hW=>by rw[←e1];exact hfin D p w m hD hW⟩
  ·refine .inr ⟨hn,o,ho,hw,fun D p w a hD hI hW Q K hK=>?_⟩
   obtain⟨f1,f2⟩:=hfin D p w a.tmps hD hW;exact zzg hL hC hT ho hI k10 f1 f2 hv2 hst2 fun a' w' p' g1 g2 g3 g4 g5=>hK a' w' p' g1 g4 g5 ⟨g2,g3⟩
 ·exact hQ a' w' p' g1.reset g4.1 g4.2 (((zgl Own).weaken (fun _ _ h=>.inl h)).trans g2 (fun _ _ h=>h) (fun _ _ h=>h)) g3
end
end
section
open Go Go.RowKit
section
variable {P:Program}{L:Lay}{T:Nat→Bool}{call:Orc}{E:zoy}{all:List Oper}{bop:Oper→VS→Option VS}
theorem zBa {c c':TOrc} (h:TOrc.le c c') {o:Oper}{t:TS}{r:AV×List AC} (hs:znM L c o t=some r):znM L c' o t=some r:=by
 unfold znM at hs ⊢;split at hs
 ·split at hs
  ·split at hs
   ·rename_i hx
    rw[if_pos hx];simp only[zzOb] at hs ⊢;obtain⟨vs,h1,h2⟩:=hs;exact⟨vs,h1,h _ _ _ _ h2⟩
   ·cases hs
  ·cases hs
 ·cases hs
theorem zyr {c c':TOrc} (h:TOrc.le c c') {o:Oper}{t t':TS} (hs:zgi bop L T c o t=some t'):zgi bop L T c' o t=some t':=by
 unfold zgi at hs ⊢;split at hs
 ·rename_i hc
  rw[if_pos hc];simp only[zzOm] at hs ⊢;obtain⟨r,h1,h2⟩:=hs;exact⟨r,zBa h h1,h2⟩
 ·rename_i hc
  rw[if_neg hc];exact hs
theorem zwe {c c':TOrc} (h:TOrc.le c c') {o:Oper}{t t':TS} (hs:zdn bop L T c all o t=some t'):zdn bop L T c' all o t=some t':=by
 unfold zdn at hs ⊢;split at hs
 ·exact zyr h hs
 ·simp only[zzOb] at hs ⊢
  obtain⟨u,hu,hs⟩:=hs;refine⟨u,hu,?_⟩
  cases u
  ·exact hs
  ·exact zyr h hs
theorem zpa {c c':TOrc} (h:TOrc.le c c'):∀{ops:List Oper}{t t':TS},zdC bop L T c all ops t=some t'→zdC bop L T c' all ops t=some t'
 | [],_,_,hs=>hs
 | o::rest,t,t',hs=>by
  simp only[zdC,zzOb] at hs ⊢;obtain⟨t1,h1,h2⟩:=hs;exact⟨t1,zwe h h1,zpa h h2⟩
theorem zr5 {c c':TOrc} (h:TOrc.le c c') {ops:List Oper}{d:Bool}{x y:List AV×List AC} (hs:znb L T call c ops d x=some y):znb L T call c' ops d x=some y:=by
 unfold znb at hs ⊢;simp only[zzOb] at hs ⊢;obtain⟨t,h1,h2⟩:=hs;refine⟨t,?_,h2⟩
 cases d
 ·exact zpa h h1
 ·exact zpa h h1
theorem zcc {c c':TOrc} (h:TOrc.le c c'):∀{n m:Nat}{k:Code}{s:List AV×List AC}{r:Xt×(List AV×List AC)},n≤m→za2 L T call c n k s=some r→za2 L T call c' m k s=some r
 | 0,_,_,_,_,_,hs=>by simp[za2] at hs
 | n+1,0,_,_,_,hm,_=>by omega
 | n+1,m+1,k,s,r,hm,hs=>by
  have hm':n≤m:=by omega
  cases k <;> simp only[za2] at hs ⊢ <;> try exact hs
  case region id ops d =>
   simp only[zzOm] at hs ⊢;obtain⟨s1,h1,h2⟩:=hs;exact⟨s1,zr5 h h1,h2⟩
  case seq a b =>
   simp only[zzOb] at hs ⊢;obtain⟨⟨e,s1⟩,h1,h2⟩:=hs;refine⟨_,zcc h hm' h1,?_⟩
   cases e with
   | norm=>exact zcc h hm' h2
   | exit i=>exact h2
   | ret=>exact h2
  case cond x a b =>
   simp only[zzOb] at hs ⊢;obtain⟨t,h1,h2⟩:=hs;refine⟨t,h1,?_⟩
   cases t
   ·exact zcc h hm' h2
   ·exact zcc h hm' h2
  case block id b =>
   simp only[zzOm] at hs ⊢;obtain⟨r1,h1,h2⟩:=hs;exact⟨r1,zcc h hm' h1,h2⟩
  case loop b =>
   simp only[zzOb] at hs ⊢;obtain⟨⟨e,s1⟩,h1,h2⟩:=hs;refine⟨_,zcc h hm' h1,?_⟩
   cases e with
   | norm=>exact zcc h hm' h2
   | exit i=>exact h2
   | ret=>exact h2
theorem zAz {c c':TOrc} (h:TOrc.le c c') {n m:Nat}{fn:Func}{q:List AC}{args:List SV}{r:AV×List AC} (hm:n≤m) (hs:znH L T call c n fn q args=some r):znH L T call c' m fn q args=some r:=by
 unfold znH at hs ⊢;split at hs
 ·exact hs
 ·rename_i k hk
  split at hs
  ·rename_i hlen
   rw[if_pos hlen];simp only[zzOb] at hs ⊢;obtain⟨r1,h1,h2⟩:=hs;exact⟨r1,zcc h hm h1,h2⟩
  ·cases hs
theorem zfM:∀{n m:Nat},n≤m→TOrc.le (ze4 P L T call E n) (ze4 P L T call E m)
 | 0,_,_=>fun _ _ _ _ h=>by simp[ze4] at h
 | n+1,0,hm=>by omega
 | n+1,m+1,hm=>fun f q x r h=>by
  have hm':n≤m:=by omega
  simp only[ze4] at h ⊢;split at h
  ·rename_i hF
   rw[if_pos hF];split at h
   ·rename_i e he
    exact e.mono _ _ (zfM hm') _ _ _ h
   ·split at h
    ·exact zAz (zfM hm') hm' h
    ·exact h
  ·cases h
noncomputable def TV (P:Program) (L:Lay) (T:Nat→Bool) (call:Orc) (E:zoy):TOrc:=fun f q x=>lim fun n=>ze4 P L T call E n f q x
noncomputable def TVC (P:Program) (L:Lay) (T:Nat→Bool) (call:Orc) (E:zoy) (k:Code) (s:List AV×List AC):Option (Xt×(List AV×List AC)):=lim fun n=>za2 L T call (ze4 P L T call E n) n k s
theorem zEY (f:FuncId) (q:List AC) (x:List SV):zCC fun n=>ze4 P L T call E n f q x:=fun _ _ _ h hs=>zfM h _ _ _ _ hs
theorem zAw (k:Code) (s:List AV×List AC):zCC fun n=>za2 L T call (ze4 P L T call E n) n k s:=fun _ _ _ h hs=>zcc (zfM h) h hs
theorem TV_iff {f:FuncId}{q:List AC}{x:List SV}{r:AV×List AC}:TV P L T call E f q x=some r↔∃n,ze4 P L T call E n f q x=some r:=zrs (zEY f q x)
theorem TVC_iff {k:Code}{s:List AV×List AC}{r:Xt×(List AV×List AC)}:TVC P L T call E k s=some r↔∃n,za2 L T call (ze4 P L T call E n) n k s=some r:=zrs (zAw k s)
theorem zGV (n:Nat):TOrc.le (ze4 P L T call E n) (TV P L T call E):=fun _ _ _ _ h=>TV_iff.2 ⟨n,h⟩
theorem zD5 (f:FuncId) (q:List AC) (x:List SV) (r:AV×List AC) (h:TV P L T call E f q x=some r):∃n,ze4 P L T call E n f q x=some r:=TV_iff.1 h
theorem zyh {o:Oper}{t:TS}{r:AV×List AC} (hs:znM L (TV P L T call E) o t=some r):∃n,znM L (ze4 P L T call E n) o t=some r:=by
 unfold znM at hs ⊢;split at hs
 ·split at hs
  ·split at hs
   ·rename_i hx
    simp only[if_pos hx];simp only[zzOb] at hs ⊢;obtain⟨vs,h1,h2⟩:=hs;obtain⟨n,hn⟩:=TV_iff.1 h2;exact⟨n,vs,h1,hn⟩
   ·cases hs
  ·cases hs
 ·cases hs
theorem zt8 {o:Oper}{t t':TS} (hs:zgi bop L T (TV P L T call E) o t=some t'):∃n,zgi bop L T (ze4 P L T call E n) o t=some t':=by
 unfold zgi at hs ⊢;split at hs
 ·rename_i hc
  simp only[if_pos hc];simp only[zzOm] at hs ⊢;obtain⟨r,h1,h2⟩:=hs;obtain⟨n,hn⟩:=zyh h1;exact⟨n,r,hn,h2⟩
 ·rename_i hc
  simp only[if_neg hc];exact⟨0,hs⟩
theorem zxH {o:Oper}{t t':TS} (hs:zdn bop L T (TV P L T call E) all o t=some t'):∃n,zdn bop L T (ze4 P L T call E n) all o t=some t':=by
 unfold zdn at hs ⊢;split at hs
 ·exact zt8 hs
 ·simp only[zzOb] at hs ⊢
  obtain⟨u,hu,hs⟩:=hs;cases u
  ·exact⟨0,false,hu,hs⟩
  ·obtain⟨n,hn⟩:=zt8 hs
   exact⟨n,true,hu,hn⟩
theorem zog:∀{ops:List Oper}{t t':TS},zdC bop L T (TV P L T call E) all ops t=some t'→∃n,zdC bop L T (ze4 P L T call E n) all ops t=some t'
 | [],_,_,hs=>⟨0,hs⟩
 | o::rest,t,t',hs=>by
  simp only[zdC,zzOb] at hs ⊢;obtain⟨t1,h1,h2⟩:=hs;obtain⟨n1,h1⟩:=zxH h1;obtain⟨n2,h2⟩:=zog h2;exact⟨max n1 n2,t1,zwe (zfM (Nat.le_max_left _ _)) h1,zpa (zfM (Nat.le_max_right _ _)) h2⟩
theorem zye {ops:List Oper}{d:Bool}{x y:List AV×List AC} (hs:znb L T call (TV P L T call E) ops d x=some y):∃n,znb L T call (ze4 P L T call E n) ops d x=some y:=by
 unfold znb at hs ⊢;simp only[zzOb] at hs ⊢;obtain⟨t,h1,h2⟩:=hs;cases d
 ·obtain⟨n,hn⟩:=zog h1
  exact⟨n,t,hn,h2⟩
 ·obtain⟨n,hn⟩:=zog h1
  exact⟨n,t,hn,h2⟩
theorem zGT {f:FuncId}{e:zDd} (hT:T f=true) (he:E f=some e) {q:List AC}{x:List SV}{r:AV×List AC} (h:e.run (TV P L T call E) q x=some r):TV P L T call E f q x=some r:=by
 obtain⟨n,hn⟩:=e.cont _ (ze4 P L T call E) (fun _ _ h=>zfM h) zD5 _ _ _ h
 refine TV_iff.2 ⟨n+1,?_⟩
 simp only[ze4,hT,if_true,he];exact hn
theorem zA6 (s:List AV×List AC):TVC P L T call E .skip s=some (.norm,s):=TVC_iff.2 ⟨1,rfl⟩
theorem zAt (id:Nat) (s:List AV×List AC):TVC P L T call E (.exit id) s=some (.exit id,s):=TVC_iff.2 ⟨1,rfl⟩
theorem zCY (s:List AV×List AC):TVC P L T call E .ret s=some (.ret,s):=TVC_iff.2 ⟨1,rfl⟩
theorem zxX (id:Nat) (ops:Array Oper) (d:Bool) (s:List AV×List AC) :
  TVC P L T call E (.region id ops d) s=(znb L T call (TV P L T call E) ops.toList d s).map fun s=>(.norm,s):=by
 refine zg3 fun r=>?_
 rw[TVC_iff];constructor
 ·rintro⟨n,hn⟩
  cases n with
  | zero=>simp[za2] at hn
  | succ n =>
   simp only[za2,zzOm] at hn ⊢;obtain⟨s1,h1,h2⟩:=hn;exact⟨s1,zr5 (zGV _) h1,h2⟩
 ·intro h
  simp only[zzOm] at h;obtain⟨s1,h1,h2⟩:=h;obtain⟨n,hn⟩:=zye h1;refine⟨n+1,?_⟩
  simp only[za2,zzOm];exact⟨s1,zr5 (zfM (Nat.le_succ n)) hn,h2⟩
noncomputable def zka (P:Program) (L:Lay) (T:Nat→Bool) (call:Orc) (E:zoy) (k:Code):Xt×(List AV×List AC)→Option (Xt×(List AV×List AC))
 | (.norm,s)=>TVC P L T call E k s
 | r=>some r
theorem zkd {n:Nat}{k:Code}{s:List AV×List AC}{r:Xt×(List AV×List AC)} (h:za2 L T call (ze4 P L T call E (n+1)) n k s=some r):TVC P L T call E k s=some r :=
 TVC_iff.2 ⟨n+1,zcc (fun _ _ _ _ h=>h) (Nat.le_succ n) h⟩
theorem zkb {k:Code}{s:List AV×List AC}{r:Xt×(List AV×List AC)} (h:TVC P L T call E k s=some r):∃n,∀m,n≤m→za2 L T call (ze4 P L T call E (m+1)) m k s=some r:=by
 obtain⟨n,hn⟩:=TVC_iff.1 h;exact⟨n,fun m hm=>zcc (zfM (by omega)) hm hn⟩
theorem zyD {a b:Code}{s:List AV×List AC}{c:Code} (hc:∀n,za2 L T call (ze4 P L T call E (n+1)) (n+1) c s=(za2 L T call (ze4 P L T call E (n+1)) n a s).bind fun r=>match r with
   | (.norm,s')=>za2 L T call (ze4 P L T call E (n+1)) n b s'
   | r=>some r):TVC P L T call E c s=(TVC P L T call E a s).bind (zka P L T call E b):=by
 refine zg3 fun r=>?_
 simp only[zzOb];constructor
 ·intro h
  obtain⟨n,hn⟩:=TVC_iff.1 h;have hn:=zcc (L:=L) (zfM (P:=P) (Nat.le_succ n)) (Nat.le_succ n) hn
  rw[hc] at hn;simp only[zzOb] at hn;obtain⟨⟨e,s1⟩,h1,h2⟩:=hn;refine⟨_,zkd h1,?_⟩
  cases e with
  | norm=>exact zkd h2
  | exit i=>exact h2
  | ret=>exact h2
 ·rintro⟨⟨e,s1⟩,h1,h2⟩
  obtain⟨n1,h1⟩:=zkb h1;cases e with
  | norm =>
   obtain⟨n2,h2⟩:=zkb (P:=P) (L:=L) (k:=b) h2;refine TVC_iff.2 ⟨max n1 n2+1,?_⟩
   rw[hc];simp only[zzOb];exact⟨_,h1 _ (Nat.le_max_left _ _),h2 _ (Nat.le_max_right _ _)⟩
  | exit i =>
   refine TVC_iff.2 ⟨n1+1,?_⟩
   rw[hc];simp only[zzOb];exact⟨_,h1 _ (Nat.le_refl _),h2⟩
  | ret =>
   refine TVC_iff.2 ⟨n1+1,?_⟩
   rw[hc];simp only[zzOb];exact⟨_,h1 _ (Nat.le_refl _),h2⟩
theorem zEN (a b:Code) (s:List AV×List AC):TVC P L T call E (.seq a b) s=(TVC P L T call E a s).bind (zka P L T call E b):=zyD fun _=>rfl
theorem zCc (b:Code) (s:List AV×List AC):TVC P L T call E (.loop b) s=(TVC P L T call E b s).bind (zka P L T call E (.loop b)):=zyD fun _=>rfl
theorem zCv (x:Operand) (a b:Code) (s:List AV×List AC) :
  TVC P L T call E (.cond x a b) s=(zg9 L {σ:=s.1,pe:=[]} x).bind fun t=>if t then TVC P L T call E a s else TVC P L T call E b s:=by
 refine zg3 fun r=>?_
 simp only[zzOb];constructor
 ·intro h
  obtain⟨n,hn⟩:=TVC_iff.1 h;have hn:=zcc (L:=L) (zfM (P:=P) (Nat.le_succ n)) (Nat.le_succ n) hn
  simp only[za2,zzOb] at hn;obtain⟨t,h1,h2⟩:=hn;refine⟨t,h1,?_⟩
  cases t
  ·exact zkd h2
  ·exact zkd h2
 ·rintro⟨t,h1,h2⟩
  cases t
  ·obtain⟨n,h2⟩:=zkb (P:=P) (L:=L) (k:=b) h2
   refine TVC_iff.2 ⟨n+1,?_⟩
   simp only[za2,zzOb];exact⟨false,h1,h2 _ (Nat.le_refl _)⟩
  ·obtain⟨n,h2⟩:=zkb (P:=P) (L:=L) (k:=a) h2
   refine TVC_iff.2 ⟨n+1,?_⟩
   simp only[za2,zzOb];exact⟨true,h1,h2 _ (Nat.le_refl _)⟩
def zpw (id:Nat):Xt×(List AV×List AC)→Xt×(List AV×List AC)
 | (.exit i,s)=>if i=id then(.norm,s) else(.exit i,s)
 | r=>r
theorem zzJ (id:Nat) (b:Code) (s:List AV×List AC):TVC P L T call E (.block id b) s=(TVC P L T call E b s).map (zpw id):=by
 refine zg3 fun r=>?_
 simp only[zzOm];constructor
 ·intro h
  obtain⟨n,hn⟩:=TVC_iff.1 h;have hn:=zcc (L:=L) (zfM (P:=P) (Nat.le_succ n)) (Nat.le_succ n) hn
  simp only[za2,zzOm] at hn;obtain⟨t,h1,h2⟩:=hn;exact⟨t,zkd h1,h2⟩
 ·rintro⟨t,h1,h2⟩
  obtain⟨n,h1⟩:=zkb h1;refine TVC_iff.2 ⟨n+1,?_⟩
  simp only[za2,zzOm];exact⟨t,h1 _ (Nat.le_refl _),h2⟩
def zsi (L:Lay) (fn:Func):Xt×(List AV×List AC)→Option (AV×List AC)
 | (.exit _,_)=>none
 | (_,s)=>(zfi L s.1 fn.results.toList).map fun vs=>(match vs with
   | [v]=>.v v
   | vs=>.tup vs,s.2)
theorem zHA {f:FuncId}{fn:Func}{c:Code} (hT:T f=true) (hE:E f=none) (hf:P.funcs[f]?=some fn) (hb:fn.body=some c) (q:List AC) (x:List SV) (hx:x.length+1≤fn.ntmps) :
  TV P L T call E f q x=(TVC P L T call E c (.und::(x.map .v++List.replicate (fn.ntmps-(x.length+1)) .und),q)).bind (zsi L fn):=by
 refine zg3 fun r=>?_
 simp only[zzOb];constructor
 ·intro h
  obtain⟨n,hn⟩:=TV_iff.1 h;cases n with
  | zero=>simp[ze4] at hn
  | succ n =>
   simp only[ze4,hT,if_true,hE,hf,znH,hb,if_pos hx,zzOb] at hn;obtain⟨⟨e,s1⟩,h1,h2⟩:=hn;exact⟨_,TVC_iff.2 ⟨n,h1⟩,by cases e <;> exact h2⟩
 ·rintro⟨⟨e,s1⟩,h1,h2⟩
  obtain⟨n,hn⟩:=TVC_iff.1 h1;refine TV_iff.2 ⟨n+1,?_⟩
  simp only[ze4,hT,if_true,hE,hf,znH,hb,if_pos hx,zzOb];exact⟨_,hn,by cases e <;> exact h2⟩
end
end
end Go.Proofs.YtkgbadeobdbinaaGreat

/- Generic texts and models for the proofs of this seat: part 7. -/
import Derived.Test.YtcpcagdialnbeaaY06
set_option linter.unusedVariables false
set_option linter.unusedSimpArgs false
namespace Go.Proofs.Ytcpcagdialnbeaa
section
open Go Go.RowKit
section
variable {P:Program}{L:Lay}{S:Sig}{call:Orc}{p:Stb}{w:World}{a:Act}{s s':VS}{q:SPe}{o:Oper}
theorem zrY:∀{vs:List Value}{cs:List AC} (m:Nat),ZL vs cs=true→∀e∈zkb m cs,m≤e.1∧vs[e.1-m]?=some (.slice none 0 0)
 | [],[],m,_,e,he=>by cases he
 | v::vs,c::cs,m,h,e,he=>by
  simp only[ZL,Bool.and_eq_true] at h;have ih:=zrY (m+1) h.2 e
  have step:e∈zkb (m+1) cs→m≤e.1∧(v::vs)[e.1-m]?=some (.slice none 0 0):=fun he=>by
   obtain⟨h1,h2⟩:=ih he;exact⟨by omega,by rw[show e.1-m=(e.1-(m+1))+1 by omega];simpa using h2⟩
  unfold zkb at he;split at he
  ·cases he
  ·rename_i heq
   cases heq;rcases List.mem_cons.1 he with rfl|he
   ·refine⟨Nat.le_refl _,?_⟩
    have h1:=h.1
    unfold ZV at h1;split at h1
    ·rename_i heq;cases heq
    ·rename_i heq;cases heq
    ·simp at h1;simp[h1]
    ·cases h1
   ·exact step he
  ·rename_i heq
   cases heq;exact step he
theorem zAW {t:Nat}{x:Operand} (hop:o.op=.box t x) (hs:((L.ti t).bind fun i=>(zhl L s t x).bind fun v=>if v.cells.length=i.size then some (s.put o.dst (.box v.cells)) else none)=some s')
  (h1:zcK p w a.tmps s x) (hsz:a.tmps.size=s.σ.length) (hz:Zp p w):zcB P L S q o a p w s':=by
 simp only[zzOb] at hs;obtain⟨i,hi,v,hv,hs⟩:=hs;split at hs
 ·cases hs
  have hr:=zcV hv h1
  have hev:Evo (fun _=>False) p w (upP p w.heap.size 0) (w.alloc (.cells (a.eval x).cells t)):=zav _ _ _
  have hb:(w.alloc (.cells (a.eval x).cells t)).heap[w.heap.size]?=some (.cells (a.eval x).cells t (0,0)):=zky _
  have hf:zaI L S o=[]:=by simp[zaI,hop]
  refine zaN (v:=.pointer (some ⟨w.heap.size,0,none⟩)) (w':=w.alloc (.cells (a.eval x).cells t)) (by simp[execOp,hop,zyO]) ⟨upP p w.heap.size 0,hev.weaken (fun _ _ h=>h.elim),zpv hz _ _,
   zbO hsz (x:=.box v.cells) ⟨w.heap.size,_,t,rfl,hb,hr.cells.evo hev⟩,(fun _ _ _ _=>⟨rfl,by simp[upP],by rw[hf];simp⟩),zdc (by intro h;cases h),by rw[hf];simp,by rw[hf];simp,?_⟩
  intro e he u hu;cases x with
  | tmp y =>
   simp only[zaL,hop,hi,List.mem_map,List.mem_range] at he;obtain⟨n,hn,rfl⟩:=he;simp only at hu ⊢;have hu:zax w (a.eval (.tmp y)) n=some u:=hu
   rw[zbm hr] at hu;show(w.alloc (.cells (a.eval (.tmp y)).cells t)).cell? ⟨w.heap.size,n,none⟩=some u
   rw[zaV hb];exact hu
  | const c=>simp[zaL,hop] at he
  | global g=>simp[zaL,hop] at he
  | func f=>simp[zaL,hop] at he
 ·cases hs
theorem zwF (hL:LayOk P L) {t:Nat} (hop:o.op=.alloc t) (hs:((L.ti t).map fun i=>s.put o.dst (.box i.zero))=some s') (hsz:a.tmps.size=s.σ.length) (hz:Zp p w):zcB P L S q o a p w s':=by
 simp only[zzOm] at hs;obtain⟨i,hi,rfl⟩:=hs;obtain⟨arr,hrun,hzl⟩:=zpB (P:=P) (w:=w) (hL t i hi);have hev:Evo (fun _=>False) p w (upP p w.heap.size 0) (w.alloc (.cells arr t)):=zav _ _ _
 have hb:(w.alloc (.cells arr t)).heap[w.heap.size]?=some (.cells arr t (0,0)):=zky _
 have hf:zaI L S o=zkb 0 i.zero:=by simp[zaI,hop,hi]
 have hc:∀e∈zaI L S o,zax (w.alloc (.cells arr t)) (.pointer (some ⟨w.heap.size,0,none⟩)) e.1=some (.slice none 0 0):=by
  rw[hf];intro e he;have:=(zrY 0 hzl e he).2
  show(w.alloc (.cells arr t)).cell? ⟨w.heap.size,e.1,none⟩=_
  rw[zaV hb]
  simpa using this
 exact zaN (v:=.pointer (some ⟨w.heap.size,0,none⟩)) (w':=w.alloc (.cells arr t)) (by simp[execOp,hop,hrun]) ⟨upP p w.heap.size 0,hev.weaken (fun _ _ h=>h.elim),zpv hz _ _,
   zbO hsz (x:=.box i.zero) ⟨w.heap.size,_,t,rfl,hb,ZL.rep hzl _ _⟩,(fun _ _ _ _=>⟨rfl,by simp[upP],hc⟩),zdc (by intro h;cases h),fun e he=>⟨_,hc e he,.inl rfl,(fun b h=>by cases h)⟩,
   (fun e e' u u' b he he' _ hu _ hb=>by rw[hc e he] at hu;cases hu;cases hb),by simp[zaL,hop]⟩
theorem zsU (i:TI):∀(ps:List (Nat×Operand)) (cs cs':List AC) (us:List Value),zig L s i ps cs=some cs'→(∀x∈ps,zcK p w a.tmps s x.2)→RepL p w us cs →
  ∃us',Built p w i (ps.map fun x=>(x.1,a.eval x.2)) us cs cs' us' ∧
   (∀n t j,zbS i n ps=some (some (t,j))→us'[n]?=(a.tmps.getD t undef).cells[j]?)∧(∀n,zbS i n ps=none→us'[n]?=us[n]?)
 | [],cs,cs',us,h,_,_=>by
  cases h;exact⟨us,.nil _ _,fun n t j h=>by simp[zbS] at h,fun _ _=>rfl⟩
 | (f,x)::ps,cs,cs',us,h,hsee,hr=>by
  unfold zig at h;split at h
  ·rename_i off sz v hf hv
   split at h
   ·rename_i hc
    have hrv:=zcV hv (hsee (f,x) List.mem_cons_self)
    obtain⟨us',h1,h2,h3⟩:=zsU i ps _ cs' _ h (fun y hy=>hsee y (List.mem_cons_of_mem _ hy)) (hr.fill off hrv.cells)
    have hvl:=hrv.cells.length
    have hul:=hr.length
    have hget:∀n,(zgZ us off (a.eval x).cells.toList)[n]?=if off≤n∧n<off+sz then(a.eval x).cells[n-off]? else us[n]?:=fun n=>by
     rw[zk4 _ _ _ _ (by omega),hvl,hc.1]
     simp
    refine⟨us',.cons hf hrv hc.1 hc.2 h1,fun n t j hb=>?_,fun n hb=>?_⟩
    ·unfold zbS at hb
     split at hb
     ·rename_i r hr'
      cases hb;exact h2 n t j hr'
     ·rename_i hnone
      rw[hf] at hb;simp only at hb;split at hb
      ·rename_i hin
       cases x with
       | tmp y =>
        simp only[Option.some.injEq,Prod.mk.injEq] at hb;obtain⟨rfl,rfl⟩:=hb;rw[h3 n hnone,hget,if_pos hin];rfl
       | const c=>simp at hb
       | global g=>simp at hb
       | func g=>simp at hb
      ·cases hb
    ·unfold zbS at hb
     split at hb
     ·cases hb
     ·rename_i hnone
      rw[hf] at hb;simp only at hb;split at hb
      ·split at hb <;> cases hb
      ·rename_i hin
       rw[h3 n hnone,hget,if_neg hin]
   ·cases h
  ·cases h
theorem zwK (hL:LayOk P L) {t:Nat}{ps:Array (Nat×Operand)} (hop:o.op=.build t ps) (hs:((L.ti t).bind fun i=>if i.kind=3 then(zig L s i ps.toList i.zero).map fun cs=>s.put o.dst (.v (.agg cs)) else none)=some s')
  (h1:∀x∈ps.toList,zcK p w a.tmps s x.2) (hsz:a.tmps.size=s.σ.length) (hz:Zp p w):zcB P L S q o a p w s':=by
 simp only[zzOb] at hs;obtain⟨i,hi,hs⟩:=hs;have hT:=hL t i hi
 split at hs
 ·rename_i h3
  simp only[zzOm] at hs;obtain⟨cs,hb,rfl⟩:=hs;obtain⟨inf,z,i1,i2,_,i4,i5,i6⟩:=hT.info;have hzr:RepL p w z.cells.toList i.zero:=ZL.rep i5 _ _
  obtain⟨us',hbu,hfrom,hnone⟩:=zsU (a:=a) i ps.toList i.zero cs z.cells.toList hb h1 hzr;have hrun:=run_build (P:=P) hT h3 ⟨inf,i1,i4⟩ hbu hzr
  have hrep:=hbu.rep hzr
  have hparts:ps.map (fun(i,x)=>(i,a.eval x))=(ps.toList.map fun x=>(x.1,a.eval x.2)).toArray:=by
   apply Array.ext'
   simp
  have hfr:∀e∈zaI L S o,zax w (.agg us'.toArray) e.1=some (.slice none 0 0):=fun e he=>by
   simp only[zaI,hop,hi,List.mem_filter,Option.isNone_iff_eq_none] at he;have h2:=(zrY 0 i5 e he.1).2
   show us'.toArray[e.1]?=_
   rw[List.getElem?_toArray,hnone _ he.2]
   simpa using h2
  refine zaN (v:=.agg us'.toArray) (w':=w) (by simp[execOp,hop,hparts,hrun]) ⟨p,.refl _ _ _,hz,zbO hsz (x:=.v (.agg cs)) ⟨_,rfl,by simpa using hrep⟩,zh3 (by intro _ h;cases h),zdc (by intro h;cases h),
   fun e he=>⟨_,hfr e he,.inl rfl,(fun b h=>by cases h)⟩,(fun e e' u u' b he he' _ hu _ hb=>by rw[hfr e he] at hu;cases hu;cases hb),?_⟩
  intro e he u hu;simp only[zaL,hop,hi,List.mem_filterMap,List.mem_range] at he;obtain⟨n,hn,he⟩:=he;split at he
  ·rename_i r hr
   cases he;simp only at hu ⊢;have:=hfrom n r.1 r.2 hr
   show us'.toArray[n]?=some u
   rw[List.getElem?_toArray,this];have hx:∃x∈ps.toList,x.2=.tmp r.1:=by
    clear hb hbu hfrom hnone hparts hfr hop h1 hrun;generalize ps.toList=l at hr
    induction l with
    | nil=>simp[zbS] at hr
    | cons y l ih =>
     obtain⟨f',x'⟩:=y;unfold zbS at hr;split at hr
     ·rename_i r' hr'
      cases hr;obtain⟨x,hx,hx2⟩:=ih hr';exact⟨x,List.mem_cons_of_mem _ hx,hx2⟩
     ·split at hr
      ·split at hr
       ·cases x' with
        | tmp y =>
         simp only[Option.some.injEq] at hr;subst hr;exact⟨_,List.mem_cons_self,rfl⟩
        | const c=>simp at hr
        | global g=>simp at hr
        | func g=>simp at hr
       ·cases hr
      ·cases hr
   obtain⟨x,hx,hx2⟩:=hx;have hsl:=(by simpa [hx2] using h1 x hx:zcK p w a.tmps s (.tmp r.1))
   have hsr:=(hsl r.1 (zfU s r.1)).1
   have hval:∃v,s.get r.1=.v v:=by
    clear hfrom hnone hparts hfr hrun hrep hbu;have key:∀(l:List (Nat×Operand)) (c c':List AC),zig L s i l c=some c'→x∈l→∃v,s.get r.1=.v v:=by
     intro l;induction l with
     | nil=>intro c c' _ hm;cases hm
     | cons y l ih =>
      intro c c' hbv hm;obtain⟨f',x'⟩:=y;unfold zig at hbv;split at hbv
      ·rename_i hv
       split at hbv
       ·rcases List.mem_cons.1 hm with rfl|hm
        ·simp only at hx2
         rw[hx2] at hv;simp only[zhl] at hv;split at hv
         ·rename_i v' hv';exact⟨v',hv'⟩
         ·cases hv
        ·exact ih _ _ hbv hm
       ·cases hbv
      ·cases hbv
    exact key _ _ _ hb hx
   obtain⟨v,hv⟩:=hval;rw[hv] at hsr;rw[zbm hsr] at hu;exact hu
  ·cases he
 ·cases hs
theorem zrz {k:Nat}:∀(ps:List (Nat×Operand)) (j:Nat) (r:List (List AC)),zlB L s k j ps=some r→(∀x∈ps,zcK p w a.tmps s x.2) →
  (ps.map fun x=>(x.1,a.eval x.2)).map (·.1)=(List.range ps.length).map (j+·)∧ps.length=r.length ∧
   ∀(i:Nat) (x:Nat×Value) (y:List AC),(ps.map fun x=>(x.1,a.eval x.2))[i]?=some x→r[i]?=some y→RepL p w x.2.cells.toList y∧y.length=k
 | [],j,r,h,_=>by cases h;exact⟨rfl,rfl,fun i x y hx=>by simp at hx⟩
 | (i,x)::ps,j,r,h,hsee=>by
  unfold zlB at h;split at h
  ·rename_i v hv
   split at h
   ·rename_i hc
    simp only[zzOm] at h;obtain⟨r',h,rfl⟩:=h;obtain⟨h1,h2,h3⟩:=zrz ps (j+1) r' h (fun y hy=>hsee y (List.mem_cons_of_mem _ hy))
    refine⟨?_,by simp[h2],fun n y c hy hc'=>?_⟩
    ·simp only[List.map_cons,List.length_cons,List.range_succ_eq_map,h1,hc.1]
     simp[Function.comp_def,Nat.add_assoc,Nat.add_comm 1]
    ·match n with
     | 0=>simp at hy hc';subst hy hc';exact⟨(zcV hv (hsee (i,x) List.mem_cons_self)).cells,hc.2⟩
     | n+1=>exact h3 n y c (by simpa using hy) (by simpa using hc')
   ·cases h
  ·cases h
theorem zqZ (hL:LayOk P L) {t n:Nat}{ps:Array (Nat×Operand)} (hop:o.op=.buildSlice t n ps)
  (hs:((L.el t).bind fun e=>(zlB L s e.size 0 ps.toList).bind fun r=>if r.length=n∧n≤65536∧0<e.size∧e.size≤256 then some (s.put o.dst (.v (.cell (.sl e.size r)))) else none)=some s')
  (h1:∀x∈ps.toList,zcK p w a.tmps s x.2) (hsz:a.tmps.size=s.σ.length) (hz:Zp p w):zcB P L S q o a p w s':=by
 simp only[zzOb] at hs;obtain⟨e,he,r,hr,hs⟩:=hs;obtain⟨u,hu,hT⟩:=hL.el he;split at hs
 ·rename_i hc
  obtain⟨rfl,c2,c3,c4⟩:=hc;cases hs;obtain⟨k1,k2,k3⟩:=zrz (a:=a) ps.toList 0 r hr h1;have hparts:ps.map (fun(i,x)=>(i,a.eval x))=(ps.toList.map fun x=>(x.1,a.eval x.2)).toArray:=by
   apply Array.ext'
   simp
  obtain⟨v,w',p',hrun,hrep,hrt,hev,hz',hblk⟩:=zqf (t:=t) hu hT c3 (parts:=ps.toList.map fun x=>(x.1,a.eval x.2)) (by rw[k1];simp) (by simpa using k2) k3 hz c2 c4
  refine zaN (v:=v) (w':=w') (by simp[execOp,hop,hparts,hrun]) ⟨p',?_⟩
  refine zgq (e0:=(0,e.size)) (hev.weaken fun b _ hb=>hb.elim) hz' (zbO hsz (x:=.v (.cell _)) hrep) (zh3 (by intro _ h;cases h)) (zdc (by intro h;cases h)) (by simp[zaI,hop,he]) (by simp[zaL,hop]) (u:=v) ?_ hrt (fun b hb=>.inl (by rw[hblk b hb];exact Nat.le_refl _))
  rw[zbm (x:=.cell _) hrep,hrep.cells];rfl
 ·cases hs
theorem zsp (hL:LayOk P L) {t:Nat}{x y:Operand} (hop:o.op=.makeSlice t x y)
  (hs:((L.el t).bind fun e=>(ze9 L s x).bind fun l=>(ze9 L s y).bind fun c=>if 0≤l∧l≤c∧c≤zgY∧0<e.size then some (s.put o.dst (.v (.cell (.sl e.size (List.replicate l.toNat e.zero))))) else none)=some s')
  (h1:zcK p w a.tmps s x) (h2:zcK p w a.tmps s y) (hsz:a.tmps.size=s.σ.length) (hz:Zp p w):zcB P L S q o a p w s':=by
 simp only[zzOb] at hs;obtain⟨e,he,l,hl,c,hc',hs⟩:=hs;obtain⟨u,hu,hT⟩:=hL.el he;split at hs
 ·rename_i hc
  obtain⟨c1,c2,c3,c4⟩:=hc;cases hs;obtain⟨v,w',p',hrun,hrep,hrt,hev,hz',hblk⟩:=ziv (t:=t) hu hT c4 c1 c2 c3 hz;refine zaN (v:=v) (w':=w') (by simp[execOp,hop,zdG hl h1,zdG hc' h2,hrun]) ⟨p',?_⟩
  refine zgq (e0:=(0,e.size)) (hev.weaken fun b _ hb=>hb.elim) hz' (zbO hsz (x:=.v (.cell _)) hrep) (zh3 (by intro _ h;cases h)) (zdc (by intro h;cases h)) (by simp[zaI,hop,he]) (by simp[zaL,hop]) (u:=v) ?_ hrt (fun b hb=>.inl (by rw[hblk b hb];exact Nat.le_refl _))
  rw[zbm (x:=.cell _) hrep,hrep.cells];rfl
 ·cases hs
theorem zkD:∀(xs:List Operand) (ts:List Nat) (vs:List SV),ze4 L s xs ts=some vs→(∀x∈xs,zcK p w a.tmps s x)→RepSs p w (xs.map a.eval) vs
 | [],[],_,h,_=>by cases h;trivial
 | x::xs,t::ts,_,h,hsee=>by
  simp only[ze4,zzOb] at h;obtain⟨v,hv,h⟩:=h;split at h
  case isFalse=>cases h
  simp only[zzOm] at h;obtain⟨vs,h,rfl⟩:=h;exact⟨zcV hv (hsee x List.mem_cons_self),zkD xs ts vs h fun y hy=>hsee y (List.mem_cons_of_mem _ hy)⟩
 | [],_::_,_,h,_=>by cases h
 | _::_,[],_,h,_=>by cases h
theorem zgh {α β:Type}:∀{xs:List α}{ys:List β}{x:α}{y:β},(x,y)∈xs.zip ys→∃i:Nat,xs[i]?=some x∧ys[i]?=some y
 | [],_,_,_,h=>by simp at h
 | _::_,[],_,_,h=>by simp at h
 | a::xs,b::ys,x,y,h=>by
  simp only[List.zip_cons_cons,List.mem_cons,Prod.mk.injEq] at h;rcases h with ⟨rfl,rfl⟩|h
  ·exact⟨0,rfl,rfl⟩
  ·obtain⟨i,h1,h2⟩:=zgh h
   exact⟨i+1,by simpa using h1,by simpa using h2⟩
theorem zkN {α β:Type}:∀{xs:List α}{ys:List β}{i:Nat}{x:α}{y:β},xs[i]?=some x→ys[i]?=some y→(x,y)∈xs.zip ys
 | [],_,_,_,_,h,_=>by simp at h
 | _::_,[],_,_,_,_,h=>by simp at h
 | a::xs,b::ys,0,x,y,h1,h2=>by simp at h1 h2;subst h1 h2;simp
 | a::xs,b::ys,i+1,x,y,h1,h2=>by
  simp only[List.zip_cons_cons,List.mem_cons];exact .inr (zkN (by simpa using h1) (by simpa using h2))
theorem zAe (hC:za4 P S call) {f:FuncId}{xs:Array Operand}{ts:Array TypeId} (hop:o.op=.call {callee:=.value (.func f),args:=xs,argTypes:=ts})
  (hs:((ze4 L s xs.toList ts.toList).bind fun vs=>(call f vs).map fun r=>s.put o.dst r)=some s') (hlen:(S.sg f).takes.length≤xs.size)
  (h1:∀x∈xs.toList,zcK p w a.tmps s x) (hsz:a.tmps.size=s.σ.length) (hz:Zp p w) (hr:∀x∈zbQ L S o,Rt p w (a.eval x.1) x.2) (hd:znP ((zbQ L S o).map fun x=>a.eval x.1)):zcB P L S q o a p w s':=by
 simp only[zzOb,zzOm] at hs;obtain⟨vs,hvs,r,hcall,rfl⟩:=hs;obtain⟨⟨_,fn,f1,f2,f3⟩,hc⟩:=hC f vs r hcall;have hreps:=zkD (a:=a) _ _ _ hvs h1
 have heats:zbQ L S o=(xs.toList.zip (S.sg f).takes).filterMap fun xk=>xk.2.map fun k=>(xk.1,k):=by simp[zbQ,hop]
 have htk:∀(i k:Nat) (v:Value),(S.sg f).takes[i]?=some (some k)→(xs.toList.map a.eval)[i]?=some v→∃x∈zbQ L S o,x.2=k∧a.eval x.1=v:=fun i k v hk hv=>by
  rw[List.getElem?_map] at hv;simp only[zzOm] at hv;obtain⟨x,hx,rfl⟩:=hv;refine⟨(x,k),?_,rfl,rfl⟩
  rw[heats,List.mem_filterMap];exact⟨(x,some k),zkN hx hk,rfl⟩
 have heat:∀b,(∃(i k:Nat) (v:Value),(S.sg f).takes[i]?=some (some k)∧(xs.toList.map a.eval)[i]?=some v∧zar v=some b)→zlm L S o a b:=by
  rintro b ⟨i,k,v,hk,hv,hb⟩
  obtain⟨x,hx,_,rfl⟩:=htk i k v hk hv;exact⟨x,hx,hb⟩
 have hcalls:=hc p w (xs.toList.map a.eval) hreps hz (fun i k hk=>by
  have hi:i<(S.sg f).takes.length:=(List.getElem?_eq_some_iff.1 hk).1
  have hx:(xs.toList.map a.eval)[i]?=some ((xs.toList.map a.eval)[i]'(by simp;omega)):=List.getElem?_eq_getElem _
  obtain⟨x,hxe,hk',he⟩:=htk i k _ hk hx;exact⟨_,hx,by rw[←he,←hk'];exact hr x hxe⟩) (by
  have:((xs.toList.map a.eval).zip (S.sg f).takes).filterMap (fun xk=>xk.2.map fun _=>xk.1)=(zbQ L S o).map fun x=>a.eval x.1:=by
   rw[heats,List.zip_map_left,List.filterMap_map,List.map_filterMap]
   congr 1
   funext xk
   obtain⟨x,k⟩:=xk;cases k <;> rfl
  rw[this];exact hd)
 have hargs:xs.map a.eval=(xs.toList.map a.eval).toArray:=by
  apply Array.ext'
  simp
 refine znw (f:=f) (args:=xs.map a.eval) ?_ ?_
 ·have f3':¬fn.name = "runtime.NumGoroutine":=by simpa using f3
  have hne:fn.body≠none:=by cases h:fn.body <;> simp[h] at f2 ⊢
  simp[execOp,hop,resolve,invoke,Act.eval,Deferred.ofValue,callFunc,f1,f3',hne]
 ·rw[hargs]
  refine hcalls.mono ?_
  rintro e w' ⟨v,rfl,p',hsr,hnb,hnu,hev,hz',hg,hap⟩
  refine⟨v,rfl,p',hev.weaken (fun b _ hb=>heat b hb),hz',zbO hsz hsr,zh3 hnb,zdc hnu,?_,?_,by simp[zaL,hop]⟩
  ·intro e he
   rw[show zaI L S o=(S.sg f).gives by simp[zaI,hop]] at he
   obtain⟨u,h1,h2,h3⟩:=hg e he;exact⟨u,h1,h2,fun b hb=>(h3 b hb).imp id (heat b)⟩
  ·rw[show zaI L S o=(S.sg f).gives by simp[zaI,hop]]
   exact hap
end
end
section
open Go Go.RowKit
section
variable {P:Program}{L:Lay}{S:Sig}{call:Orc}{p:Stb}{w:World}{a:Act}{s s':VS}{q:SPe}{o:Oper}
def zaA (o:Oper):Bool:=match o.op with|.store ..=>true|_=>false
def zeE (L:Lay) (S:Sig) (o:Oper):Bool:=match o.op with
 | .call {callee:=.value (.func f),args,argTypes}=>decide ((S.sg f).takes.length≤args.size)&&((S.sg f).takes.zip argTypes.toList).all fun e=>e.1.isNone||(L.el e.2).isSome
 | _=>true
def zr1 (L:Lay) (S:Sig) (o:Oper):Bool:=match o.op with
 | .call {callee:=.value (.func f),..} =>
  (!L.home (f+1) o.dst||((S.sg f).takes.isEmpty&&(match L.el o.type with|some e=>(S.sg f).gives==[(0,e.size)]|none=>false)))&&(!L.lent f||((S.sg f).takes.isEmpty&&(S.sg f).gives.isEmpty))
 | _=>true
def zkZ (L:Lay) (S:Sig) (o:Oper):Bool:=zeE L S o&&zr1 L S o
theorem zpx {α:Type}{xs:Array α}{x:α} (h:xs.toList=[x]):xs=#[x]:=by apply Array.ext';simpa using h
theorem zfN {α:Type}{xs:Array α}{x y:α} (h:xs.toList=[x,y]):xs=#[x,y]:=by apply Array.ext';simpa using h
theorem zwJ (hL:LayOk P L) (hC:za4 P S call) (hs:zaK L call o s=some s') (hst:zaA o=false) (hsee:∀x∈o.op.operands.toList,zcK p w a.tmps s x) (hsz:a.tmps.size=s.σ.length) (hz:Zp p w) (hq:zbR q s)
  (hr:∀x∈zbQ L S o,Rt p w (a.eval x.1) x.2) (hd:znP ((zbQ L S o).map fun x=>a.eval x.1)) (hlen:zeE L S o=true):zcB P L S q o a p w s':=by
 unfold zaK at hs;split at hs
 ·rename_i x hop
  exact zve (.inl hop) hs (hsee x (by simp[hop,Op.operands])) hsz hz
 ·rename_i x hop
  exact zve (.inr hop) hs (hsee x (by simp[hop,Op.operands])) hsz hz
 ·rename_i c x y hop
  exact zyR hop hs (hsee c (by simp[hop,Op.operands])) (hsee x (by simp[hop,Op.operands])) (hsee y (by simp[hop,Op.operands])) hsz hz
 ·rename_i t hop
  exact zwF hL hop hs hsz hz
 ·rename_i t x hop
  exact zAW hop hs (hsee x (by simp[hop,Op.operands])) hsz hz
 ·rename_i t ps hop
  exact zwK hL hop hs (fun x hx=>hsee x.2 (by simp only[hop,Op.operands];exact List.mem_map_of_mem hx)) hsz hz
 ·rename_i t n ps hop
  exact zqZ hL hop hs (fun x hx=>hsee x.2 (by simp only[hop,Op.operands];exact List.mem_map_of_mem hx)) hsz hz
 ·rename_i t x hop
  exact zyh hL hop hs (hsee x (by simp[hop,Op.operands])) hsz hz hq
 ·rename_i t x v hop
  simp[zaA,hop] at hst
 ·rename_i op t x y u hop
  split at hs
  ·rename_i m hm
   exact zyQ hL hop hm hs (hsee x (by simp[hop,Op.operands])) (hsee y (by simp[hop,Op.operands])) hsz hz
  ·exact zA8 hop hs (hsee x (by simp[hop,Op.operands])) (hsee y (by simp[hop,Op.operands])) hsz hz
 ·rename_i t x hop
  exact zA9 hop hs (hsee x (by simp[hop,Op.operands])) hsz hz
 ·rename_i t x f hop
  exact zrN hL hop hs (hsee x (by simp[hop,Op.operands])) hsz hz
 ·rename_i t x ix hop
  exact zrP hL hop hs (hsee x (by simp[hop,Op.operands])) (hsee ix (by simp[hop,Op.operands])) hsz hz
 ·rename_i t x lo hi hop
  exact zwt hL hop hs (hsee x (by simp[hop,Op.operands])) (fun y hy=>hsee y (by simp[hop,Op.operands,hy])) (fun y hy=>hsee y (by simp[hop,Op.operands,hy])) hsz hz
 ·rename_i x j hop
  exact zt4 ⟨x,j,hop,hs,hsee _ (by simp[hop,Op.operands])⟩ hsz hz
 ·rename_i t l c hop
  exact zsp hL hop hs (hsee l (by simp[hop,Op.operands])) (hsee c (by simp[hop,Op.operands])) hsz hz
 ·rename_i args ats hop
  split at hs
  ·rename_i x hx
   split at hs
   ·rename_i hone
    have:=zpx hx
    subst this;exact zA7 hL hop rfl hone hs (hsee x (by simp[hop,Op.operands,Call.operands])) hsz hz
   ·cases hs
  ·cases hs
 ·rename_i args ats hop
  split at hs
  ·rename_i x y hx
   have:=zfN hx
   subst this;have hats:∃t,ats=#[t,t]:=by
    simp only[zzOb] at hs;obtain⟨e,he,⟨k,r⟩,_,⟨k',r'⟩,_,hs⟩:=hs;simp only at hs;split at hs
    ·rename_i hc
     refine⟨ats.getD 0 0,?_⟩
     have h2:=hc.2.2.2.1
     have h1:=hc.2.2.1
     apply Array.ext'
     match hl:ats.toList with
     | [t,u] =>
      have:ats=#[t,u]:=zfN hl
      subst this;simp at h1 ⊢
      exact h1.symm
     | []=>have:=congrArg List.length hl;simp[h2] at this
     | [_]=>have:=congrArg List.length hl;simp[h2] at this
     | _::_::_::_=>have:=congrArg List.length hl;simp[h2] at this
    ·cases hs
   obtain⟨t,rfl⟩:=hats;refine zvD hL hop (s':=s') ?_ (hsee x (by simp[hop,Op.operands,Call.operands])) (hsee y (by simp[hop,Op.operands,Call.operands])) hsz hz hr
   rw[←hs];simp
  ·cases hs
 ·rename_i args ats hop
  split at hs
  ·rename_i x y hx
   have:=zfN hx
   subst this;exact zA0 hop hs (hsee x (by simp[hop,Op.operands,Call.operands])) (hsee y (by simp[hop,Op.operands,Call.operands])) hsz hz
  ·cases hs
 ·rename_i f args ats hop
  exact zAe hC hop hs (by simp[zeE,hop] at hlen;exact hlen.1) (fun x hx=>hsee x (by simp[hop,Op.operands,Call.operands];exact .inr (by simpa using hx))) hsz hz hr hd
 ·cases hs
theorem znZ:∀(xs:List Operand) (ts:List Nat) (vs:List SV),ze4 L s xs ts=some vs→∀(i:Nat) (x:Operand) (t:Nat),xs[i]?=some x→ts[i]?=some t→(L.el t).isSome=true→∃k r,zhl L s t x=some (.cell (.sl k r))
 | [],_,_,_,i,x,t,hx,_,_=>by simp at hx
 | _::_,[],_,h,i,x,t,_,ht,_=>by simp at ht
 | y::ys,u::us,_,h,i,x,t,hx,ht,he=>by
  simp only[ze4,zzOb] at h;obtain⟨v,hv,h⟩:=h;split at h
  case isFalse=>cases h
  rename_i hok;simp only[zzOm] at h;obtain⟨vs,h,rfl⟩:=h
  match i with
  | 0 =>
   simp at hx ht
   subst hx ht;obtain⟨e,he⟩:=Option.isSome_iff_exists.1 he;unfold ztF at hok;rw[he] at hok;simp only at hok;split at hok
   ·exact⟨_,_,hv⟩
   ·cases hok
  | i+1=>exact znZ ys us vs h i x t (by simpa using hx) (by simpa using ht) he
theorem zpM (hs:zaK L call o s=some s') (hsee:∀x∈o.op.operands.toList,zcK p w a.tmps s x) (hlen:zeE L S o=true):∀x∈zbQ L S o,∃c,Rep p w (a.eval x.1) c:=by
 intro x hx;unfold zbQ at hx;split at hx
 ·rename_i args ats hop
  split at hx
  ·rename_i y z e hy he
   simp only[List.mem_singleton] at hx;subst hx;simp only[zaK,hop,hy,he,zzOb] at hs;obtain⟨_,_,⟨k,r⟩,hr,_⟩:=hs;exact⟨_,zht hr (hsee y (by
    have:args=#[y,z]:=zfN hy
    subst this;simp[hop,Op.operands,Call.operands]))⟩
  ·cases hx
 ·rename_i f args ats hop
  simp only[List.mem_filterMap,zzOm] at hx;obtain⟨⟨y,ko⟩,hm,k,hk,rfl⟩:=hx;simp only at hk;subst hk;obtain⟨i,hi,hti⟩:=zgh hm;simp only[zaK,hop,zzOb] at hs;obtain⟨vs,hvs,_⟩:=hs;simp only[zeE,hop,Bool.and_eq_true,List.all_eq_true] at hlen;have hlt:i<ats.toList.length:=by
   have key:∀(xs:List Operand) (ts:List Nat) (vs:List SV),ze4 L s xs ts=some vs→xs.length=ts.length:=by
    intro xs;induction xs with
    | nil=>intro ts vs h;cases ts with|nil=>rfl|cons t ts=>simp[ze4] at h
    | cons x xs ih =>
     intro ts vs h;cases ts with
     | nil=>simp[ze4] at h
     | cons t ts =>
      simp only[ze4,zzOb] at h;obtain⟨v,_,h⟩:=h;split at h
      case isFalse=>cases h
      simp only[zzOm] at h;obtain⟨vs,h,_⟩:=h;simp[ih _ _ h]
   rw[←key _ _ _ hvs];exact(List.getElem?_eq_some_iff.1 hi).1
  have ht:ats.toList[i]?=some (ats.toList[i]'hlt):=List.getElem?_eq_getElem _
  have:=hlen.2 _ (zkN hti ht)
  simp at this
  obtain⟨k',r,hsv⟩:=znZ _ _ _ hvs i y _ hi ht (by simpa using this)
  exact⟨_,zcV hsv (hsee y (by
   simp[hop,Op.operands,Call.operands]
   exact .inr (by simpa using List.mem_of_getElem? hi)))⟩
 ·cases hx
structure ze1 (o:Oper) (s s':VS):Prop where
 len:s'.σ.length=s.σ.length
 get:∀t,o.dst≠some t→s'.get t=s.get t
 pe:∀t r,o.dst≠some t→s'.pe.lookup t=some r→s.pe.lookup t=some r∧∀d,o.dst=some d→r.at d=false
theorem zi1 {β:Type} (f:Nat×β→Bool) {t:Nat}{r:β}:∀{l:List (Nat×β)},(l.filter f).lookup t=some r→(∀x∈l,x.1=t→f x=false→True)→(∃y∈l,y=(t,r)∧f y=true)
 | [],h,_=>by cases h
 | x::l,h,_=>by
  rcases hf:f x with _|_
  ·rw[List.filter_cons_of_neg (by simp[hf])] at h
   obtain⟨y,hy,e⟩:=zi1 f h (fun _ _ _ _=>trivial)
   exact⟨y,List.mem_cons_of_mem _ hy,e⟩
  ·rw[List.filter_cons_of_pos (by simp[hf])] at h
   obtain⟨k,v⟩:=x;simp only[List.lookup] at h;split at h
   ·rename_i he
    cases h;exact⟨_,List.mem_cons_self,by simp at he;simp[he],hf⟩
   ·obtain⟨y,hy,e⟩:=zi1 f h (fun _ _ _ _=>trivial)
    exact⟨y,List.mem_cons_of_mem _ hy,e⟩
def NoTwice {β:Type}:List (Nat×β)→Prop
 | []=>True
 | x::l=>(∀y∈l,y.1≠x.1)∧NoTwice l
theorem NoTwice.filter {β:Type} (f:Nat×β→Bool):∀{l:List (Nat×β)},NoTwice l→NoTwice (l.filter f)
 | [],_=>trivial
 | x::l,⟨h1,h2⟩=>by
  rcases hf:f x with _|_
  ·rw[List.filter_cons_of_neg (by simp[hf])]
   exact NoTwice.filter f h2
  ·rw[List.filter_cons_of_pos (by simp[hf])]
   exact⟨fun y hy=>h1 y (List.mem_filter.1 hy).1,NoTwice.filter f h2⟩
theorem NoTwice.lookup {β:Type}{t:Nat}{r:β}:∀{l:List (Nat×β)},NoTwice l→(t,r)∈l→l.lookup t=some r
 | [],_,h=>by cases h
 | (k,v)::l,⟨h1,h2⟩,h=>by
  rcases List.mem_cons.1 h with h|h
  ·cases h;simp[List.lookup]
  ·simp only[List.lookup]
   have:(t==k)=false:=by
    have:=h1 _ h
    simp at this ⊢
    exact this
   rw[this];exact NoTwice.lookup h2 h
theorem zap (hn:NoTwice s.pe) (x:AV):ze1 o s (s.put o.dst x)∧NoTwice (s.put o.dst x).pe:=by
 cases hd:o.dst with
 | none=>exact⟨⟨rfl,fun _ _=>rfl,fun t r _ h=>⟨h,fun d hd'=>by cases hd'.symm.trans hd⟩⟩,hn⟩
 | some d =>
  refine⟨⟨by simp[VS.put],fun t ht=>?_,fun t r ht h=>?_⟩,hn.filter _⟩
  ·have hne:d≠t:=fun e=>ht (by rw[hd,e])
   simp only[VS.get,VS.put,List.getD,List.getElem?_set_ne hne]
  ·obtain⟨y,hy,rfl,hf⟩:=zi1 _ h (fun _ _ _ _=>trivial)
   simp only[Bool.and_eq_true,Bool.not_eq_true'] at hf;exact⟨hn.lookup hy,fun d' hd'=>by rw[hd] at hd';cases hd';exact hf.2⟩
theorem zlH (hn:NoTwice s.pe) {d:Nat} (hd:o.dst=some d) (r0:Ptr):ze1 o s {(s.put (some d) .und) with pe:=(d,r0)::(s.put (some d) .und).pe}∧NoTwice ((d,r0)::(s.put (some d) .und).pe):=by
 obtain⟨hf,hn'⟩:=zap (o:=o) hn .und;rw[hd] at hf hn';refine⟨⟨hf.len,fun t ht=>hf.get t ht,fun t r ht h=>?_⟩,fun y hy=>?_,hn'⟩
 ·have hne:t≠d:=fun e=>ht (by rw[hd,e])
  simp only[List.lookup] at h;rw[show(t==d)=false by simpa using hne] at h
  exact hf.pe t r ht h
 ·simp only[VS.put,List.mem_filter,Bool.and_eq_true,Bool.not_eq_true',beq_eq_false_iff_ne] at hy
  exact hy.2.1
theorem zd4 (hs:zaK L call o s=some s') (hst:zaA o=false) (hn:NoTwice s.pe):ze1 o s s'∧NoTwice s'.pe:=by
 unfold zaK at hs;split at hs <;> try simp only[zzOb,zzOm] at hs
 ·obtain⟨v,_,rfl⟩:=hs;exact zap hn _
 ·obtain⟨v,_,rfl⟩:=hs;exact zap hn _
 ·obtain⟨_,_,v,_,rfl⟩:=hs;exact zap hn _
 ·obtain⟨_,_,rfl⟩:=hs;exact zap hn _
 ·obtain⟨_,_,_,_,hs⟩:=hs;split at hs <;> cases hs;exact zap hn _
 ·obtain⟨_,_,hs⟩:=hs;split at hs
  ·simp only[zzOm] at hs;obtain⟨_,_,rfl⟩:=hs;exact zap hn _
  ·cases hs
 ·obtain⟨_,_,_,_,hs⟩:=hs;split at hs <;> cases hs;exact zap hn _
 ·obtain⟨_,_,_,_,hs⟩:=hs
  split at hs
  ·split at hs
   ·simp only[zzOm] at hs;obtain⟨_,_,rfl⟩:=hs;exact zap hn _
   ·cases hs
  ·split at hs
   ·split at hs
    ·simp only[zzOm] at hs;obtain⟨_,_,rfl⟩:=hs;exact zap hn _
    ·cases hs
   ·cases hs
  ·cases hs
 ·rename_i hop;simp[zaA,hop] at hst
 ·split at hs
  ·simp only[zzOb] at hs
   obtain⟨_,_,hs⟩:=hs;split at hs
   ·simp only[zzOb,zzOm] at hs
    obtain⟨_,_,_,_,rfl⟩:=hs;exact zap hn _
   ·cases hs
  ·simp only[zzOb,zzOm] at hs
   obtain⟨_,_,_,_,_,_,rfl⟩:=hs;exact zap hn _
 ·obtain⟨_,_,rfl⟩:=hs;exact zap hn _
 ·obtain⟨_,_,_,_,_,_,hs⟩:=hs
  split at hs
  ·rename_i d hd
   split at hs
   ·cases hs;exact zlH hn hd _
   ·cases hs
  ·cases hs
 ·obtain⟨_,_,_,_,_,_,hs⟩:=hs
  split at hs
  ·split at hs
   ·rename_i d hd
    split at hs
    ·cases hs;exact zlH hn hd _
    ·cases hs
   ·cases hs
  ·cases hs
 ·obtain⟨_,_,_,_,_,_,_,_,hs⟩:=hs;split at hs <;> cases hs;exact zap hn _
 ·split at hs
  ·simp only[zzOm] at hs;obtain⟨_,_,rfl⟩:=hs;exact zap hn _
  ·cases hs
 ·obtain⟨_,_,_,_,_,_,hs⟩:=hs;split at hs <;> cases hs;exact zap hn _
 ·split at hs
  ·split at hs
   ·simp only[zzOb,zzOm] at hs;obtain⟨_,_,_,_,rfl⟩:=hs;exact zap hn _
   ·cases hs
  ·cases hs
 ·split at hs
  ·simp only[zzOb] at hs
   obtain⟨_,_,_,_,_,_,hs⟩:=hs;split at hs <;> cases hs;exact zap hn _
  ·cases hs
 ·split at hs
  ·simp only[zzOb,zzOm] at hs;obtain⟨_,_,_,_,rfl⟩:=hs;exact zap hn _
  ·cases hs
 ·obtain⟨_,_,_,_,rfl⟩:=hs;exact zap hn _
 ·cases hs
theorem za5 {x:AV} (hx:zbH x=false):∀d,o.dst=some d→zbH ((s.put o.dst x).get d)=false:=by
 intro d hd;rw[hd,zb1];split
 ·exact hx
 ·rfl
theorem zpb (hs:zaK L call o s=some s') (hst:zaA o=false) (hv:∀f args r,call f args=some r→zix r=true):∀d,o.dst=some d→zbH (s'.get d)=false:=by
 have ptr:∀d (r:Ptr),o.dst=some d→∀d',o.dst=some d'→zbH (VS.get {(s.put (some d) .und) with pe:=(d,r)::(s.put (some d) .und).pe} d')=false:=by
  intro d r hd d' hd';have:=za5 (s:=s) (o:=o) (x:=.und) rfl d' hd'
  rw[hd] at this;exact this
 unfold zaK at hs;split at hs <;> try simp only[zzOb,zzOm] at hs
 ·obtain⟨v,hv,rfl⟩:=hs;exact za5 (znx hv).1
 ·obtain⟨v,hv,rfl⟩:=hs;exact za5 (znx hv).1
 ·obtain⟨_,_,v,_,rfl⟩:=hs;exact za5 rfl
 ·obtain⟨_,_,rfl⟩:=hs;exact za5 rfl
 ·obtain⟨_,_,_,_,hs⟩:=hs;split at hs <;> cases hs;exact za5 rfl
 ·obtain⟨_,_,hs⟩:=hs;split at hs
  ·simp only[zzOm] at hs;obtain⟨_,_,rfl⟩:=hs;exact za5 rfl
  ·cases hs
 ·obtain⟨_,_,_,_,hs⟩:=hs;split at hs <;> cases hs;exact za5 rfl
 ·obtain⟨_,_,_,_,hs⟩:=hs
  split at hs
  ·split at hs
   ·simp only[zzOm] at hs;obtain⟨_,_,rfl⟩:=hs;exact za5 rfl
   ·cases hs
  ·split at hs
   ·split at hs
    ·simp only[zzOm] at hs;obtain⟨_,_,rfl⟩:=hs;exact za5 rfl
    ·cases hs
   ·cases hs
  ·cases hs
 ·rename_i hop;simp[zaA,hop] at hst
 ·split at hs
  ·simp only[zzOb] at hs
   obtain⟨_,_,hs⟩:=hs;split at hs
   ·simp only[zzOb,zzOm] at hs
    obtain⟨_,_,_,_,rfl⟩:=hs;exact za5 rfl
   ·cases hs
  ·simp only[zzOb,zzOm] at hs
   obtain⟨_,_,_,_,_,_,rfl⟩:=hs;exact za5 rfl
 ·obtain⟨_,_,rfl⟩:=hs;exact za5 rfl
 ·obtain⟨_,_,_,_,_,_,hs⟩:=hs
  split at hs
  ·rename_i d hd
   split at hs
   ·cases hs;exact ptr d _ hd
   ·cases hs
  ·cases hs
 ·obtain⟨_,_,_,_,_,_,hs⟩:=hs
  split at hs
  ·split at hs
   ·rename_i d hd
    split at hs
    ·cases hs;exact ptr d _ hd
    ·cases hs
   ·cases hs
  ·cases hs
 ·obtain⟨_,_,_,_,_,_,_,_,hs⟩:=hs;split at hs <;> cases hs;exact za5 rfl
 ·split at hs
  ·simp only[zzOm] at hs;obtain⟨_,_,rfl⟩:=hs;exact za5 rfl
  ·cases hs
 ·obtain⟨_,_,_,_,_,_,hs⟩:=hs;split at hs <;> cases hs;exact za5 rfl
 ·split at hs
  ·split at hs
   ·simp only[zzOb,zzOm] at hs;obtain⟨_,_,_,_,rfl⟩:=hs;exact za5 rfl
   ·cases hs
  ·cases hs
 ·split at hs
  ·simp only[zzOb] at hs
   obtain⟨_,_,_,_,_,_,hs⟩:=hs;split at hs <;> cases hs;exact za5 rfl
  ·cases hs
 ·split at hs
  ·simp only[zzOb,zzOm] at hs;obtain⟨_,_,_,_,rfl⟩:=hs;exact za5 rfl
  ·cases hs
 ·obtain⟨_,_,r,hr,rfl⟩:=hs
  have:=hv _ _ _ hr
  exact za5 (by cases r <;> first|rfl|cases this)
 ·cases hs
theorem zhz {t x:Nat}{v:SV} (h:zhl L s t (.tmp x)=some v):zbH (s.get x)=false:=by
 simp only[zhl] at h;split at h
 ·rename_i hx;rw[hx];rfl
 ·cases h
theorem zmK {i:TI}:∀{ps:List (Nat×Operand)}{cs cs':List AC},zig L s i ps cs=some cs'→∀x∈ps,∀t,x.2=.tmp t→zbH (s.get t)=false
 | [],_,_,_,x,hx,_,_=>by cases hx
 | (f,y)::rest,cs,cs',h,x,hx,t,ht=>by
  unfold zig at h;split at h
  ·rename_i hv
   split at h
   ·rcases List.mem_cons.1 hx with rfl|hx
    ·simp only at ht
     rw[ht] at hv;exact zhz hv
    ·exact zmK h x hx t ht
   ·cases h
  ·cases h
theorem zlk {i:TI}{n t j:Nat}:∀{ps:List (Nat×Operand)},zbS i n ps=some (some (t,j))→∃x∈ps,x.2=.tmp t
 | [],h=>by simp[zbS] at h
 | (f,y)::rest,h=>by
  unfold zbS at h;split at h
  ·rename_i r hr
   cases h;obtain⟨x,hx,h2⟩:=zlk hr;exact⟨x,List.mem_cons_of_mem _ hx,h2⟩
  ·split at h
   ·split at h
    ·cases y with
     | tmp z =>
      simp only[Option.some.injEq,Prod.mk.injEq] at h;exact⟨_,List.mem_cons_self,by rw[h.1]⟩
     | const c=>simp at h
     | global g=>simp at h
     | func g=>simp at h
    ·cases h
   ·cases h
theorem zqw {t x:Nat}{v:AV} (h:zl0 L s t (.tmp x)=some v):zbH (s.get x)=false:=by
 simp only[zl0] at h;split at h
 ·rename_i hx;rw[hx];rfl
 ·rename_i hx;rw[hx];rfl
 ·cases h
theorem zsP (hs:zaK L call o s=some s') (hq:zbR q s):∀e∈zaL L q o,zbH (s.get e.2.1)=false:=by
 intro e he;unfold zaL at he;split at he
 ·rename_i x hop
  split at he
  ·simp only[zaK,hop,zzOm] at hs
   obtain⟨v,hv,_⟩:=hs;simp only[List.mem_map] at he;obtain⟨n,_,rfl⟩:=he;exact zqw hv
  ·cases he
 ·rename_i x hop
  split at he
  ·simp only[zaK,hop,zzOm] at hs
   obtain⟨v,hv,_⟩:=hs;simp only[List.mem_map] at he;obtain⟨n,_,rfl⟩:=he;exact zqw hv
  ·cases he
 ·rename_i t x hop
  split at he
  ·simp only[zaK,hop,zzOb] at hs
   obtain⟨_,_,v,hv,_⟩:=hs;simp only[List.mem_map] at he;obtain⟨n,_,rfl⟩:=he;exact zhz hv
  ·cases he
 ·rename_i t x hop
  split at he
  ·rename_i i d off hi hps
   simp only[zaK,hop,zzOb] at hs;obtain⟨i',hi',r,hr,hs⟩:=hs;simp only[List.mem_map] at he;obtain⟨n,_,rfl⟩:=he;have hrb:r=.box d off:=by
    unfold zlQ at hps;unfold zgU at hr;split at hps
    ·rename_i y
     simp only at hr;cases hqi:q.lookup y with
     | none =>
      rw[hqi] at hps;cases hps;rw[hq.1 _ hqi] at hr;simp only at hr;split at hr <;> cases hr
      rfl
     | some z =>
      rw[hqi] at hps;simp only at hps;subst hps;rw[hq.2 _ _ _ hqi] at hr;cases hr;rfl
    ·cases hps
   subst hrb;simp only at hs;split at hs
   ·rename_i hb;simp only[hb];rfl
   ·cases hs
  ·cases he
 ·rename_i t ps hop
  split at he
  ·simp only[zaK,hop,zzOb] at hs
   obtain⟨i',hi',hs⟩:=hs;split at hs
   ·simp only[zzOm] at hs
    obtain⟨cs,hb,_⟩:=hs;simp only[List.mem_filterMap,List.mem_range] at he;obtain⟨n,_,he⟩:=he;split at he
    ·rename_i r hr
     cases he;obtain⟨x,hx,hx2⟩:=zlk (t:=r.1) (j:=r.2) hr;exact zmK hb x hx _ hx2
    ·cases he
   ·cases hs
  ·cases he
 ·rename_i x j hop
  split at he
  ·split at he
   ·simp only[List.mem_map] at he
    obtain⟨n,_,rfl⟩:=he;simp only[zaK,hop] at hs;split at hs
    ·rename_i hx;simp only[hx];rfl
    ·cases hs
   ·cases he
  ·cases he
 ·cases he
theorem zuz (hs:zaK L call o s=some s'):∀x∈zbQ L S o,∀t,x.1=.tmp t→zbH (s.get t)=false:=by
 intro x hx t ht;unfold zbQ at hx;split at hx
 ·rename_i args ats hop
  split at hx
  ·rename_i y z e hy he
   simp only[List.mem_singleton] at hx;subst hx;simp only at ht;subst ht;simp only[zaK,hop,hy,he,zzOb] at hs;obtain⟨_,_,⟨k,r⟩,hr,_⟩:=hs;unfold zhL at hr;split at hr
   ·rename_i hv;exact zhz hv
   ·cases hr
  ·cases hx
 ·rename_i f args ats hop
  simp only[List.mem_filterMap,zzOm] at hx;obtain⟨⟨y,ko⟩,hm,k,hk,rfl⟩:=hx;simp only at ht;subst ht;obtain⟨i,hi,_⟩:=zgh hm;simp only[zaK,hop,zzOb] at hs;obtain⟨vs,hvs,_⟩:=hs;have key:∀(xs:List Operand) (ts:List Nat) (vs:List SV) (i:Nat),ze4 L s xs ts=some vs→xs[i]?=some (.tmp t)→zbH (s.get t)=false:=by
   intro xs;induction xs with
   | nil=>intro ts vs i _ hi;simp at hi
   | cons z xs ih =>
    intro ts vs i h hi;cases ts with
    | nil=>simp[ze4] at h
    | cons u ts =>
     simp only[ze4,zzOb] at h;obtain⟨v,hv,h⟩:=h;split at h
     case isFalse=>cases h
     simp only[zzOm] at h;obtain⟨vs',h,_⟩:=h
     match i with
     | 0=>simp at hi;subst hi;exact zhz hv
     | i+1=>exact ih _ _ i h (by simpa using hi)
  exact key _ _ _ i hvs hi
 ·cases hx
end
end
end Go.Proofs.Ytcpcagdialnbeaa

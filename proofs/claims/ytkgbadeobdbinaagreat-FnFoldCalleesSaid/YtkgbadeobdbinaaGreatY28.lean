/- Generic texts and models for the proofs of this seat: part 28. -/
import Derived.Test.YtkgbadeobdbinaaGreatY27
import Derived.BigRegion
import Derived.StillTailTactics
import Derived.WalkKit
set_option linter.unusedVariables false
set_option linter.unusedSimpArgs false
set_option maxRecDepth 100000
namespace Go.Proofs.YtkgbadeobdbinaaGreat
section
open Go
noncomputable def zAE:CtxT:={X:={P:=Tryz.prog,L:=lay,F:=sig.has,E:=ext,fn:={Tryz.f50 with results:=#[.cell 2 26,.cell 3 26,.tmp 7]},lv:=[],jv:=[],tp:=[]},T:=tt,E:=zgA}
noncomputable def zsA:List Rg:=[0,1,2,3,4,5,6].filterMap fun i=>zxj i (cOf Tryz.f50)
theorem zFu  {q:List AC}{r:AV×List AC} (h:( zd4 (zjA q []) false [(false,[.sl 3 []])] fun q2 l1=>zaM (zb3 [.cell (.sl 1 [[.int 1]]),.cell (.int 0)]) false [(true,[.sl 1 [],.int 0,.int 0,.int 0,.sl 3 []])] fun l3 n4 n5 n6 l7=>zaM (zb3 [.cell (.sl 1 [[.int 1],[.int 1]]),.cell (.int 1)]) false [(true,[.sl 1 [],.int 0,.int 0,.int 0,.sl 3 []])] fun l8 n9 n10 n11 l12=>zaM (zb3 [.cell (.sl 1 [[.int 1]]),.cell (.int 1)]) false [(true,[.sl 1 [],.int 0,.int 0,.int 0,.sl 3 []])] fun l13 n14 n15 n16 l17=>zaM (zb3 [.cell (.sl 1 [[.int 1],[.int 0]]),.cell (.int 1)]) false [(true,[.sl 1 [],.int 0,.int 0,.int 0,.sl 3 []])] fun l18 n19 n20 n21 l22=>zaM (zb3 [.cell (.sl 1 [[.int 2],[.int 1]]),.cell (.int 1)]) false [(true,[.sl 1 [],.int 0,.int 0,.int 0,.sl 3 []])] fun l23 n24 n25 n26 l27=>zaM (zb3 [.cell (.sl 1 [[.int 1],[.int 1]]),.cell (.int 0)]) false [(true,[.sl 1 [],.int 0,.int 0,.int 0,.sl 3 []])] fun l28 n29 n30 n31 l32=>zaM (zb3 [.cell (.sl 1 [[.int 3]]),.cell (.int 0)]) false [(true,[.sl 1 [],.int 0,.int 0,.int 0,.sl 3 []])] fun l33 n34 n35 n36 l37=>zaM (zb3 [.cell (.sl 1 [[.int 0]]),.cell (.int 1)]) false [(true,[.sl 1 [],.int 0,.int 0,.int 0,.sl 3 []])] fun l38 n39 n40 n41 l42=>zaM (zb3 [.cell (.sl 1 [[.int 0],[.int 1]]),.cell (.int 1)]) false [(true,[.sl 1 [],.int 0,.int 0,.int 0,.sl 3 []])] fun l43 n44 n45 n46 l47=>zaM (zb3 [.cell (.sl 1 [[.int 3],[.int 0]]),.cell (.int 3)]) false [(true,[.sl 1 [],.int 0,.int 0,.int 0,.sl 3 []])] fun l48 n49 n50 n51 l52=>zaM (zb3 [.cell (.sl 1 [[.int 3]]),.cell (.int 1)]) false [(true,[.sl 1 [],.int 0,.int 0,.int 0,.sl 3 []])] fun l53 n54 n55 n56 l57=>zaM (zb3 [.cell (.sl 1 [[.int 1],[.int 3],[.int 0]]),.cell (.int 0)]) false [(true,[.sl 1 [],.int 0,.int 0,.int 0,.sl 3 []])] fun l58 n59 n60 n61 l62=>zaM (zb3 [.cell (.sl 1 [[.int 0]]),.cell (.int 0)]) false [(true,[.sl 1 [],.int 0,.int 0,.int 0,.sl 3 []])] fun l63 n64 n65 n66 l67=>zaM (zb3 [.cell (.sl 1 [[.int 0],[.int 0]]),.cell (.int 0)]) false [(true,[.sl 1 [],.int 0,.int 0,.int 0,.sl 3 []])] fun l68 n69 n70 n71 l72=>zaM (zb3 [.cell (.sl 1 [[.int 1],[.int 0]]),.cell (.int 0)]) false [(true,[.sl 1 [],.int 0,.int 0,.int 0,.sl 3 []])] fun l73 n74 n75 n76 l77=>zaM (zb3 [.cell (.sl 1 [[.int 0]]),.cell (.int 1)]) false [(true,[.sl 1 [],.int 0,.int 0,.int 0,.sl 3 []])] fun l78 n79 n80 n81 l82=>zaM (zb3 [.cell (.sl 1 []),.cell (.int 0)]) false [(true,[.sl 1 [],.int 0,.int 0,.int 0,.sl 3 []])] fun l83 n84 n85 n86 l87=>zd4 (zah q2 [.cell (.int ((([[.sl 1 l3,.int n4,.int n5,.int n6,.sl 3 l7],[.sl 1 l8,.int n9,.int n10,.int n11,.sl 3 l12],[.sl 1 l13,.int n14,.int n15,.int n16,.sl 3 l17],[.sl 1 l18,.int n19,.int n20,.int n21,.sl 3 l22],[.sl 1 l23,.int n24,.int n25,.int n26,.sl 3 l27],[.sl 1 l28,.int n29,.int n30,.int n31,.sl 3 l32]]:List (List AC)).length:Nat):Int))]) false [(false,[.int 0])] fun q89 n88=>zeW [[.sl 1 l3,.int n4,.int n5,.int n6,.sl 3 l7],[.sl 1 l8,.int n9,.int n10,.int n11,.sl 3 l12],[.sl 1 l13,.int n14,.int n15,.int n16,.sl 3 l17],[.sl 1 l18,.int n19,.int n20,.int n21,.sl 3 l22],[.sl 1 l23,.int n24,.int n25,.int n26,.sl 3 l27],[.sl 1 l28,.int n29,.int n30,.int n31,.sl 3 l32]] n88 [.sl 1 [],.int 0,.int 0,.int 0,.sl 3 []] fun l90 n91 n92 n93 l94=>zd4 (zah q89 [.cell (.int ((([[.sl 1 l33,.int n34,.int n35,.int n36,.sl 3 l37],[.sl 1 l38,.int n39,.int n40,.int n41,.sl 3 l42],[.sl 1 l43,.int n44,.int n45,.int n46,.sl 3 l47],[.sl 1 l48,.int n49,.int n50,.int n51,.sl 3 l52],[.sl 1 l53,.int n54,.int n55,.int n56,.sl 3 l57],[.sl 1 l58,.int n59,.int n60,.int n61,.sl 3 l62]]:List (List AC)).length:Nat):Int))]) false [(false,[.int 0])] fun q96 n95=>zeW [[.sl 1 l33,.int n34,.int n35,.int n36,.sl 3 l37],[.sl 1 l38,.int n39,.int n40,.int n41,.sl 3 l42],[.sl 1 l43,.int n44,.int n45,.int n46,.sl 3 l47],[.sl 1 l48,.int n49,.int n50,.int n51,.sl 3 l52],[.sl 1 l53,.int n54,.int n55,.int n56,.sl 3 l57],[.sl 1 l58,.int n59,.int n60,.int n61,.sl 3 l62]] n95 [.sl 1 [],.int 0,.int 0,.int 0,.sl 3 []] fun l97 n98 n99 n100 l101=>zd4 (zah q96 [.cell (.int ((([[.sl 1 l63,.int n64,.int n65,.int n66,.sl 3 l67],[.sl 1 l68,.int n69,.int n70,.int n71,.sl 3 l72],[.sl 1 l73,.int n74,.int n75,.int n76,.sl 3 l77],[.sl 1 l78,.int n79,.int n80,.int n81,.sl 3 l82]]:List (List AC)).length:Nat):Int))]) false [(false,[.int 0])] fun q103 n102=>zeW [[.sl 1 l63,.int n64,.int n65,.int n66,.sl 3 l67],[.sl 1 l68,.int n69,.int n70,.int n71,.sl 3 l72],[.sl 1 l73,.int n74,.int n75,.int n76,.sl 3 l77],[.sl 1 l78,.int n79,.int n80,.int n81,.sl 3 l82]] n102 [.sl 1 [],.int 0,.int 0,.int 0,.sl 3 []] fun l104 n105 n106 n107 l108=>zd4 (zbb q103 [.cell (.sl 1 [[.int 4],[.int 4],[.int 3],[.int 2],[.int 4]])]) false [(false,[.int 0])] fun q110 n109=>some (.tup [.agg [.sl 3 [],.sl 5 []],.agg [.sl 3 l1,.sl 5 [[.sl 1 l83,.int n84,.int n85,.int n86,.sl 3 l87],[.sl 1 l90,.int n91,.int n92,.int n93,.sl 3 l94],[.sl 1 l97,.int n98,.int n99,.int n100,.sl 3 l101],[.sl 1 l104,.int n105,.int n106,.int n107,.sl 3 l108]]],.cell (.int n109)],q110):Option (AV×List AC))=some r):evT zAE 100000 (.run (zj9 zsA .skip)) [] [(0,.und)] q=some r:=Eq.trans (by kernel_rfl) h
theorem zE6:(zct (zbJ tt) lay sig (zj9 zsA .skip) ⟨[],[],[],110,[],[]⟩).isSome=true:=by kernel_rfl
end
section
open Go Go.RowKit
theorem zkp {p:Stb}{w w':World}{B k:Nat} (hu:∀j,p.ok B j→j=k) (h:Evo (·=B) (raP p B 0) w (raP p B 0) w') {v:Value}{c:AC} (hr:Rep p w v c) (ha:apC k c=true):Rep p w' v c:=by
 have h1:∀b,(raP p B 0) b=p b∨∀j,p.ok b j→j=k:=fun b=>by
  by_cases e:b=B
  ·subst e;exact .inr hu
  ·exact .inl (zxH e)
 have h2:∀b,p b=(raP p B 0) b∨∀j,(raP p B 0).ok b j→j=k:=fun b=>by
  rcases h1 b with e|e
  ·exact .inl e.symm
  ·exact .inr e
 exact((hr.low h1 rfl ha).evo h).low h2 rfl ha
theorem zs4 {p:Stb}{w w':World}{B k:Nat} (hu:∀j,p.ok B j→j=k) (hB:p.ok B k) (hk:2≤k) (h:Evo (·=B) (raP p B 0) w (raP p B 0) w') {v:Value}{ns:List Nat} (hr:RepQ p w v (.sl 1 (ns.map fun(u:Nat)=>[.bool true,.int (u:Int)]))):RepQ p w' v (.sl 1 (ns.map fun(u:Nat)=>[.bool true,.int (u:Int)])):=by
 rcases hr with hr|⟨A,n,cap,e,hc,ms,hl,hq,hx⟩
 ·refine .inl (zkp hu h hr ?_)
  have:apR k (ns.map fun(u:Nat)=>[AC.bool true,.int (u:Int)])=true:=by
   clear hr;induction ns with
   | nil=>rfl
   | cons n ns ih=>simp only[List.map_cons,apR,apL,apC,Bool.and_true,ih]
  simp only[apC,this,Bool.and_true,Bool.not_eq_true'];exact Bool.eq_false_iff.2 fun e=>by have:=Nat.eq_of_beq_eq_true e;omega
 ·refine .inr ⟨A,n,cap,e,hc,ms,hl,hq,fun hn=>?_⟩
  obtain⟨b,o,hA,hb,hp,hok,hy⟩:=hx hn;have hne:b≠B:=fun e=>hok k (e▸hB)
  refine⟨b,o,hA,Nat.lt_of_lt_of_le hb h.size,hp,hok,fun i u hu=>?_⟩
  obtain⟨h1,h2⟩:=hy i u hu;refine⟨h1,?_⟩
  rw[World.cell?_of_block (w:=w) (h.block b hb hne)];exact h2
theorem zew {p:Stb}{w:World}{b o n cap k:Nat}{rows:List (List AC)} (h:Rep p w (.slice (some ⟨b,o,none⟩) n cap) (.sl k rows)) (hn:rows≠[]):n=rows.length∧0<k∧(∀r∈rows,r.length=k)∧b<w.heap.size∧o+rows.length*k≤p b∧p.ok b k∧rows.length≤cap ∧
  ∃f:Nat→Nat→Value,(∀i j c,(rows.getD i [])[j]?=some c→w.cell? ⟨b,o+i*k+j,none⟩=some (f i j))∧∀i j c,(rows.getD i [])[j]?=some c→Rep p w (f i j) c:=by
 generalize hv:Value.slice (some ⟨b,o,none⟩) n cap=v at h
 generalize hc:AC.sl k rows=c at h
 cases h with
 | int n=>cases hc
 | bool b=>cases hc
 | nil a k=>cases hc;exact absurd rfl hn
 | sl b' o' cap' k' rows' f hk hrows hb hp hok hcap hcc hrr =>
  cases hc;cases hv;exact⟨rfl,hk,hrows,hb,hp,hok,hcap,f,hcc,hrr⟩
theorem zrf (k:Nat):∀xs:List Int,apR k (zae xs)=true
 | []=>rfl
 | x::xs=>by
  have:=zrf k xs
  simp only[zae] at this;simp only[zae,List.map_cons,apR,apL,apC,Bool.and_true,this]
theorem zxU {row:List AC} (h:Fit .expr row):apL 5 row=true:=by
 generalize hk:Ty.expr=kd at h
 induction h with
 | expr o n kids ho hn hl h ih =>
  have:∀l:List (List AC),(∀c∈l,apL 5 c=true)→apR 5 l=true:=by
   intro l;induction l with
   | nil=>intro _;rfl
   | cons c l ih=>intro h;simp only[apR,h c (by simp),ih fun x hx=>h x (by simp[hx]),Bool.and_true]
  simp only[apL,apC,Bool.and_true,Bool.true_and,this kids fun c hc=>ih c hc rfl]
  rfl
 | _=>cases hk
def zkd (w:World) (B o:Nat) (x0 x1 x2 x3 x4:Value):World:=((((w.setCell ⟨B,o,none⟩ x0).setCell ⟨B,o+1,none⟩ x1).setCell ⟨B,o+2,none⟩ x2).setCell ⟨B,o+3,none⟩ x3).setCell ⟨B,o+4,none⟩ x4
section
variable {w:World}{B o:Nat}{x0 x1 x2 x3 x4:Value}
theorem zpk {a:Array Value}{T:TypeId} (h:w.heap[B]?=some (.cells a T (0,0))):(zkd w B o x0 x1 x2 x3 x4).heap[B]?=some (.cells (((((a.setIfInBounds o x0).setIfInBounds (o+1) x1).setIfInBounds (o+2) x2).setIfInBounds (o+3) x3).setIfInBounds (o+4) x4) T (0,0)) :=
 heap_setCell_same _ _ _ _ _ _ (heap_setCell_same _ _ _ _ _ _ (heap_setCell_same _ _ _ _ _ _ (heap_setCell_same _ _ _ _ _ _ (heap_setCell_same _ _ _ _ _ _ h))))
theorem zcW {b:Nat} (h:b≠B):(zkd w B o x0 x1 x2 x3 x4).heap[b]?=w.heap[b]?:=by
 unfold zkd;rw[heap_setCell_other _ _ _ _ h,heap_setCell_other _ _ _ _ h,heap_setCell_other _ _ _ _ h,heap_setCell_other _ _ _ _ h,heap_setCell_other _ _ _ _ h]
theorem zdC:(zkd w B o x0 x1 x2 x3 x4).heap.size=w.heap.size:=by simp[zkd,World.setCell]
theorem zsk (p:Stb) (hp:p B=0):Evo (·=B) p w p (zkd w B o x0 x1 x2 x3 x4):=by
 refine zcN hp zdC (fun y hy=>zcW hy) ?_ ?_ ?_ <;> simp[zkd,World.setCell]
theorem zyp {a:Array Value}{T:TypeId} (h:w.heap[B]?=some (.cells a T (0,0))) (ho:o+5≤a.size) (i:Nat):(zkd w B o x0 x1 x2 x3 x4).cell? ⟨B,i,none⟩=if i=o then some x0 else if i=o+1 then some x1 else if i=o+2 then some x2 else if i=o+3 then some x3 else if i=o+4 then some x4 else w.cell? ⟨B,i,none⟩:=by
 have hc:∀{w:World}{a:Array Value},w.heap[B]?=some (.cells a T (0,0))→w.cell? ⟨B,i,none⟩=a[i]?:=fun h=>by simp[World.cell?,h]
 rw[hc (zpk h),hc h];simp only[Array.getElem?_setIfInBounds,Array.size_setIfInBounds];by_cases h4:i=o+4
 ·subst h4;simp;omega
 by_cases h3:i=o+3
 ·subst h3;simp;omega
 by_cases h2:i=o+2
 ·subst h2;simp;omega
 by_cases h1:i=o+1
 ·subst h1;simp;omega
 by_cases h0:i=o
 ·subst h0;simp;omega
 rw[if_neg (fun e=>h4 e.symm),if_neg (fun e=>h3 e.symm),if_neg (fun e=>h2 e.symm),if_neg (fun e=>h1 e.symm),if_neg (fun e=>h0 e.symm),if_neg h0,if_neg h1,if_neg h2,if_neg h3,if_neg h4]
end
theorem zvA {p:Stb}{w:World}{B o n cap k:Nat}{rows:List (List AC)}{a:Array Value}{T:TypeId} (hb:w.heap[B]?=some (.cells a T (0,0))) (hs:o+n*5≤a.size) (hu:∀j,p.ok B j→j=5) (h:Rep p w (.slice (some ⟨B,o,none⟩) n cap) (.sl 5 rows)) (ha:∀r∈rows,apL 5 r=true) (hk:k<rows.length)
  {x0 x1 x2 x3 x4:Value}{c0 c1 c2 c3 c4:AC} (hr:RepL p w [x0,x1,x2,x3,x4] [c0,c1,c2,c3,c4]) (hc:apL 5 [c0,c1,c2,c3,c4]=true) :
  Rep p (zkd w B (o+k*5) x0 x1 x2 x3 x4) (.slice (some ⟨B,o,none⟩) n cap) (.sl 5 (rows.set k [c0,c1,c2,c3,c4])):=by
 obtain⟨rfl,h5,hrows,hB,hp,hok,hcap,f,hcc,hrr⟩:=zew h (by intro e;rw[e] at hk;simp at hk)
 have hev:=zsk (w:=w) (B:=B) (o:=o+k*5) (x0:=x0) (x1:=x1) (x2:=x2) (x3:=x3) (x4:=x4) (raP p B 0) (by rw[zgQ,if_pos rfl])
 have hl:=fun {v:Value}{c:AC} (hr:Rep p w v c) (ha:apC 5 c=true)=>zkp hu hev hr ha
 have hlen:(rows.set k [c0,c1,c2,c3,c4]).length=rows.length:=by simp
 simp only[RepL] at hr;obtain⟨r0,r1,r2,r3,r4,_⟩:=hr;simp only[apL,Bool.and_eq_true] at hc;obtain⟨a0,a1,a2,a3,a4,_⟩:=hc;have hget:∀(i j:Nat) (c:AC),((rows.set k [c0,c1,c2,c3,c4]).getD i [])[j]?=some c→(i=k∧[c0,c1,c2,c3,c4][j]?=some c)∨(i≠k∧(rows.getD i [])[j]?=some c):=fun i j c h=>by
  by_cases hik:i=k
  ·subst hik
   simp only[List.getD,List.getElem?_set_self hk,Option.getD_some] at h;exact .inl ⟨rfl,h⟩
  ·simp only[List.getD,List.getElem?_set_ne (fun e=>hik e.symm)] at h
   exact .inr ⟨hik,h⟩
 rw[←hlen];refine .sl B o cap 5 _ (fun i j=>if i=k then[x0,x1,x2,x3,x4].getD j undef else f i j) h5 (fun r hr=>?_) (by rw[zdC];exact hB) (by rw[hlen];exact hp) hok (by rw[hlen];exact hcap) (fun i j c h=>?_) (fun i j c h=>?_)
 ·rcases List.mem_or_eq_of_mem_set hr with h|rfl
  ·exact hrows r h
  ·rfl
 ·rw[zyp hb (by omega)]
  rcases hget i j c h with ⟨rfl,hj⟩|⟨hik,hj⟩
  ·have hj5:=(List.getElem?_eq_some_iff.1 hj).1
   simp only[List.length_cons,List.length_nil] at hj5;rcases(by omega:j=0∨j=1∨j=2∨j=3∨j=4) with rfl|rfl|rfl|rfl|rfl <;> simp
  ·have hlt:i<rows.length:=by
    rcases Nat.lt_or_ge i rows.length with h|h
    ·exact h
    ·simp[List.getD,List.getElem?_eq_none h] at hj
   have hj5:=(List.getElem?_eq_some_iff.1 hj).1
   rw[hrows _ (by simp[List.getD,hlt])] at hj5
   rw[if_neg (by omega),if_neg (by omega),if_neg (by omega),if_neg (by omega),if_neg (by omega),if_neg hik]
   exact hcc i j c hj
 ·rcases hget i j c h with ⟨rfl,hj⟩|⟨hik,hj⟩
  ·have hj5:=(List.getElem?_eq_some_iff.1 hj).1
   simp only[List.length_cons,List.length_nil] at hj5;rw[if_pos rfl];rcases(by omega:j=0∨j=1∨j=2∨j=3∨j=4) with rfl|rfl|rfl|rfl|rfl <;> simp only[List.getElem?_cons_zero,List.getElem?_cons_succ,Option.some.injEq] at hj <;> subst hj
   ·exact hl r0 a0
   ·exact hl r1 a1
   ·exact hl r2 a2
   ·exact hl r3 a3
   ·exact hl r4 a4
  ·have hlt:i<rows.length:=by
    rcases Nat.lt_or_ge i rows.length with h|h
    ·exact h
    ·simp[List.getD,List.getElem?_eq_none h] at hj
   rw[if_neg hik];have hap:=ha (rows.getD i []) (by simp[List.getD,hlt])
   exact hl (hrr i j c hj) (zlC hap c (List.mem_of_getElem? hj))
end
section
open Go Go.RowKit
def R7:Code:=.region 7 #[⟨some 76,.fieldAddr 26 (.tmp 3) 1,0,"l30_generate.go:417",#[],none⟩,⟨some 77,.load 24 (.tmp 76),24,"l30_generate.go:417",#[⟨0,.data⟩],none⟩,⟨some 78,.move (.tmp 7),3,"l30_generate.go:417",#[],none⟩,⟨some 79,.slice 24 (.tmp 77) none (some (.tmp 78)) none,24,"l30_generate.go:417",#[⟨1,.data⟩,⟨2,.data⟩],none⟩,⟨some 80,.fieldAddr 26 (.tmp 3) 1,0,"l30_generate.go:417",#[⟨0,.phase⟩,⟨1,.phase⟩,⟨2,.phase⟩,⟨3,.phase⟩],none⟩,⟨none,.store 24 (.tmp 80) (.tmp 79),0,"l30_generate.go:417",#[⟨4,.data⟩,⟨3,.data⟩,⟨0,.phase⟩,⟨1,.phase⟩,⟨2,.phase⟩,⟨3,.phase⟩],none⟩] false
def R8:Code:=.region 8 #[⟨some 81,.move (.tmp 7),3,"l30_generate.go:418",#[],none⟩,⟨some 82,.binOp .sub 3 (.tmp 81) (.const (.int .i64 1)) 3,3,"l30_generate.go:418",#[⟨0,.data⟩],none⟩,⟨some 8,.assign (.tmp 82),3,"l30_generate.go:418",#[⟨1,.data⟩,⟨0,.phase⟩,⟨1,.phase⟩],none⟩] false
def R9:Code:=.region 9 #[⟨some 83,.move (.tmp 8),3,"l30_generate.go:418",#[],none⟩,⟨some 84,.binOp .geq 3 (.tmp 83) (.const (.int .i64 0)) 3,4,"l30_generate.go:418",#[⟨0,.data⟩],none⟩] false
def R10:Code:=.region 10 #[⟨some 85,.move (.tmp 8),3,"l30_generate.go:418",#[],none⟩,⟨some 86,.binOp .sub 3 (.tmp 85) (.const (.int .i64 1)) 3,3,"l30_generate.go:418",#[⟨0,.data⟩],none⟩,⟨some 8,.assign (.tmp 86),3,"l30_generate.go:418",#[⟨1,.data⟩,⟨0,.phase⟩,⟨1,.phase⟩],none⟩] false
def R11:Code:=.region 11 #[⟨some 87,.move (.tmp 0),48,"l30_generate.go:419",#[],none⟩,⟨some 88,.load 26 (.tmp 3),26,"l30_generate.go:419",#[],none⟩,⟨some 89,.move (.tmp 8),3,"l30_generate.go:419",#[],none⟩,⟨some 90,.call ⟨.value (.func 85),#[.tmp 87,.tmp 88,.tmp 89],#[48,26,3]⟩,35,"l30_generate.go:419",#[⟨0,.data⟩,⟨1,.data⟩,⟨2,.data⟩],none⟩,⟨some 9,.alloc 35,0,"l30_generate.go:419",#[],none⟩,⟨none,.store 35 (.tmp 9) (.tmp 90),0,"l30_generate.go:419",#[⟨4,.data⟩,⟨3,.data⟩,⟨3,.chain⟩,⟨0,.phase⟩,⟨1,.phase⟩,⟨2,.phase⟩,⟨3,.phase⟩,⟨4,.phase⟩],none⟩] false
def R12:Code:=.region 12 #[⟨some 91,.fieldAddr 26 (.tmp 3) 1,0,"l30_generate.go:420",#[],none⟩,⟨some 92,.load 24 (.tmp 91),24,"l30_generate.go:420",#[⟨0,.data⟩],none⟩,⟨some 93,.move (.tmp 8),3,"l30_generate.go:420",#[],none⟩,⟨some 94,.fieldAddr 26 (.tmp 3) 1,0,"l30_generate.go:420",#[],none⟩,⟨some 95,.load 24 (.tmp 94),24,"l30_generate.go:420",#[⟨3,.data⟩],none⟩,⟨some 96,.move (.tmp 8),3,"l30_generate.go:420",#[],none⟩,⟨some 97,.indexAddr 24 (.tmp 95) (.tmp 96),0,"l30_generate.go:420",#[⟨4,.data⟩,⟨5,.data⟩],none⟩,⟨some 98,.fieldAddr 37 (.tmp 97) 0,0,"l30_generate.go:420",#[⟨6,.data⟩],none⟩,⟨some 99,.load 32 (.tmp 98),32,"l30_generate.go:420",#[⟨7,.data⟩],none⟩,⟨some 100,.fieldAddr 26 (.tmp 3) 1,0,"l30_generate.go:420",#[],none⟩,⟨some 101,.load 24 (.tmp 100),24,"l30_generate.go:420",#[⟨9,.data⟩],none⟩,⟨some 102,.move (.tmp 8),3,"l30_generate.go:420",#[],none⟩,⟨some 103,.indexAddr 24 (.tmp 101) (.tmp 102),0,"l30_generate.go:420",#[⟨10,.data⟩,⟨11,.data⟩],none⟩,⟨some 104,.fieldAddr 37 (.tmp 103) 1,0,"l30_generate.go:420",#[⟨12,.data⟩],none⟩,⟨some 105,.load 3 (.tmp 104),3,"l30_generate.go:420",#[⟨13,.data⟩],none⟩,⟨some 106,.load 35 (.tmp 9),35,"l30_generate.go:420",#[],none⟩,⟨some 107,.build 37 #[(0,.tmp 99),(1,.tmp 105),(2,.tmp 106)],37,"l30_generate.go:420",#[⟨8,.data⟩,⟨14,.data⟩,⟨15,.data⟩],none⟩,⟨some 108,.indexAddr 24 (.tmp 92) (.tmp 93),0,"l30_generate.go:420",#[⟨1,.data⟩,⟨2,.data⟩,⟨0,.phase⟩,⟨1,.phase⟩,⟨2,.phase⟩,⟨3,.phase⟩,⟨4,.phase⟩,⟨5,.phase⟩,⟨6,.phase⟩,⟨7,.phase⟩,⟨8,.phase⟩,⟨9,.phase⟩,⟨10,.phase⟩,⟨11,.phase⟩,⟨12,.phase⟩,⟨13,.phase⟩,⟨14,.phase⟩,⟨15,.phase⟩,⟨16,.phase⟩],none⟩,⟨none,.store 37 (.tmp 108) (.tmp 107),0,"l30_generate.go:420",#[⟨17,.data⟩,⟨16,.data⟩,⟨0,.phase⟩,⟨1,.phase⟩,⟨2,.phase⟩,⟨3,.phase⟩,⟨4,.phase⟩,⟨5,.phase⟩,⟨6,.phase⟩,⟨7,.phase⟩,⟨8,.phase⟩,⟨9,.phase⟩,⟨10,.phase⟩,⟨11,.phase⟩,⟨12,.phase⟩,⟨13,.phase⟩,⟨14,.phase⟩,⟨15,.phase⟩,⟨16,.phase⟩],none⟩] true
def R13:Code:=.region 13 #[⟨some 109,.load 26 (.tmp 3),26,"l30_generate.go:422",#[],none⟩,⟨none,.store 26 (.tmp 2) (.tmp 109),0,"l30_generate.go:422",#[⟨0,.data⟩,⟨0,.phase⟩],none⟩] false
set_option maxRecDepth 100000 in
theorem zDG:cOf Tryz.f50=zj9 zsA (.seq R7 (.seq (.seq R8 (.block 0 (.loop (.seq (.seq R9 (.cond (.tmp 84) .skip (.exit 0))) (.seq (.block 1 (.seq R11 R12)) R10))))) (.seq R13 .ret))):=by kernel_rfl
def sM (m:Array Value) (i:Nat):Value:=m.getD i undef
set_option maxRecDepth 100000 in
theorem zlr {m:Array Value} (h:m.size=110):m=List.toArray (sM m 0::sM m 1::sM m 2::sM m 3::sM m 4::sM m 5::sM m 6::sM m 7::sM m 8::sM m 9::sM m 10::sM m 11::sM m 12::sM m 13::sM m 14::sM m 15::sM m 16::sM m 17::sM m 18::sM m 19::sM m 20::sM m 21::sM m 22::sM m 23::sM m 24::sM m 25::sM m 26::sM m 27::sM m 28::sM m 29::sM m 30::sM m 31::sM m 32::sM m 33::sM m 34::sM m 35::sM m 36::sM m 37::sM m 38::sM m 39::sM m 40::sM m 41::sM m 42::sM m 43::sM m 44::sM m 45::sM m 46::sM m 47::sM m 48::sM m 49::sM m 50::sM m 51::sM m 52::sM m 53::sM m 54::sM m 55::sM m 56::sM m 57::sM m 58::sM m 59::sM m 60::sM m 61::sM m 62::sM m 63::sM m 64::sM m 65::sM m 66::sM m 67::sM m 68::sM m 69::sM m 70::sM m 71::sM m 72::sM m 73::sM m 74::sM m 75::sM m 76::sM m 77::sM m 78::sM m 79::sM m 80::sM m 81::sM m 82::sM m 83::sM m 84::sM m 85::sM m 86::sM m 87::sM m 88::sM m 89::sM m 90::sM m 91::sM m 92::sM m 93::sM m 94::sM m 95::sM m 96::sM m 97::sM m 98::sM m 99::sM m 100::sM m 101::sM m 102::sM m 103::sM m 104::sM m 105::sM m 106::sM m 107::sM m 108::sM m 109::[]):=by
 apply Array.ext'
 have h1:m.toList=(List.range 110).map (fun i=>m.getD i undef):=by
  apply List.ext_getElem
  ·simp[h]
  ·intro i h1 h2
   simp only[Array.length_toList] at h1;simp[Array.getD,h1]
 exact h1.trans rfl
set_option maxRecDepth 100000 in
set_option maxHeartbeats 4000000 in
theorem zF2 {c3 c9 B o k n cap:Nat}{D u2 u3 u4:Value}{A0:Option Addr}{l0 k0:Nat}{r1:Int}{w:World} (hk:k<n) (hn:n≤1048576) {A3:Option Addr}{l3 k3:Nat}{e0 e1:Int}
 (h30:w.cell? ⟨c3,0,none⟩=some D) (h31:w.cell? ⟨c3,1,none⟩=some (.slice (some ⟨B,o,none⟩) n cap))
 (hB0:w.cell? ⟨B,o+k*5,none⟩=some (.slice A0 l0 k0)) (hB1:w.cell? ⟨B,o+k*5+1,none⟩=some (.int .i64 r1)) (hB2:w.cell? ⟨B,o+k*5+2,none⟩=some u2) (hB3:w.cell? ⟨B,o+k*5+3,none⟩=some u3) (hB4:w.cell? ⟨B,o+k*5+4,none⟩=some u4)
 (h90:w.cell? ⟨c9,0,none⟩=some (.int .i64 e0)) (h91:w.cell? ⟨c9,1,none⟩=some (.int .i64 e1)) (h92:w.cell? ⟨c9,2,none⟩=some (.slice A3 l3 k3))
 (f0:w.frozen? ⟨B,o+k*5,none⟩=false) (f1:w.frozen? ⟨B,o+k*5+1,none⟩=false) (f2:w.frozen? ⟨B,o+k*5+2,none⟩=false) (f3:w.frozen? ⟨B,o+k*5+3,none⟩=false) (f4:w.frozen? ⟨B,o+k*5+4,none⟩=false)
 {m:Array Value} (hs:m.size=110) (m3:m.getD 3 undef=.pointer (some ⟨c3,0,none⟩)) (m8:m.getD 8 undef=.int .i64 (k:Int)) (m9:m.getD 9 undef=.pointer (some ⟨c9,0,none⟩))
 (Q:Exit→Act→World→Prop) (hQ:∀a':Act,a'.defers=[]→a'.tmps.size=110→a'.tmps.getD 0 undef=m.getD 0 undef→a'.tmps.getD 2 undef=m.getD 2 undef→a'.tmps.getD 3 undef=.pointer (some ⟨c3,0,none⟩)→a'.tmps.getD 8 undef=.int .i64 (k:Int)→Q .normal a' (((((w.drew.setCell ⟨B,o+k*5,none⟩ (.slice A0 l0 k0)).setCell ⟨B,o+k*5+1,none⟩ (.int .i64 r1)).setCell ⟨B,o+k*5+2,none⟩ (.int .i64 e0)).setCell ⟨B,o+k*5+3,none⟩ (.int .i64 e1)).setCell ⟨B,o+k*5+4,none⟩ (.slice A3 l3 k3))) :
 R12.wp Tryz.prog Q {tmps:=m,defers:=[]} w:=by
 have e:=zlr hs
 rw[show sM m 3=_ from m3,show sM m 8=_ from m8,show sM m 9=_ from m9] at e;rw[e];clear e;unfold R12
 go_still_tail 18,(by kernel_rfl)
 have h1:w.drew.cell? ⟨B,o+k*5,none⟩=some (.slice A0 l0 k0):=hB0
 have h2:w.drew.cell? ⟨B,o+k*5+1,none⟩=some (.int .i64 r1):=hB1
 have h3:w.drew.cell? ⟨B,o+k*5+2,none⟩=some u2:=hB2
 have h4:w.drew.cell? ⟨B,o+k*5+3,none⟩=some u3:=hB3
 have h5:w.drew.cell? ⟨B,o+k*5+4,none⟩=some u4:=hB4
 have g0:w.drew.frozen? ⟨B,o+k*5,none⟩=false:=f0
 have g1:w.drew.frozen? ⟨B,o+k*5+1,none⟩=false:=f1
 have g2:w.drew.frozen? ⟨B,o+k*5+2,none⟩=false:=f2
 have g3:w.drew.frozen? ⟨B,o+k*5+3,none⟩=false:=f3
 have g4:w.drew.frozen? ⟨B,o+k*5+4,none⟩=false:=f4
 change wpList _ _ _ _ _ w.drew
 generalize w.drew=w2 at *
 go_wp2
 exact hQ _ rfl rfl rfl rfl rfl rfl
set_option maxRecDepth 100000 in
set_option maxHeartbeats 4000000 in
theorem zGn {m:Array Value}{c3 B o n k cap:Nat}{D:Value}{w:World} (hk:k≤n) (hc:n≤cap) (h30:w.cell? ⟨c3,0,none⟩=some D) (h31:w.cell? ⟨c3,1,none⟩=some (.slice (some ⟨B,o,none⟩) n cap)) (f1:w.frozen? ⟨c3,1,none⟩=false) (hs:m.size=110) (m3:m.getD 3 undef=.pointer (some ⟨c3,0,none⟩)) (m7:m.getD 7 undef=.int .i64 (k:Int)) (Q:Exit→Act→World→Prop) (hQ:∀a':Act,a'.defers=[]→a'.tmps.size=110→a'.tmps.getD 0 undef=m.getD 0 undef→a'.tmps.getD 2 undef=m.getD 2 undef→a'.tmps.getD 3 undef=.pointer (some ⟨c3,0,none⟩)→a'.tmps.getD 7 undef=.int .i64 (k:Int)→Q .normal a' (w.setCell ⟨c3,1,none⟩ (.slice (some ⟨B,o,none⟩) k cap))) :
 R7.wp Tryz.prog Q {tmps:=m,defers:=[]} w:=by
 have e:=zlr hs
 rw[show sM m 3=_ from m3,show sM m 7=_ from m7] at e;rw[e];clear e;unfold R7
 go_wp2
 exact hQ _ rfl rfl rfl rfl rfl rfl
set_option maxRecDepth 100000 in
set_option maxHeartbeats 4000000 in
theorem zGr {m:Array Value}{k:Nat}{w:World} (hk:k≤100) (hs:m.size=110) (m7:m.getD 7 undef=.int .i64 (k:Int)) (Q:Exit→Act→World→Prop) (hQ:∀a':Act,a'.defers=[]→a'.tmps.size=110→a'.tmps.getD 0 undef=m.getD 0 undef→a'.tmps.getD 2 undef=m.getD 2 undef→a'.tmps.getD 3 undef=m.getD 3 undef→a'.tmps.getD 8 undef=.int .i64 ((k:Int)-1)→Q .normal a' (w)) :
 R8.wp Tryz.prog Q {tmps:=m,defers:=[]} w:=by
 have e:=zlr hs
 rw[show sM m 7=_ from m7] at e;rw[e];clear e;unfold R8
 go_wp2
 exact hQ _ rfl rfl rfl rfl rfl rfl
set_option maxRecDepth 100000 in
set_option maxHeartbeats 4000000 in
theorem zHb {m:Array Value}{k:Int}{w:World} (hk:-1≤k) (hk2:k≤100) (hs:m.size=110) (m8:m.getD 8 undef=.int .i64 k) (Q:Exit→Act→World→Prop) (hQ:∀a':Act,a'.defers=[]→a'.tmps.size=110→a'.tmps.getD 0 undef=m.getD 0 undef→a'.tmps.getD 2 undef=m.getD 2 undef→a'.tmps.getD 3 undef=m.getD 3 undef→a'.tmps.getD 8 undef=.int .i64 k→a'.tmps.getD 84 undef=.bool (decide (0≤k))→Q .normal a' (w)) :
 R9.wp Tryz.prog Q {tmps:=m,defers:=[]} w:=by
 have e:=zlr hs
 rw[show sM m 8=_ from m8] at e;rw[e];clear e;unfold R9
 go_wp2
 exact hQ _ rfl rfl rfl rfl rfl rfl rfl
set_option maxRecDepth 100000 in
set_option maxHeartbeats 4000000 in
theorem zFq {m:Array Value}{k:Int}{w:World} (hk:-1≤k) (hk2:k≤100) (hs:m.size=110) (m8:m.getD 8 undef=.int .i64 k) (Q:Exit→Act→World→Prop) (hQ:∀a':Act,a'.defers=[]→a'.tmps.size=110→a'.tmps.getD 0 undef=m.getD 0 undef→a'.tmps.getD 2 undef=m.getD 2 undef→a'.tmps.getD 3 undef=m.getD 3 undef→a'.tmps.getD 8 undef=.int .i64 (k-1)→Q .normal a' (w)) :
 R10.wp Tryz.prog Q {tmps:=m,defers:=[]} w:=by
 have e:=zlr hs
 rw[show sM m 8=_ from m8] at e;rw[e];clear e;unfold R10
 go_wp2
 exact hQ _ rfl rfl rfl rfl rfl rfl
set_option maxRecDepth 100000 in
set_option maxHeartbeats 4000000 in
theorem zFA {m:Array Value}{c3 B o n cap:Nat}{D1:Option Addr}{d1 d2:Nat}{w:World}{k:Int}{post:Int→Int→Option Addr→Nat→Nat→World→Prop} (h30:w.cell? ⟨c3,0,none⟩=some (.slice D1 d1 d2)) (h31:w.cell? ⟨c3,1,none⟩=some (.slice (some ⟨B,o,none⟩) n cap)) (hcall:Calls Tryz.prog 85 #[(m.getD 0 undef),.agg #[.slice D1 d1 d2,.slice (some ⟨B,o,none⟩) n cap],.int .i64 k] w fun e w'=>∃e0 e1 A3 l3 k3,e=.returned (.agg #[.int .i64 e0,.int .i64 e1,.slice A3 l3 k3])∧post e0 e1 A3 l3 k3 w') (hs:m.size=110) (m3:m.getD 3 undef=.pointer (some ⟨c3,0,none⟩)) (m8:m.getD 8 undef=.int .i64 k) (Q:Exit→Act→World→Prop) (hQ:∀e0 e1 A3 l3 k3 w',post e0 e1 A3 l3 k3 w'→∀a':Act,a'.defers=[]→a'.tmps.size=110→a'.tmps.getD 0 undef=m.getD 0 undef→a'.tmps.getD 2 undef=m.getD 2 undef→a'.tmps.getD 3 undef=.pointer (some ⟨c3,0,none⟩)→a'.tmps.getD 8 undef=.int .i64 k→a'.tmps.getD 9 undef=.pointer (some ⟨w'.heap.size,0,none⟩)→Q .normal a' (w'.alloc (.cells #[.int .i64 e0,.int .i64 e1,.slice A3 l3 k3] 35))) :
 R11.wp Tryz.prog Q {tmps:=m,defers:=[]} w:=by
 have e:=zlr hs
 rw[show sM m 3=_ from m3,show sM m 8=_ from m8] at e;rw[e];clear e;unfold R11
 go_wp2_with fail
 refine hcall.mono ?_
 rintro e w' ⟨e0,e1,A3,l3,k3,rfl,hp⟩
 go_wp2
 exact hQ _ _ _ _ _ _ hp _ rfl rfl rfl rfl rfl rfl rfl
set_option maxRecDepth 100000 in
set_option maxHeartbeats 4000000 in
theorem zEH {m:Array Value}{c2 c3 B o n cap:Nat}{D1:Option Addr}{d1 d2:Nat}{w:World}{z0 z1:Value} (h30:w.cell? ⟨c3,0,none⟩=some (.slice D1 d1 d2)) (h31:w.cell? ⟨c3,1,none⟩=some (.slice (some ⟨B,o,none⟩) n cap)) (h20:w.cell? ⟨c2,0,none⟩=some z0) (h21:w.cell? ⟨c2,1,none⟩=some z1) (f0:w.frozen? ⟨c2,0,none⟩=false) (f1:w.frozen? ⟨c2,1,none⟩=false) (hne:c3≠c2) (hs:m.size=110) (m2:m.getD 2 undef=.pointer (some ⟨c2,0,none⟩)) (m3:m.getD 3 undef=.pointer (some ⟨c3,0,none⟩)) (R:Ending→World→Prop) (hQ:R (.returned (.agg #[.slice D1 d1 d2,.slice (some ⟨B,o,none⟩) n cap])) ((w.setCell ⟨c2,0,none⟩ (.slice D1 d1 d2)).setCell ⟨c2,1,none⟩ (.slice (some ⟨B,o,none⟩) n cap))):(Code.seq R13 .ret).wp Tryz.prog (bodyPost Tryz.prog Tryz.f50 R) {tmps:=m,defers:=[]} w:=by
 have e:=zlr hs
 rw[show sM m 2=_ from m2,show sM m 3=_ from m3] at e;rw[e];clear e;unfold R13
 go_wp2
 have g0:((w.setCell ⟨c2,0,none⟩ (.slice D1 d1 d2)).setCell ⟨c2,1,none⟩ (.slice (some ⟨B,o,none⟩) n cap)).cell? ⟨c2,0,none⟩=some (.slice D1 d1 d2):=by
  have hn:(⟨c2,1,none⟩:Addr)≠⟨c2,0,none⟩:=by simp
  rw[World.cell?_setCell_other (h:=hn)];exact World.cell?_setCell_same _ _ _ h20
 have g1:((w.setCell ⟨c2,0,none⟩ (.slice D1 d1 d2)).setCell ⟨c2,1,none⟩ (.slice (some ⟨B,o,none⟩) n cap)).cell? ⟨c2,1,none⟩=some (.slice (some ⟨B,o,none⟩) n cap):=by
  have hn:(⟨c2,0,none⟩:Addr)≠⟨c2,1,none⟩:=by simp
  refine World.cell?_setCell_same _ _ _ (u:=z1) ?_
  rw[World.cell?_setCell_other (h:=hn)];exact h21
 refine bodyPost_ret (v:=.agg #[.slice D1 d1 d2,.slice (some ⟨B,o,none⟩) n cap]) ?_ rfl hQ
 rw[zvv rfl]
 go_simp
end
section
open Go
def sg0 (ps:List Int) (r:Int):PM:=⟨ps,r,0,0,[]⟩
theorem zhY (ps:List Int) (r:Int):zb3 [.cell (.sl 1 (zae ps)),.cell (.int r)]=some (.v (.agg [.sl 1 (zae ps),.int r,.int 0,.int 0,.sl 3 []])):=zwn rfl
def oneL:List PM:=[sg0 [1] 0,sg0 [1,1] 1,sg0 [1] 1,sg0 [1,0] 1,sg0 [2,1] 1,sg0 [1,1] 0]
def twoL:List PM:=[sg0 [3] 0,sg0 [0] 1,sg0 [0,1] 1,sg0 [3,0] 3,sg0 [3] 1,sg0 [1,3,0] 0]
def thrL:List PM:=[sg0 [0] 0,sg0 [0,0] 0,sg0 [1,0] 0,sg0 [0] 1]
def zmx (i j k:Nat):List PM:=[sg0 [] 0,oneL.getD i default,twoL.getD j default,thrL.getD k default]
theorem zBR:∀i<6,∀j<6,∀k<4,((zmx i j k).all fun x=>sigL.contains (x.ps,x.r)&&x.kids.isEmpty&&x.o==0&&x.n==0)=true:=by decide
theorem zCR:∀i<6,(zao oneL).getD i []=pmC (oneL.getD i default):=fun i h=>by
 rcases(by omega:i=0∨i=1∨i=2∨i=3∨i=4∨i=5) with rfl|rfl|rfl|rfl|rfl|rfl <;> rfl
theorem zCT:∀i<6,(zao twoL).getD i []=pmC (twoL.getD i default):=fun i h=>by
 rcases(by omega:i=0∨i=1∨i=2∨i=3∨i=4∨i=5) with rfl|rfl|rfl|rfl|rfl|rfl <;> rfl
theorem zEo:∀i<4,(zao thrL).getD i []=pmC (thrL.getD i default):=fun i h=>by
 rcases(by omega:i=0∨i=1∨i=2∨i=3) with rfl|rfl|rfl|rfl <;> rfl
section
variable {ns:List Nat} (hns:ns.length≤2000)
include hns
set_option maxRecDepth 8000 in
theorem zEe {p:Nat} (hp:p+10≤1000000):∃D∈zdN,∃i j k n:Nat,i<6∧j<6∧k<4∧2≤n∧n≤4 ∧
  evT zAE 100000 (.run (zj9 zsA .skip)) [] [(0,.und)] (Qr ns p)=some (.tup [.agg [.sl 3 [],.sl 5 []],.agg [.sl 3 (zag D),.sl 5 (zao (zmx i j k))],.cell (.int (n:Int))],Qr ns (p+5)):=by
 obtain⟨D,hD,h0⟩:=zql hns (p:=p) (by omega)
 obtain⟨i,hi,h1⟩:=zbM hns (p:=p+1) (by omega) (m:=6) (by omega)
 obtain⟨j,hj,h2⟩:=zbM hns (p:=p+2) (by omega) (m:=6) (by omega)
 obtain⟨k,hk,h3⟩:=zbM hns (p:=p+3) (by omega) (m:=4) (by omega)
 obtain⟨x,hx,h4⟩:=zlY hns (p:=p+4) (by omega) (xs:=[4,4,3,2,4]) (by simp) (by simp)
 have hx':2≤x∧x≤4:=by
  simp only[List.mem_cons,List.not_mem_nil,or_false] at hx;omega
 obtain⟨n,rfl⟩:∃n:Nat,x=(n:Int):=⟨x.toNat,by omega⟩
 refine⟨D,hD,i,j,k,n,hi,hj,hk,by omega,by omega,zFu (zkO h0 ?_)⟩
 refine callFunc (zhY [1] 0) (callFunc (zhY [1,1] 1) (callFunc (zhY [1] 1) ?_))
 refine callFunc (zhY [1,0] 1) (callFunc (zhY [2,1] 1) (callFunc (zhY [1,1] 0) ?_))
 refine callFunc (zhY [3] 0) (callFunc (zhY [0] 1) (callFunc (zhY [0,1] 1) ?_))
 refine callFunc (zhY [3,0] 3) (callFunc (zhY [3] 1) (callFunc (zhY [1,3,0] 0) ?_))
 refine callFunc (zhY [0] 0) (callFunc (zhY [0,0] 0) (callFunc (zhY [1,0] 0) ?_))
 refine callFunc (zhY [0] 1) (callFunc (zhY [] 0) ?_)
 refine zal h1 (zuF (rows:=zao oneL) (k:=i) hi (zCR i hi) ?_)
 refine zal h2 (zuF (rows:=zao twoL) (k:=j) hj (zCT j hj) ?_)
 exact zal h3 (zuF (rows:=zao thrL) (k:=k) hk (zEo k hk) (zal h4 rfl))
end
end
section
open Go Go.RowKit
theorem vok:zbg Tryz.prog sig (V Tryz.prog lay sig.has ext):=zG8 zh3 zvd zvm (fun _ hC=>zr5 ze1 zh3 hC)
theorem tok:zdl Tryz.prog sig tt (TV Tryz.prog lay tt (V Tryz.prog lay sig.has ext) zgA):=zGu ze1 zh3 vok zxE
structure GP (w0:World) (p0:Stb) (b c2 c3 B o cap:Nat) (D:List DM) (R:List PM) (q:List AC) (p:Stb) (w:World) (m:Array Value):Prop where
 size:m.size=110
 m0:m.getD 0 undef=zbl b
 m2:m.getD 2 undef=.pointer (some ⟨c2,0,none⟩)
 m3:m.getD 3 undef=.pointer (some ⟨c3,0,none⟩)
 x2:∃z0 z1 T,w.heap[c2]?=some (.cells #[z0,z1] T (0,0))
 x3:∃D1 d1 d2 T,w.heap[c3]?=some (.cells #[.slice D1 d1 d2,.slice (some ⟨B,o,none⟩) R.length cap] T (0,0))∧Rep p w (.slice D1 d1 d2) (.sl 3 (zag D))
 xB:∃a T,w.heap[B]?=some (.cells a T (0,0))∧o+R.length*5≤a.size∧o+cap*5≤a.size
 rep:Rep p w (.slice (some ⟨B,o,none⟩) R.length cap) (.sl 5 (zao R))
 z2:p c2=0
 z3:p c3=0
 n23:c2≠c3
 n2B:c2≠B
 n3B:c3≠B
 n2b:c2≠b
 n3b:c3≠b
 g2:w0.heap.size≤c2
 g3:w0.heap.size≤c3
 gB:w0.heap.size≤B
 gb:b<w0.heap.size
 uq:∀j,p.ok B j→j=5
 okB:p.ok B 5
 tk:TK p w (fun _=>False) b q
 zp:Zp p w
 evo:Evo (·=b) p0 w0 p w
 hD:D∈zdN
 hR:GR R
 fit:∀x∈R,Fit .expr [.int x.o,.int x.n,.sl 3 x.kids]
section
variable {w0 w w':World}{p0 p p':Stb}{b c2 c3 B o cap:Nat}{D:List DM}{R:List PM}{q q':List AC}{m m':Array Value}
theorem GP.slots (h:GP w0 p0 b c2 c3 B o cap D R q p w m) (hs:m'.size=110) (h0:m'.getD 0 undef=m.getD 0 undef) (h2:m'.getD 2 undef=m.getD 2 undef) (h3:m'.getD 3 undef=.pointer (some ⟨c3,0,none⟩)):GP w0 p0 b c2 c3 B o cap D R q p w m' :=
 {h with size:=hs,m0:=h0.trans h.m0,m2:=h2.trans h.m2,m3:=h3}
theorem zbc {w:World}{c:Nat}{x:Obj} (h:w.heap[c]?=some x):c<w.heap.size:=(Array.getElem?_eq_some_iff.1 h).1
theorem GP.lt2 (h:GP w0 p0 b c2 c3 B o cap D R q p w m):c2<w.heap.size:=by obtain⟨_,_,_,h⟩:=h.x2;exact zbc h
theorem GP.lt3 (h:GP w0 p0 b c2 c3 B o cap D R q p w m):c3<w.heap.size:=by obtain⟨_,_,_,_,h,_⟩:=h.x3;exact zbc h
theorem GP.ltB (h:GP w0 p0 b c2 c3 B o cap D R q p w m):B<w.heap.size:=by obtain⟨_,_,h,_⟩:=h.xB;exact zbc h
theorem GP.on (h:GP w0 p0 b c2 c3 B o cap D R q p w m) (hev:Evo (·=b) p w p' w') (hz:Zp p' w') (ht:TK p' w' (fun _=>False) b q'):GP w0 p0 b c2 c3 B o cap D R q' p' w' m:=by
 have nBb:B≠b:=fun e=>by have:=h.gB;have:=h.gb;omega
 refine {h with x2:=?_,x3:=?_,xB:=?_,rep:=h.rep.evo hev,z2:=(hev.same c2 h.lt2 h.n2b).trans h.z2,z3:=(hev.same c3 h.lt3 h.n3b).trans h.z3,uq:=fun j hj=>h.uq j (by rw[←hev.okk B h.ltB];exact hj),okB:=by rw[hev.okk B h.ltB];exact h.okB,tk:=ht,zp:=hz,evo:=h.evo.trans hev (fun _ _ e=>e) (fun _ _ e=>e)}
 ·rw[hev.block c2 h.lt2 h.n2b];exact h.x2
 ·rw[hev.block c3 h.lt3 h.n3b]
  obtain⟨D1,d1,d2,T,h1,h2⟩:=h.x3;exact⟨D1,d1,d2,T,h1,h2.evo hev⟩
 ·rw[hev.block B h.ltB nBb];exact h.xB
theorem ztN {x:PM} (h:Fit .expr [.int x.o,.int x.n,.sl 3 x.kids]):apL 5 (pmC x)=true:=by
 have h1:=zxU h
 simp only[apL,apC,Bool.and_true,Bool.true_and] at h1;simp only[pmC,apL,apC,Bool.and_true,Bool.true_and,zrf];exact h1
theorem zyc:∀D∈zdN,apC 5 (.sl 3 (zag D))=true:=by decide
theorem GP.cells3 (h:GP w0 p0 b c2 c3 B o cap D R q p w m):∃D1 d1 d2,w.cell? ⟨c3,0,none⟩=some (.slice D1 d1 d2)∧w.cell? ⟨c3,1,none⟩=some (.slice (some ⟨B,o,none⟩) R.length cap)∧Rep p w (.slice D1 d1 d2) (.sl 3 (zag D)):=by
 obtain⟨D1,d1,d2,T,h1,h2⟩:=h.x3;exact⟨D1,d1,d2,by simp[World.cell?,h1],by simp[World.cell?,h1],h2⟩
theorem GP.put (h:GP w0 p0 b c2 c3 B o cap D R q p w m) {ns:List Nat}{pos:Nat} (hq:q=Qr ns pos) {k:Nat} (hk:k<R.length) {A0 A3:Option Addr}{l0 k0 l3 k3:Nat}{e0 e1:Int}{kids:List (List AC)}
  (hps:Rep p w (.slice A0 l0 k0) (.sl 1 (zae (gP R k).ps))) (hkids:Rep p w (.slice A3 l3 k3) (.sl 3 kids)) (hf:Fit .expr [.int e0,.int e1,.sl 3 kids]) :
  GP w0 p0 b c2 c3 B o cap D (R.set k ⟨(gP R k).ps,(gP R k).r,e0,e1,kids⟩) q p (zkd w B (o+k*5) (.slice A0 l0 k0) (.int .i64 (gP R k).r) (.int .i64 e0) (.int .i64 e1) (.slice A3 l3 k3)) m:=by
 subst hq;obtain⟨a,T,hB,hs,hsc⟩:=h.xB;have nBb:B≠b:=fun e=>by have:=h.gB;have:=h.gb;omega
 have hlen:(R.set k ⟨(gP R k).ps,(gP R k).r,e0,e1,kids⟩).length=R.length:=by simp
 have hev:=zsk (w:=w) (B:=B) (o:=o+k*5) (x0:=.slice A0 l0 k0) (x1:=.int .i64 (gP R k).r) (x2:=.int .i64 e0) (x3:=.int .i64 e1) (x4:=.slice A3 l3 k3) (raP p B 0) (by rw[zgQ,if_pos rfl])
 have hex:=zxU hf
 have hrow:=zvA (o:=o) (k:=k) hB hs h.uq h.rep (fun r hr=>by
  simp only[zao,List.mem_map] at hr;obtain⟨x,hx,rfl⟩:=hr;exact ztN (h.fit x hx)) (by simpa [zao] using hk) (x0:=.slice A0 l0 k0) (x1:=.int .i64 (gP R k).r) (x2:=.int .i64 e0) (x3:=.int .i64 e1) (x4:=.slice A3 l3 k3) (c0:=.sl 1 (zae (gP R k).ps)) (c1:=.int (gP R k).r) (c2:=.int e0) (c3:=.int e1) (c4:=.sl 3 kids) ⟨hps,.int _,.int _,.int _,hkids,trivial⟩
  (by
   simp only[apL,apC,Bool.and_true,Bool.true_and] at hex;simp only[apL,apC,Bool.and_true,Bool.true_and,zrf];exact hex)
 refine {h with x2:=?_,x3:=?_,xB:=?_,rep:=?_,tk:=?_,zp:=⟨fun c hc=>h.zp.1 c (by rw[zdC] at hc;exact hc),fun c hc=>h.zp.2 c (by rw[zdC] at hc;exact hc)⟩,evo:=?_,hR:=?_,fit:=?_}
 ·rw[zcW h.n2B];exact h.x2
 ·rw[zcW h.n3B,hlen]
  obtain⟨D1,d1,d2,T,h1,h2⟩:=h.x3;exact⟨D1,d1,d2,T,h1,zkp h.uq hev h2 (zyc D h.hD)⟩
 ·rw[hlen]
  exact⟨_,T,zpk hB,by simpa using hs,by simpa using hsc⟩
 ·rw[hlen]
  have e:zao (R.set k ⟨(gP R k).ps,(gP R k).r,e0,e1,kids⟩)=(zao R).set k [.sl 1 (zae (gP R k).ps),.int (gP R k).r,.int e0,.int e1,.sl 3 kids]:=by
   simp[zao,List.map_set,pmC]
  rw[e];exact hrow
 ·obtain⟨a1,T1,g1,g2⟩:=h.tk.cells
  refine⟨h.tk.not,by rw[zdC];exact h.tk.lt,h.tk.pz,a1,T1,by rw[zcW (fun e=>nBb e.symm)];exact g1,?_⟩
  match hl:a1.toList,g2 with
  | [v0,v1],⟨r0,r1,_⟩ =>
   refine⟨zs4 h.uq h.okB (by omega) hev r0,?_,trivial⟩
   rcases r1 with r1|⟨_,_,_,_,_,_,_,e,_⟩
   ·exact .inl (zkp h.uq hev r1 rfl)
   ·cases e
 ·have he:=h.evo
  refine⟨by simpa [zkd,World.setCell] using he.os,by simpa [zkd,World.setCell] using he.tape,by simpa [zkd,World.setCell] using he.output,by rw[zdC];exact he.size,fun c hc hn=>?_,he.keepP,he.same,fun c x hc hx=>?_,he.okk,fun c h1 h2=>he.uq c h1 (by rw[zdC] at h2;exact h2)⟩
  ·exact(zcW (Nat.ne_of_lt (Nat.lt_of_lt_of_le hc h.gB))).trans (he.block c hc hn)
  ·exact(World.cell?_of_block (w:=w) (zcW (Nat.ne_of_lt (Nat.lt_of_lt_of_le hc h.gB)))).trans (he.stable c x hc hx)
 ·refine⟨by rw[hlen];exact h.hR.len,fun x hx=>?_⟩
  rcases List.mem_or_eq_of_mem_set hx with hx|rfl
  ·exact h.hR.sg x hx
  ·exact h.hR.at hk
 ·intro x hx
  rcases List.mem_or_eq_of_mem_set hx with hx|rfl
  ·exact h.fit x hx
  ·exact hf
end
end
end Go.Proofs.YtkgbadeobdbinaaGreat

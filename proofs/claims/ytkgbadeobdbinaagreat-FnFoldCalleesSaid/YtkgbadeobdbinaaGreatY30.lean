/- Generic texts and models for the proofs of this seat: part 30. -/
import Derived.Test.YtkgbadeobdbinaaGreatY29
import Derived.WalkKit
set_option linter.unusedVariables false
set_option linter.unusedSimpArgs false
namespace Go.Proofs.YtkgbadeobdbinaaGreat
section
open Go Go.RowKit
def B0:Code:=.region 0 #[⟨some 3,.box 35 (.tmp 1),0,"l30_generate.go:426",#[],none⟩,⟨some 4,.alloc 35,0,"l30_generate.go:426",#[],none⟩] false
def B1:Code:=.region 1 #[⟨some 7,.fieldAddr 35 (.tmp 3) 2,0,"l30_generate.go:427",#[],none⟩,⟨some 8,.load 33 (.tmp 7),33,"l30_generate.go:427",#[⟨0,.data⟩],none⟩,⟨some 9,.call ⟨.builtin .len,#[.tmp 8],#[33]⟩,3,"l30_generate.go:427",#[⟨1,.data⟩],none⟩,⟨some 10,.binOp .gtr 3 (.tmp 9) (.const (.int .i64 0)) 3,4,"l30_generate.go:427",#[⟨2,.data⟩],none⟩,⟨some 11,.move (.tmp 10),4,"l30_generate.go:427",#[⟨3,.data⟩],none⟩,⟨some 12,.move (.tmp 0),48,"l30_generate.go:427",#[⟨4,.guard⟩],some (4,true)⟩,⟨some 13,.call ⟨.value (.func 79),#[.tmp 12,.const (.int .i64 3)],#[48,3]⟩,3,"l30_generate.go:427",#[⟨5,.data⟩,⟨4,.chain⟩,⟨4,.guard⟩],some (4,true)⟩,⟨some 14,.binOp .gtr 3 (.tmp 13) (.const (.int .i64 0)) 3,4,"l30_generate.go:427",#[⟨6,.data⟩,⟨4,.guard⟩],some (4,true)⟩,⟨some 15,.pick (.tmp 11) (.tmp 14) (.const (.bool false)),4,"l30_generate.go:427",#[⟨4,.data⟩,⟨7,.data⟩],none⟩] false
def B2:Code:=.region 2 #[⟨some 16,.fieldAddr 35 (.tmp 3) 2,0,"l30_generate.go:428",#[],none⟩,⟨some 17,.load 33 (.tmp 16),33,"l30_generate.go:428",#[⟨0,.data⟩],none⟩,⟨some 18,.call ⟨.value (.func 56),#[.tmp 17],#[33]⟩,33,"l30_generate.go:428",#[⟨1,.data⟩],none⟩,⟨some 5,.assign (.tmp 18),33,"l30_generate.go:428",#[⟨2,.data⟩,⟨2,.chain⟩,⟨0,.phase⟩,⟨1,.phase⟩,⟨2,.phase⟩],none⟩] false
def B3:Code:=.region 3 #[⟨some 19,.move (.tmp 0),48,"l30_generate.go:429",#[],none⟩,⟨some 20,.move (.tmp 5),33,"l30_generate.go:429",#[],none⟩,⟨some 21,.call ⟨.builtin .len,#[.tmp 20],#[33]⟩,3,"l30_generate.go:429",#[⟨1,.data⟩],none⟩,⟨some 22,.call ⟨.value (.func 79),#[.tmp 19,.tmp 21],#[48,3]⟩,3,"l30_generate.go:429",#[⟨0,.data⟩,⟨2,.data⟩],none⟩,⟨some 6,.assign (.tmp 22),3,"l30_generate.go:429",#[⟨3,.data⟩,⟨3,.chain⟩,⟨0,.phase⟩,⟨1,.phase⟩,⟨2,.phase⟩,⟨3,.phase⟩],none⟩] false
def B4:Code:=.region 4 #[⟨some 23,.move (.tmp 5),33,"l30_generate.go:430",#[],none⟩,⟨some 24,.move (.tmp 6),3,"l30_generate.go:430",#[],none⟩,⟨some 25,.move (.tmp 0),48,"l30_generate.go:430",#[],none⟩,⟨some 26,.move (.tmp 5),33,"l30_generate.go:430",#[],none⟩,⟨some 27,.move (.tmp 6),3,"l30_generate.go:430",#[],none⟩,⟨some 28,.indexAddr 33 (.tmp 26) (.tmp 27),0,"l30_generate.go:430",#[⟨3,.data⟩,⟨4,.data⟩],none⟩,⟨some 29,.load 35 (.tmp 28),35,"l30_generate.go:430",#[⟨5,.data⟩],none⟩,⟨some 30,.call ⟨.value (.func 80),#[.tmp 25,.tmp 29],#[48,35]⟩,35,"l30_generate.go:430",#[⟨2,.data⟩,⟨6,.data⟩],none⟩,⟨some 31,.indexAddr 33 (.tmp 23) (.tmp 24),0,"l30_generate.go:430",#[⟨0,.data⟩,⟨1,.data⟩,⟨0,.phase⟩,⟨1,.phase⟩,⟨2,.phase⟩,⟨3,.phase⟩,⟨4,.phase⟩,⟨5,.phase⟩,⟨6,.phase⟩,⟨7,.phase⟩],none⟩,⟨none,.store 35 (.tmp 31) (.tmp 30),0,"l30_generate.go:430",#[⟨8,.data⟩,⟨7,.data⟩,⟨7,.chain⟩,⟨0,.phase⟩,⟨1,.phase⟩,⟨2,.phase⟩,⟨3,.phase⟩,⟨4,.phase⟩,⟨5,.phase⟩,⟨6,.phase⟩,⟨7,.phase⟩],none⟩] false
def B5:Code:=.region 5 #[⟨some 32,.fieldAddr 35 (.tmp 3) 0,0,"l30_generate.go:431",#[],none⟩,⟨some 33,.load 3 (.tmp 32),3,"l30_generate.go:431",#[⟨0,.data⟩],none⟩,⟨some 34,.fieldAddr 35 (.tmp 3) 1,0,"l30_generate.go:431",#[],none⟩,⟨some 35,.load 3 (.tmp 34),3,"l30_generate.go:431",#[⟨2,.data⟩],none⟩,⟨some 36,.move (.tmp 5),33,"l30_generate.go:431",#[],none⟩,⟨some 37,.call ⟨.value (.func 112),#[.tmp 33,.tmp 35,.tmp 36],#[3,3,33]⟩,35,"l30_generate.go:431",#[⟨1,.data⟩,⟨3,.data⟩,⟨4,.data⟩],none⟩,⟨none,.store 35 (.tmp 4) (.tmp 37),0,"l30_generate.go:431",#[⟨5,.data⟩,⟨5,.chain⟩,⟨0,.phase⟩,⟨1,.phase⟩,⟨2,.phase⟩,⟨3,.phase⟩,⟨4,.phase⟩,⟨5,.phase⟩],none⟩] false
set_option maxRecDepth 100000 in
theorem zEq:cOf Tryz.f80=.seq B0 (.seq (.seq B1 (.cond (.tmp 15) (.seq B2 (.seq B3 (.seq B4 (.seq B5 .ret)))) .skip)) (zgO 2 (cOf Tryz.f80))):=by kernel_rfl
set_option maxRecDepth 100000 in
theorem znQ {m:Array Value} (h:m.size=85):m=List.toArray (sM m 0::sM m 1::sM m 2::sM m 3::sM m 4::sM m 5::sM m 6::sM m 7::sM m 8::sM m 9::sM m 10::sM m 11::sM m 12::sM m 13::sM m 14::sM m 15::sM m 16::sM m 17::sM m 18::sM m 19::sM m 20::sM m 21::sM m 22::sM m 23::sM m 24::sM m 25::sM m 26::sM m 27::sM m 28::sM m 29::sM m 30::sM m 31::sM m 32::sM m 33::sM m 34::sM m 35::sM m 36::sM m 37::sM m 38::sM m 39::sM m 40::sM m 41::sM m 42::sM m 43::sM m 44::sM m 45::sM m 46::sM m 47::sM m 48::sM m 49::sM m 50::sM m 51::sM m 52::sM m 53::sM m 54::sM m 55::sM m 56::sM m 57::sM m 58::sM m 59::sM m 60::sM m 61::sM m 62::sM m 63::sM m 64::sM m 65::sM m 66::sM m 67::sM m 68::sM m 69::sM m 70::sM m 71::sM m 72::sM m 73::sM m 74::sM m 75::sM m 76::sM m 77::sM m 78::sM m 79::sM m 80::sM m 81::sM m 82::sM m 83::sM m 84::[]):=by
 apply Array.ext'
 have h1:m.toList=(List.range 85).map (fun i=>m.getD i undef):=by
  apply List.ext_getElem
  ·simp[h]
  ·intro i h1 h2
   simp only[Array.length_toList] at h1;simp[Array.getD,h1]
 exact h1.trans rfl
set_option maxRecDepth 100000 in
set_option maxHeartbeats 4000000 in
theorem zGz {m:Array Value}{e0 e1:Int}{A:Option Addr}{n c:Nat}{w:World}  (hs:m.size=85) (m1:m.getD 1 undef=.agg #[.int .i64 e0,.int .i64 e1,.slice A n c]) (Q:Exit→Act→World→Prop) (hQ:∀a':Act,a'.defers=[]→a'.tmps.size=85→a'.tmps.getD 0 undef=m.getD 0 undef→a'.tmps.getD 3 undef=.pointer (some ⟨w.heap.size,0,none⟩)→a'.tmps.getD 4 undef=.pointer (some ⟨w.heap.size+1,0,none⟩)→Q .normal a' ((w.alloc (.cells #[.int .i64 e0,.int .i64 e1,.slice A n c] 35)).alloc (.cells #[.int .i64 0,.int .i64 0,.slice none 0 0] 35))) :
 B0.wp Tryz.prog Q {tmps:=m,defers:=[]} w:=by
 have e:=znQ hs
 rw[show sM m 1=_ from m1] at e;rw[e];clear e;unfold B0
 go_wp2
 exact hQ _ rfl rfl rfl rfl rfl
set_option maxRecDepth 100000 in
set_option maxHeartbeats 4000000 in
theorem zFd {m:Array Value}{c3 c:Nat}{A:Option Addr}{w:World} (h32:w.cell? ⟨c3,2,none⟩=some (.slice A 0 c)) (hs:m.size=85) (m3:m.getD 3 undef=.pointer (some ⟨c3,0,none⟩)) (Q:Exit→Act→World→Prop) (hQ:∀a':Act,a'.defers=[]→a'.tmps.size=85→a'.tmps.getD 0 undef=m.getD 0 undef→a'.tmps.getD 3 undef=.pointer (some ⟨c3,0,none⟩)→a'.tmps.getD 4 undef=m.getD 4 undef→a'.tmps.getD 15 undef=.bool false→Q .normal a' (w)) :
 B1.wp Tryz.prog Q {tmps:=m,defers:=[]} w:=by
 have e:=znQ hs
 rw[show sM m 3=_ from m3] at e;rw[e];clear e;unfold B1
 go_wp2
 exact hQ _ rfl rfl rfl rfl rfl rfl
set_option maxRecDepth 100000 in
set_option maxHeartbeats 4000000 in
theorem zGK {m:Array Value}{c3 n c:Nat}{A:Option Addr}{w:World}{post:Nat→World→Prop} (hn:0<n) (hn2:n≤1048576) (h32:w.cell? ⟨c3,2,none⟩=some (.slice A n c)) (hcall:Calls Tryz.prog 79 #[(m.getD 0 undef),.int .i64 3] w fun e w'=>∃x:Nat,e=.returned (.int .i64 (x:Int))∧post x w') (hs:m.size=85) (m3:m.getD 3 undef=.pointer (some ⟨c3,0,none⟩)) (Q:Exit→Act→World→Prop) (hQ:∀(x:Nat) (w':World),post x w'→∀a':Act,a'.defers=[]→a'.tmps.size=85→a'.tmps.getD 0 undef=m.getD 0 undef→a'.tmps.getD 3 undef=.pointer (some ⟨c3,0,none⟩)→a'.tmps.getD 4 undef=m.getD 4 undef→a'.tmps.getD 15 undef=.bool (decide (0<x))→Q .normal a' (w')) :
 B1.wp Tryz.prog Q {tmps:=m,defers:=[]} w:=by
 have e:=znQ hs
 rw[show sM m 3=_ from m3] at e;rw[e];clear e;unfold B1;have hn3:(0:Int)<(n:Int):=by omega
 go_wp2_with fail
 refine hcall.mono ?_
 rintro e w' ⟨x,rfl,hp⟩
 go_wp2
 exact hQ _ _ hp _ rfl rfl rfl rfl rfl rfl
set_option maxRecDepth 100000 in
set_option maxHeartbeats 4000000 in
theorem zG6 {m:Array Value}{c3 n c:Nat}{A:Option Addr}{w:World}{post:Value→World→Prop} (h32:w.cell? ⟨c3,2,none⟩=some (.slice A n c)) (hcall:Calls Tryz.prog 56 #[.slice A n c] w fun e w'=>∃v,e=.returned v∧post v w') (hs:m.size=85) (m3:m.getD 3 undef=.pointer (some ⟨c3,0,none⟩)) (Q:Exit→Act→World→Prop) (hQ:∀(v:Value) (w':World),post v w'→∀a':Act,a'.defers=[]→a'.tmps.size=85→a'.tmps.getD 0 undef=m.getD 0 undef→a'.tmps.getD 3 undef=.pointer (some ⟨c3,0,none⟩)→a'.tmps.getD 4 undef=m.getD 4 undef→a'.tmps.getD 5 undef=v→Q .normal a' (w')) :
 B2.wp Tryz.prog Q {tmps:=m,defers:=[]} w:=by
 have e:=znQ hs
 rw[show sM m 3=_ from m3] at e;rw[e];clear e;unfold B2
 go_wp2_with fail
 refine hcall.mono ?_
 rintro e w' ⟨v,rfl,hp⟩
 go_wp2
 exact hQ _ _ hp _ rfl rfl rfl rfl rfl rfl
set_option maxRecDepth 100000 in
set_option maxHeartbeats 4000000 in
theorem zGW {m:Array Value}{n c:Nat}{A:Option Addr}{w:World}{post:Nat→World→Prop} (hcall:Calls Tryz.prog 79 #[(m.getD 0 undef),.int .i64 (n:Int)] w fun e w'=>∃x:Nat,e=.returned (.int .i64 (x:Int))∧post x w') (hs:m.size=85) (m5:m.getD 5 undef=.slice A n c) (Q:Exit→Act→World→Prop) (hQ:∀(x:Nat) (w':World),post x w'→∀a':Act,a'.defers=[]→a'.tmps.size=85→a'.tmps.getD 0 undef=m.getD 0 undef→a'.tmps.getD 3 undef=m.getD 3 undef→a'.tmps.getD 4 undef=m.getD 4 undef→a'.tmps.getD 5 undef=.slice A n c→a'.tmps.getD 6 undef=.int .i64 (x:Int)→Q .normal a' (w')) :
 B3.wp Tryz.prog Q {tmps:=m,defers:=[]} w:=by
 have e:=znQ hs
 rw[show sM m 5=_ from m5] at e;rw[e];clear e;unfold B3
 go_wp2_with fail
 refine hcall.mono ?_
 rintro e w' ⟨x,rfl,hp⟩
 go_wp2
 exact hQ _ _ hp _ rfl rfl rfl rfl rfl rfl rfl
set_option maxRecDepth 100000 in
set_option maxHeartbeats 4000000 in
theorem zGN {m:Array Value}{g n c k:Nat}{e0 e1:Int}{A:Option Addr}{l d:Nat}{w:World}{post:Int→Int→Option Addr→Nat→Nat→World→Prop} (hk:k<n) (hn:n≤1048576) (h0:w.cell? ⟨g,k*3,none⟩=some (.int .i64 e0)) (h1:w.cell? ⟨g,k*3+1,none⟩=some (.int .i64 e1)) (h2:w.cell? ⟨g,k*3+2,none⟩=some (.slice A l d)) (hcall:Calls Tryz.prog 80 #[(m.getD 0 undef),.agg #[.int .i64 e0,.int .i64 e1,.slice A l d]] w fun e w'=>∃x0 x1 A3 l3 k3,e=.returned (.agg #[.int .i64 x0,.int .i64 x1,.slice A3 l3 k3])∧post x0 x1 A3 l3 k3 w'∧w'.cell? ⟨g,k*3,none⟩=some (.int .i64 e0)∧w'.cell? ⟨g,k*3+1,none⟩=some (.int .i64 e1)∧w'.cell? ⟨g,k*3+2,none⟩=some (.slice A l d)∧w'.frozen? ⟨g,k*3,none⟩=false∧w'.frozen? ⟨g,k*3+1,none⟩=false∧w'.frozen? ⟨g,k*3+2,none⟩=false) (hs:m.size=85) (m5:m.getD 5 undef=.slice (some ⟨g,0,none⟩) n c) (m6:m.getD 6 undef=.int .i64 (k:Int)) (Q:Exit→Act→World→Prop) (hQ:∀x0 x1 A3 l3 k3 (w':World),post x0 x1 A3 l3 k3 w'→∀a':Act,a'.defers=[]→a'.tmps.size=85→a'.tmps.getD 0 undef=m.getD 0 undef→a'.tmps.getD 3 undef=m.getD 3 undef→a'.tmps.getD 4 undef=m.getD 4 undef→a'.tmps.getD 5 undef=.slice (some ⟨g,0,none⟩) n c→Q .normal a' (((w'.setCell ⟨g,k*3,none⟩ (.int .i64 x0)).setCell ⟨g,k*3+1,none⟩ (.int .i64 x1)).setCell ⟨g,k*3+2,none⟩ (.slice A3 l3 k3))) :
 B4.wp Tryz.prog Q {tmps:=m,defers:=[]} w:=by
 have e:=znQ hs
 rw[show sM m 5=_ from m5,show sM m 6=_ from m6] at e;rw[e];clear e;unfold B4
 go_wp2_with fail
 refine hcall.mono ?_
 rintro e w' ⟨x0,x1,A3,l3,k3,rfl,hp,g0,g1,g2,f0,f1,f2⟩
 clear h0 h1 h2
 go_wp2
 exact hQ _ _ _ _ _ _ hp _ rfl rfl rfl rfl rfl rfl
set_option maxRecDepth 100000 in
set_option maxHeartbeats 4000000 in
theorem zGH {m:Array Value}{c3 c4:Nat}{e0 e1:Int}{v:Value}{w:World}{post:Int→Int→Option Addr→Nat→Nat→World→Prop} (h30:w.cell? ⟨c3,0,none⟩=some (.int .i64 e0)) (h31:w.cell? ⟨c3,1,none⟩=some (.int .i64 e1)) (hcall:Calls Tryz.prog 112 #[.int .i64 e0,.int .i64 e1,v] w fun e w'=>∃x0 x1 A3 l3 k3,e=.returned (.agg #[.int .i64 x0,.int .i64 x1,.slice A3 l3 k3])∧post x0 x1 A3 l3 k3 w'∧(∃T,w'.heap[c4]?=some (.cells #[.int .i64 0,.int .i64 0,.slice none 0 0] T (0,0)))) (hs:m.size=85) (m3:m.getD 3 undef=.pointer (some ⟨c3,0,none⟩)) (m4:m.getD 4 undef=.pointer (some ⟨c4,0,none⟩)) (m5:m.getD 5 undef=v) (Q:Exit→Act→World→Prop) (hQ:∀x0 x1 A3 l3 k3 (w':World),post x0 x1 A3 l3 k3 w'→∀a':Act,a'.defers=[]→(results Tryz.f80 a'.tmps).run Tryz.prog (((w'.setCell ⟨c4,0,none⟩ (.int .i64 x0)).setCell ⟨c4,1,none⟩ (.int .i64 x1)).setCell ⟨c4,2,none⟩ (.slice A3 l3 k3))=.ok (.agg #[.int .i64 x0,.int .i64 x1,.slice A3 l3 k3]) (((w'.setCell ⟨c4,0,none⟩ (.int .i64 x0)).setCell ⟨c4,1,none⟩ (.int .i64 x1)).setCell ⟨c4,2,none⟩ (.slice A3 l3 k3))→Q .ret a' (((w'.setCell ⟨c4,0,none⟩ (.int .i64 x0)).setCell ⟨c4,1,none⟩ (.int .i64 x1)).setCell ⟨c4,2,none⟩ (.slice A3 l3 k3))):(Code.seq B5 .ret).wp Tryz.prog Q {tmps:=m,defers:=[]} w:=by
 have e:=znQ hs
 rw[show sM m 3=_ from m3,show sM m 4=_ from m4,show sM m 5=_ from m5] at e;rw[e];clear e;unfold B5
 go_wp2_with fail
 refine hcall.mono ?_
 rintro e w' ⟨x0,x1,A3,l3,k3,rfl,hp,T,hT⟩
 have k0:=zaD (j:=0) hT rfl
 have k1:=zaD (j:=1) hT rfl
 have k2:=zaD (j:=2) hT rfl
 have f0:=frozen_of_row w' _ 0 _ _ hT
 have f1:=frozen_of_row w' _ 1 _ _ hT
 have f2:=frozen_of_row w' _ 2 _ _ hT
 have q1:=heap_setCell_same w' c4 0 _ T (.int .i64 x0) hT
 have q2:=heap_setCell_same _ c4 1 _ T (.int .i64 x1) q1
 have q3:=heap_setCell_same _ c4 2 _ T (.slice A3 l3 k3) q2
 have y0:=zaD (j:=0) q3 rfl
 have y1:=zaD (j:=1) q3 rfl
 have y2:=zaD (j:=2) q3 rfl
 clear h30 h31 hcall q1 q2 q3 hT
 go_wp2
 refine hQ _ _ _ _ _ _ hp _ rfl ?_
 simp[results,Tryz.results80,go_sem,y0,y1,y2]
end
section
open Go Go.RowKit
def zr7 (p0:Stb) (w0:World) (b:Nat) (ns:List Nat) (pos M:Nat):Ending→World→Prop:=fun e w'=>∃v p' o n kids pos',e=.returned v∧RepS p' w' v (.agg [.int o,.int n,.sl 3 kids])∧Fit .expr [.int o,.int n,.sl 3 kids]∧1+kids.length+rsS kids≤M+1 ∧
 Evo (·=b) p0 w0 p' w'∧Zp p' w'∧TK p' w' (fun _=>False) b (Qr ns pos')∧pos'≤pos+4*M
structure BD (p0:Stb) (w0:World) (b c3 c4:Nat) (e0 e1:Int) (A:Option Addr) (n c:Nat) (kids:List (List AC)) (q:List AC) (p:Stb) (w:World) (m:Array Value):Prop where
 size:m.size=85
 m0:m.getD 0 undef=zbl b
 m3:m.getD 3 undef=.pointer (some ⟨c3,0,none⟩)
 m4:m.getD 4 undef=.pointer (some ⟨c4,0,none⟩)
 x3:∃T,w.heap[c3]?=some (.cells #[.int .i64 e0,.int .i64 e1,.slice A n c] T (0,0))
 x4:∃T,w.heap[c4]?=some (.cells #[.int .i64 0,.int .i64 0,.slice none 0 0] T (0,0))
 n34:c3≠c4
 g3:w0.heap.size≤c3
 g4:w0.heap.size≤c4
 z3:p c3=0
 z4:p c4=0
 gb:b<w0.heap.size
 rep:Rep p w (.slice A n c) (.sl 3 kids)
 tk:TK p w (fun _=>False) b q
 zp:Zp p w
 evo:Evo (·=b) p0 w0 p w
section
variable {ns:List Nat} (hns:ns.length≤2000) {p0 p p':Stb}{w0 w w':World}{b c3 c4:Nat}{e0 e1:Int}{A:Option Addr}{n c:Nat}{kids:List (List AC)}{q q':List AC}{m m':Array Value}
theorem BD.lt3 (h:BD p0 w0 b c3 c4 e0 e1 A n c kids q p w m):c3<w.heap.size:=by obtain⟨_,h⟩:=h.x3;exact zbc h
theorem BD.lt4 (h:BD p0 w0 b c3 c4 e0 e1 A n c kids q p w m):c4<w.heap.size:=by obtain⟨_,h⟩:=h.x4;exact zbc h
theorem BD.slots (h:BD p0 w0 b c3 c4 e0 e1 A n c kids q p w m) (hs:m'.size=85) (h0:m'.getD 0 undef=m.getD 0 undef) (h3:m'.getD 3 undef=m.getD 3 undef) (h4:m'.getD 4 undef=m.getD 4 undef):BD p0 w0 b c3 c4 e0 e1 A n c kids q p w m' :=
 {h with size:=hs,m0:=h0.trans h.m0,m3:=h3.trans h.m3,m4:=h4.trans h.m4}
theorem BD.on (h:BD p0 w0 b c3 c4 e0 e1 A n c kids q p w m) (hev:Evo (·=b) p w p' w') (hz:Zp p' w') (ht:TK p' w' (fun _=>False) b q'):BD p0 w0 b c3 c4 e0 e1 A n c kids q' p' w' m:=by
 have n3b:c3≠b:=fun e=>by have:=h.g3;have:=h.gb;omega
 have n4b:c4≠b:=fun e=>by have:=h.g4;have:=h.gb;omega
 exact {h with x3:=by rw[hev.block c3 h.lt3 n3b];exact h.x3,x4:=by rw[hev.block c4 h.lt4 n4b];exact h.x4,z3:=(hev.same c3 h.lt3 n3b).trans h.z3,z4:=(hev.same c4 h.lt4 n4b).trans h.z4,rep:=h.rep.evo hev,tk:=ht,zp:=hz,evo:=h.evo.trans hev (fun _ _ e=>e) (fun _ _ e=>e)}
theorem zgZ {P:Program}{fn:Func}{R R':Ending→World→Prop}{cd:Code}{a:Act}{w:World} (h:cd.wp P (bodyPost P fn R) a w) (hR:∀e w,R e w→R' e w):cd.wp P (bodyPost P fn R') a w:=by
 refine Code.wp_mono (fun e a w h=>?_) h
 cases e with
 | normal=>obtain⟨h1,v,h2,h3⟩:=h;exact⟨h1,v,h2,hR _ _ h3⟩
 | ret=>obtain⟨h1,v,h2,h3⟩:=h;exact⟨h1,v,h2,hR _ _ h3⟩
 | panic ch=>obtain⟨h1,h3⟩:=h;exact⟨h1,hR _ _ h3⟩
 | outgrown=>exact hR _ _ h
 | _=>exact h.elim
include hns
theorem zDX {pos M:Nat} (hM:M≤50000) (hM1:1≤M) {pos0:Nat} (hpp:pos≤pos0+2) (hpos:pos+100≤800000) (h:BD p0 w0 b c3 c4 e0 e1 A n c kids (Qr ns pos) p w m) (hf:Fit .expr [.int e0,.int e1,.sl 3 kids]) (hs:1+kids.length+rsS kids≤M) :
  (zgO 2 (cOf Tryz.f80)).wp Tryz.prog (bodyPost Tryz.prog Tryz.f80 (zr7 p0 w0 b ns pos0 M)) {tmps:=m,defers:=[]} w:=by
 obtain⟨o',n',kids',pos',hev,hp',hf',hs'⟩:=zxw hns (n4:=0) (n5:=0) (l6:=[]) hf hs (by omega) (p:=pos) (by omega)
 obtain⟨O,hO⟩:=Option.isSome_iff_exists.1 zFF;obtain⟨T3,x3⟩:=h.x3;obtain⟨T4,x4⟩:=h.x4;have hb:=h.gb
 have hK:zvn p w m 85 [(3,.box [.int e0,.int e1,.sl 3 kids]),(4,.box [.int 0,.int 0,.sl 3 []])] (fun x=>w0.heap.size≤x):=by
  have look:∀t x,List.lookup t [(3,AV.box [.int e0,.int e1,.sl 3 kids]),(4,AV.box [.int 0,.int 0,.sl 3 []])]=some x→(t=3∧x=.box [.int e0,.int e1,.sl 3 kids])∨(t=4∧x=.box [.int 0,.int 0,.sl 3 []]):=fun t x hx=>by
   simp only[List.lookup_cons] at hx;by_cases h3:t=3
   ·subst h3;simp at hx;exact .inl ⟨rfl,hx.symm⟩
   ·by_cases h4:t=4
    ·subst h4;simp at hx;exact .inr ⟨rfl,hx.symm⟩
    ·rw[show(t==3)=false by simpa using h3,show(t==4)=false by simpa using h4] at hx
     simp at hx
  refine⟨fun t x hx=>?_,fun t x hx=>?_,fun t t' cs cs' x ht h1 h2 h3 h4=>?_⟩
  ·rcases look t x hx with ⟨rfl,rfl⟩|⟨rfl,rfl⟩
   ·exact⟨by omega,c3,_,T3,h.m3,x3,.int _,.int _,h.rep,trivial⟩
   ·exact⟨by omega,c4,_,T4,h.m4,x4,.int _,.int _,.nil _ _,trivial⟩
  ·rcases look t x hx with ⟨rfl,rfl⟩|⟨rfl,rfl⟩
   ·exact .inr ⟨_,c3,rfl,h.m3,h.z3,h.g3⟩
   ·exact .inr ⟨_,c4,rfl,h.m4,h.z4,h.g4⟩
  ·rcases look _ _ h1 with ⟨rfl,_⟩|⟨rfl,_⟩ <;> rcases look _ _ h2 with ⟨rfl,_⟩|⟨rfl,_⟩
   ·exact ht rfl
   ·rw[h.m3] at h3;rw[h.m4] at h4;cases h3;cases h4;exact h.n34 rfl
   ·rw[h.m4] at h3;rw[h.m3] at h4;cases h3;cases h4;exact h.n34 rfl
   ·exact ht rfl
 have hI:=ztx (q:=Qr ns pos) h.size hK h.zp (fun x hx=>Nat.le_trans h.evo.size hx) h.m0 (h.tk.own (Own':=fun x=>w0.heap.size≤x) (Nat.not_le.2 hb))
 refine zgZ (zEn (Y:=zzH) (a:={tmps:=m,defers:=[]}) ze1 zh3 vok zxE hev (zeP _ _ _) (zvZ (n:=85) h.m0 (by omega) (fun t x hx=>(hK.lt t x hx).1) rfl) hO hI rfl h.evo) ?_
 rintro e w' ⟨v,rfl,p',hsr,_,_,hev',hz',ht'⟩
 exact⟨v,p',o',n',kids',pos',rfl,hsr,hf',hs',hev',hz',ht',by omega⟩
end
end
section
open Go Go.RowKit
section
variable {ns:List Nat}
theorem zzO {p0:Stb}{w0:World}{b pos:Nat}{e0 e1:Int}{A:Option Addr}{n c:Nat}{kids:List (List AC)} (hz:Zp p0 w0) (ht:TK p0 w0 (fun _=>False) b (Qr ns pos)) (hr:Rep p0 w0 (.slice A n c) (.sl 3 kids)) {m:Array Value} (hs:m.size=85) (h0:m.getD 0 undef=zbl b) (h1:m.getD 1 undef=.agg #[.int .i64 e0,.int .i64 e1,.slice A n c])
  (Q:Exit→Act→World→Prop) (hQ:∀a' w' p' c3 c4,a'.defers=[]→BD p0 w0 b c3 c4 e0 e1 A n c kids (Qr ns pos) p' w' a'.tmps→Q .normal a' w'):B0.wp Tryz.prog Q {tmps:=m,defers:=[]} w0:=by
 have hb:=ht.lt
 refine zGz hs h1 Q fun a' hd' hs' h0' h3' h4'=>?_
 have hea:=zbi (p:=p0) (w:=w0) (.cells #[.int .i64 e0,.int .i64 e1,.slice A n c] 35) 0 (fun _=>False)
 have heb:=zbi (p:=upP p0 w0.heap.size 0) (w:=w0.alloc (.cells #[.int .i64 e0,.int .i64 e1,.slice A n c] 35)) (.cells #[.int .i64 0,.int .i64 0,.slice none 0 0] 35) 0 (fun _=>False)
 have hsz:(w0.alloc (.cells #[.int .i64 e0,.int .i64 e1,.slice A n c] 35)).heap.size=w0.heap.size+1:=by simp
 have x3:((w0.alloc (.cells #[.int .i64 e0,.int .i64 e1,.slice A n c] 35)).alloc (.cells #[.int .i64 0,.int .i64 0,.slice none 0 0] 35)).heap[w0.heap.size]?=some (.cells #[.int .i64 e0,.int .i64 e1,.slice A n c] 35 (0,0)) :=
  (Below.heap_alloc _ _ _ (by omega)).trans (heap_alloc_new _ _)
 have x4:((w0.alloc (.cells #[.int .i64 e0,.int .i64 e1,.slice A n c] 35)).alloc (.cells #[.int .i64 0,.int .i64 0,.slice none 0 0] 35)).heap[w0.heap.size+1]?=some (.cells #[.int .i64 0,.int .i64 0,.slice none 0 0] 35 (0,0)):=by
  rw[←hsz];exact heap_alloc_new _ _
 have hE:=hea.trans heb (C:=fun _=>False) (fun _ _ h=>h) (fun _ _ h=>h)
 rw[hsz] at hE;refine hQ a' _ _ _ _ hd' {size:=hs',m0:=h0'.trans h0,m3:=h3',m4:=h4',x3:=⟨_,x3⟩,x4:=⟨_,x4⟩,n34:=by omega,g3:=Nat.le_refl _,g4:=by omega,z3:=?_,z4:=?_,gb:=hb,rep:=hr.evo hE,tk:=ht.evo hE,zp:=⟨fun x hx=>?_,fun _ _ _=>trivial⟩,evo:=hE.weaken (fun _ _ h=>h.elim)}
 ·rw[zb9,if_neg (by omega),zb9,if_pos rfl]
 ·rw[zb9,if_pos rfl]
 ·simp at hx
  rw[zb9,if_neg (by omega),zb9,if_neg (by omega)]
  exact hz.1 x (by omega)
end
end
section
open Go Go.RowKit
theorem zsr {s:Nat}:∀{rows:List (List AC)},(∀r∈rows,r.length=s)→∀(k j:Nat),j<s→rows.flatten[k*s+j]?=(rows.getD k [])[j]?
 | [],_,k,j,hj=>by simp
 | r::rows,h,0,j,hj=>by
  have hr:=h r (by simp)
  simp only[List.flatten_cons,Nat.zero_mul,Nat.zero_add,List.getD_cons_zero];rw[List.getElem?_append_left (by omega)]
 | r::rows,h,k+1,j,hj=>by
  have hr:=h r (by simp)
  rw[List.flatten_cons,List.getElem?_append_right (by rw[hr,Nat.succ_mul];omega),List.getD_cons_succ,←zsr (fun x hx=>h x (by simp[hx])) k j hj]
  congr 1
  rw[hr,Nat.succ_mul];omega
def zkN (w:World) (B o:Nat) (x0 x1 x2:Value):World:=((w.setCell ⟨B,o,none⟩ x0).setCell ⟨B,o+1,none⟩ x1).setCell ⟨B,o+2,none⟩ x2
section
variable {w:World}{B o:Nat}{x0 x1 x2:Value}
theorem zt5 {a:Array Value}{T:TypeId} (h:w.heap[B]?=some (.cells a T (0,0))):(zkN w B o x0 x1 x2).heap[B]?=some (.cells (((a.setIfInBounds o x0).setIfInBounds (o+1) x1).setIfInBounds (o+2) x2) T (0,0)) :=
 heap_setCell_same _ _ _ _ _ _ (heap_setCell_same _ _ _ _ _ _ (heap_setCell_same _ _ _ _ _ _ h))
theorem zle {b:Nat} (h:b≠B):(zkN w B o x0 x1 x2).heap[b]?=w.heap[b]?:=by
 unfold zkN;rw[heap_setCell_other _ _ _ _ h,heap_setCell_other _ _ _ _ h,heap_setCell_other _ _ _ _ h]
theorem zf1:(zkN w B o x0 x1 x2).heap.size=w.heap.size:=by simp[zkN,World.setCell]
theorem zmP (p:Stb) (hp:p B=0):Evo (·=B) p w p (zkN w B o x0 x1 x2):=by
 refine zcN hp zf1 (fun y hy=>zle hy) ?_ ?_ ?_ <;> simp[zkN,World.setCell]
theorem ztO {a:Array Value}{T:TypeId} (h:w.heap[B]?=some (.cells a T (0,0))) (ho:o+3≤a.size) (i:Nat):(zkN w B o x0 x1 x2).cell? ⟨B,i,none⟩=if i=o then some x0 else if i=o+1 then some x1 else if i=o+2 then some x2 else w.cell? ⟨B,i,none⟩:=by
 have hc:∀{w:World}{a:Array Value},w.heap[B]?=some (.cells a T (0,0))→w.cell? ⟨B,i,none⟩=a[i]?:=fun h=>by simp[World.cell?,h]
 rw[hc (zt5 h),hc h];simp only[Array.getElem?_setIfInBounds,Array.size_setIfInBounds];by_cases h2:i=o+2
 ·subst h2;simp;omega
 by_cases h1:i=o+1
 ·subst h1;simp;omega
 by_cases h0:i=o
 ·subst h0;simp;omega
 rw[if_neg (fun e=>h2 e.symm),if_neg (fun e=>h1 e.symm),if_neg (fun e=>h0 e.symm),if_neg h0,if_neg h1,if_neg h2]
end
theorem zzv {p:Stb}{w:World}{g n cap k:Nat}{rows:List (List AC)}{cur:Array Value}{T:TypeId} (hg:w.heap[g]?=some (.cells cur T (0,0))) (hs:n*3≤cur.size) (hcap:n≤cap) (hn:rows.length=n) (h3:∀r∈rows,r.length=3) (hus:RepL p w (cur.toList.take (n*3)) rows.flatten) (hp:p g=0) (hok:p.ok g 3) (hk:k<n)
  {x0 x1 x2:Value}{c0 c1 c2:AC} (hr:RepL p w [x0,x1,x2] [c0,c1,c2]):Rep (raP p g (n*3)) (zkN w g (k*3) x0 x1 x2) (.slice (some ⟨g,0,none⟩) n cap) (.sl 3 (rows.set k [c0,c1,c2])):=by
 have hev:=(zmP (w:=w) (o:=k*3) (x0:=x0) (x1:=x1) (x2:=x2) p hp).trans (ztw (n:=n*3) hp) (C:=(·=g)) (fun _ _ e=>e) (fun _ _ e=>e)
 have hlen:(rows.set k [c0,c1,c2]).length=n:=by simp[hn]
 have hk3:k*3+3≤cur.size:=by omega
 simp only[RepL] at hr;obtain⟨r0,r1,r2,_⟩:=hr;have hget:∀(i j:Nat) (c:AC),((rows.set k [c0,c1,c2]).getD i [])[j]?=some c→i<n∧j<3∧((i=k∧[c0,c1,c2][j]?=some c)∨(i≠k∧(rows.getD i [])[j]?=some c)):=fun i j c h=>by
  by_cases hik:i=k
  ·subst hik
   simp only[List.getD,List.getElem?_set_self (hn▸hk),Option.getD_some] at h;exact⟨hk,(List.getElem?_eq_some_iff.1 h).1,.inl ⟨rfl,h⟩⟩
  ·simp only[List.getD,List.getElem?_set_ne (fun e=>hik e.symm)] at h
   have hlt:i<rows.length:=by
    rcases Nat.lt_or_ge i rows.length with h'|h'
    ·exact h'
    ·simp[List.getElem?_eq_none h'] at h
   have hj:=(List.getElem?_eq_some_iff.1 h).1
   rw[show(rows[i]?.getD [])=rows[i] by simp[hlt],h3 _ (List.getElem_mem hlt)] at hj
   exact⟨hn▸hlt,hj,.inr ⟨hik,h⟩⟩
 have hold:∀(i j:Nat) (c:AC),i<n→j<3→(rows.getD i [])[j]?=some c→w.cell? ⟨g,i*3+j,none⟩=some (cur.getD (i*3+j) undef)∧Rep p w (cur.getD (i*3+j) undef) c:=fun i j c hi hj h=>by
  obtain⟨v,hv,hrv⟩:=hus.get (j:=i*3+j) (c:=c) (by rw[zsr h3 i j hj];exact h)
  rw[List.getElem?_take,if_pos (by omega)] at hv
  have hv:cur[i*3+j]?=some v:=by simpa using hv
  have:cur.getD (i*3+j) undef=v:=by rw[Array.getD_eq_getD_getElem?,hv];rfl
  rw[this];exact⟨by simp[World.cell?,hg,hv],hrv⟩
 rw[show Value.slice (some ⟨g,0,none⟩) n cap=Value.slice (some ⟨g,0,none⟩) (rows.set k [c0,c1,c2]).length cap by rw[hlen]]
 refine .sl g 0 cap 3 _ (fun i j=>if i=k then[x0,x1,x2].getD j undef else cur.getD (i*3+j) undef) (by omega) (fun r hr=>?_) (by rw[zf1];exact(Array.getElem?_eq_some_iff.1 hg).1) (by rw[hlen,zgQ,if_pos rfl];omega) hok (by rw[hlen];exact hcap) (fun i j c h=>?_) (fun i j c h=>?_)
 ·rcases List.mem_or_eq_of_mem_set hr with h|rfl
  ·exact h3 r h
  ·rfl
 ·rw[ztO hg hk3]
  obtain⟨hi,hj3,⟨rfl,hj⟩|⟨hik,hj⟩⟩:=hget i j c h
  ·rcases(by omega:j=0∨j=1∨j=2) with rfl|rfl|rfl <;> simp
  ·rw[if_neg (by omega),if_neg (by omega),if_neg (by omega),if_neg hik,Nat.zero_add]
   exact(hold i j c hi hj3 hj).1
 ·obtain⟨hi,hj3,⟨rfl,hj⟩|⟨hik,hj⟩⟩:=hget i j c h
  ·rw[if_pos rfl]
   rcases(by omega:j=0∨j=1∨j=2) with rfl|rfl|rfl <;> simp only[List.getElem?_cons_zero,List.getElem?_cons_succ,Option.some.injEq] at hj <;> subst hj
   ·exact r0.evo hev
   ·exact r1.evo hev
   ·exact r2.evo hev
  ·rw[if_neg hik]
   exact(hold i j c hi hj3 hj).2.evo hev
theorem zx8:∀{rs:List (List AC)}{k:Nat} (h:k<rs.length) (row:List AC),rsS (rs.set k row)+cS rs[k]=rsS rs+cS row
 | r::rs,0,h,row=>by
  rw[List.set_cons_zero,za6,za6,List.getElem_cons_zero];omega
 | r::rs,k+1,h,row=>by
  have:=zx8 (rs:=rs) (k:=k) (by simpa using h) row
  rw[List.set_cons_succ,za6,za6,List.getElem_cons_succ];omega
theorem zuL {p:Stb}{w:World}{A:Option Addr}{n cap k:Nat}{rows:List (List AC)} (h:Rep p w (.slice A n cap) (.sl k rows)):n=rows.length:=by
 generalize hv:Value.slice A n cap=v at h
 generalize hc:AC.sl k rows=c at h
 cases h with
 | int n=>cases hc
 | bool b=>cases hc
 | nil a k=>cases hc;injection hv
 | sl b' o' cap' k' rows' f hk hrows hb hp hok hcap hcc hrr =>
  cases hc;injection hv
theorem zvu {p:Stb}{w:World}{A:Option Addr}{n cap k:Nat}{rows:List (List AC)} (h:Rep p w (.slice A n cap) (.sl k rows)) (hn:rows≠[]):∃b o,A=some ⟨b,o,none⟩:=by
 generalize hv:Value.slice A n cap=v at h
 generalize hc:AC.sl k rows=c at h
 cases h with
 | int n=>cases hc
 | bool b=>cases hc
 | nil a k=>cases hc;exact absurd rfl hn
 | sl b' o' cap' k' rows' f hk hrows hb hp hok hcap hcc hrr =>
  cases hc;cases hv;exact⟨b',o',rfl⟩
section
variable {ns:List Nat} (hns:ns.length≤2000)
include hns
theorem zeO {p0:Stb}{w0:World}{b pos K:Nat} (hp:pos+10≤800000) (hK:0<K∧K≤100000) (hz:Zp p0 w0) (ht:TK p0 w0 (fun _=>False) b (Qr ns pos)) :
  ∃x:Nat,x<K∧Calls Tryz.prog 79 #[zbl b,.int .i64 (K:Int)] w0 fun e w'=>e=.returned (.int .i64 (x:Int))∧∃p',Evo (·=b) p0 w0 p' w'∧Zp p' w'∧TK p' w' (fun _=>False) b (Qr ns (pos+1)):=by
 obtain⟨x,hx,hpick⟩:=zbM hns (p:=pos) (by omega) (m:=K) (by omega)
 refine⟨x,hx,(((tok 79 (by kernel_rfl)).2 (Qr ns pos) [.cell (.int (K:Int))] _ hpick).2 p0 w0 b [.int .i64 (K:Int)] ⟨.int _,trivial⟩ hz ht).mono ?_⟩
 rintro e w' ⟨v,rfl,p',hsr,_,_,hev',hz',ht',_⟩
 have hsr:Rep p' w' v (.int (x:Int)):=hsr
 cases hsr;exact⟨rfl,p',hev',hz',ht'⟩
set_option maxHeartbeats 4000000 in
theorem zBH:∀M:Nat,M≤2000→∀{p0:Stb}{w0:World}{b pos:Nat}{e0 e1:Int}{A:Option Addr}{n c:Nat}{kids:List (List AC)},Fit .expr [.int e0,.int e1,.sl 3 kids]→1+kids.length+rsS kids≤M→pos+4*M+100≤800000→Zp p0 w0→TK p0 w0 (fun _=>False) b (Qr ns pos)→Rep p0 w0 (.slice A n c) (.sl 3 kids) →
  Calls Tryz.prog 80 #[zbl b,.agg #[.int .i64 e0,.int .i64 e1,.slice A n c]] w0 (zr7 p0 w0 b ns pos M):=by
 intro M;induction M using Nat.strongRecOn with
 | _ M ih =>
 intro hM p0 w0 b pos e0 e1 A n c kids hf hs hpos hz ht hr;have hn:=zuL hr
 have hb:=ht.lt
 refine calls_of_wp Tryz.func80 (c:=cOf Tryz.f80) (by kernel_rfl) ?_
 rw[zEq];have hs0:(#[zbl b,.agg #[.int .i64 e0,.int .i64 e1,.slice A n c]]++Array.replicate (Tryz.f80.ntmps-(#[zbl b,.agg #[.int .i64 e0,.int .i64 e1,.slice A n c]]:Array Value).size) undef).size=85:=by simp[Tryz.ntmps80]
 have h0:(#[zbl b,.agg #[.int .i64 e0,.int .i64 e1,.slice A n c]]++Array.replicate (Tryz.f80.ntmps-(#[zbl b,.agg #[.int .i64 e0,.int .i64 e1,.slice A n c]]:Array Value).size) undef).getD 0 undef=zbl b:=by simp[Array.getD]
 have h1:(#[zbl b,.agg #[.int .i64 e0,.int .i64 e1,.slice A n c]]++Array.replicate (Tryz.f80.ntmps-(#[zbl b,.agg #[.int .i64 e0,.int .i64 e1,.slice A n c]]:Array Value).size) undef).getD 1 undef=.agg #[.int .i64 e0,.int .i64 e1,.slice A n c]:=by simp[Array.getD]
 generalize (#[zbl b,.agg #[.int .i64 e0,.int .i64 e1,.slice A n c]]++Array.replicate (Tryz.f80.ntmps-(#[zbl b,.agg #[.int .i64 e0,.int .i64 e1,.slice A n c]]:Array Value).size) undef)=m0 at hs0 h0 h1
 refine wp_seq (zzO hz ht hr hs0 h0 h1 _ fun a1 w1 p1 c3 c4 hd1 hB=>?_)
 obtain⟨m1,dd⟩:=a1;have hd1:dd=[]:=hd1
 subst hd1;have hB:BD p0 w0 b c3 c4 e0 e1 A n c kids (Qr ns pos) p1 w1 m1:=hB
 clear h0 h1 hs0;have hrest:∀{p w m pos1},BD p0 w0 b c3 c4 e0 e1 A n c kids (Qr ns pos1) p w m→pos1≤pos+2→(zgO 2 (cOf Tryz.f80)).wp Tryz.prog (bodyPost Tryz.prog Tryz.f80 (zr7 p0 w0 b ns pos M)) {tmps:=m,defers:=[]} w:=fun h hp=>zDX hns (by omega) (by omega) hp (by omega) h hf hs
 have h32:w1.cell? ⟨c3,2,none⟩=some (.slice A n c):=by obtain⟨T,h⟩:=hB.x3;exact zaD h rfl
 by_cases hk0:kids=[]
 ·subst hk0
  have hn:n=0:=hn
  subst hn;refine wp_seq (wp_seq (zFd h32 hB.size hB.m3 _ fun a2 hd2 hs2 h0 h3 h4 h15=>?_))
  obtain⟨m2,dd⟩:=a2;have hd2:dd=[]:=hd2
  subst hd2;refine wp_cond (t:=false) h15 ?_
  simp only[Bool.false_eq_true,if_false];refine wp_skip ?_
  exact hrest (hB.slots hs2 h0 (h3.trans hB.m3.symm) h4) (by omega)
 have hkl:0<kids.length:=List.length_pos_iff.2 hk0
 obtain⟨x,hx,hcall⟩:=zeO hns (K:=3) (by omega) (by omega) hB.zp hB.tk
 refine wp_seq (wp_seq (zGK (post:=fun y w'=>y=x∧∃p',Evo (·=b) p1 w1 p' w'∧Zp p' w'∧TK p' w' (fun _=>False) b (Qr ns (pos+1))) (by omega) (by omega) h32 (by rw[hB.m0];exact hcall.mono fun e w' ⟨h1,h2⟩=>⟨x,h1,rfl,h2⟩) hB.size hB.m3 _ ?_))
 rintro y w2 ⟨rfl,p2,hev2,hz2,ht2⟩ a2 hd2 hs2 h0 h3 h4 h15
 have hB2:=(hB.on hev2 hz2 ht2).slots hs2 h0 (h3.trans hB.m3.symm) h4
 obtain⟨m2,dd⟩:=a2;have hd2:dd=[]:=hd2
 subst hd2;clear hB hcall hev2 hz2 ht2 h32;refine wp_cond (t:=decide (0<y)) h15 ?_
 by_cases hy:¬0<y
 ·rw[decide_eq_false hy]
  simp only[Bool.false_eq_true,if_false];refine wp_skip ?_
  exact hrest hB2 (by omega)
 rw[decide_eq_true (Nat.lt_of_not_ge fun h=>hy (by omega))]
 simp only[if_true];clear hrest h0 h3 h4 h15 hs2;have hB2:BD p0 w0 b c3 c4 e0 e1 A n c kids (Qr ns (pos+1)) p2 w2 m2:=hB2
 obtain⟨g0,o0,rfl⟩:=zvu hr hk0;obtain⟨hKids,hl0⟩:zcR kids∧(kids.length:Int)≤zaS:=by
  cases hf with
  | expr _ _ _ ho hno hl hk=>exact⟨hk,by omega⟩
 have h32:w2.cell? ⟨c3,2,none⟩=some (.slice (some ⟨g0,o0,none⟩) n c):=by obtain⟨T,h⟩:=hB2.x3;exact zaD h rfl
 have hcp:=zta hB2.zp hB2.rep hk0 hKids (by omega)
 refine wp_seq (zG6 (post:=fun v w'=>∃us p',w'.ownsRow w2.heap.size 35 3 v kids.length us∧RepL p' w' us kids.flatten∧(∀g,v.ownBlock=some g→p' g=0∧p'.ok g 3)∧Zp p' w'∧Evo (fun _=>False) p2 w2 p' w') h32 (hcp.mono fun e w' ⟨v,us,p',h1,h2⟩=>⟨v,h1,us,p',h2⟩) hB2.size hB2.m3 _ ?_)
 rintro v w3 ⟨us,p3,hown,hus,hpg,hz3,hev3⟩ a3 hd3 hs3 h0 h3 h4 h5
 have hB3:=(hB2.on (hev3.weaken fun _ _ h=>h.elim) hz3 (hB2.tk.evo hev3)).slots hs3 h0 (h3.trans hB2.m3.symm) h4
 obtain⟨m3,dd⟩:=a3;have hd3:dd=[]:=hd3
 subst hd3;have hB3:BD p0 w0 b c3 c4 e0 e1 (some ⟨g0,o0,none⟩) n c kids (Qr ns (pos+1)) p3 w3 m3:=hB3
 rcases hown.2 with ⟨_,h00⟩|⟨g,cap,cur,rfl,hgb,hg,hcap,_,hcs,htk⟩
 ·omega
 have hgb3:w0.heap.size≤g:=Nat.le_trans hB2.evo.size hgb
 obtain⟨hp3g,hok3⟩:=hpg g rfl;have hgne:g≠b:=by omega
 have hc3g:c3≠g:=by have:=hB2.lt3;omega
 have hc4g:c4≠g:=by have:=hB2.lt4;omega
 obtain⟨k,hk,hcall⟩:=zeO hns (K:=kids.length) (by omega) (by omega) hB3.zp hB3.tk
 have hm5:m3.getD 5 undef=.slice (some ⟨g,0,none⟩) kids.length cap:=h5
 clear hB2 h0 h3 h4 h5 hs3 h32 hcp hpg hz3;refine wp_seq (zGW (post:=fun y w'=>y=k∧∃p',Evo (·=b) p3 w3 p' w'∧Zp p' w'∧TK p' w' (fun _=>False) b (Qr ns (pos+1+1))) (by rw[hB3.m0];exact hcall.mono fun e w' ⟨h1,h2⟩=>⟨k,h1,rfl,h2⟩) hB3.size hm5 _ ?_)
 rintro k w4 ⟨rfl,p4,hev4,hz4,ht4⟩ a4 hd4 hs4 h0 h3 h4 h5 h6
 have hB4:=(hB3.on hev4 hz4 ht4).slots hs4 h0 h3 h4
 obtain⟨m4,dd⟩:=a4;have hd4:dd=[]:=hd4
 subst hd4;have hB4:BD p0 w0 b c3 c4 e0 e1 (some ⟨g0,o0,none⟩) n c kids (Qr ns (pos+1+1)) p4 w4 m4:=hB4
 have h5:m4.getD 5 undef=.slice (some ⟨g,0,none⟩) kids.length cap:=h5
 have h6:m4.getD 6 undef=.int .i64 (k:Int):=h6
 have hglt:g<w3.heap.size:=zbc hg
 have hg4:=(hev4.block g hglt hgne).trans hg
 have hp4g:=(hev4.same g hglt hgne).trans hp3g
 have hok4:p4.ok g 3:=by rw[hev4.okk g hglt];exact hok3
 have hus4:=hus.evo hev4
 rw[←htk] at hus4;have hglt4:g<w4.heap.size:=zbc hg4
 clear hB3 hev4 hz4 ht4 h0 h3 h4 hs4 hcall hus hp3g hok3 hg hown hm5 hev3 htk
 -- the kid
 have hmem:kids[k]∈kids:=List.getElem_mem hk
 have hfk:=hKids _ hmem
 have hle:=zgi hmem
 have hgk:kids.getD k []=kids[k]:=by simp[List.getD,hk]
 have h33:∀r∈kids,r.length=3:=fun r hr=>by
  have:=hKids r hr
  cases this with
  | expr=>rfl
 have hset:∀(o1 n1:Int) (kids1:List (List AC)),Fit .expr [.int o1,.int n1,.sl 3 kids1]→zcR (kids.set k [.int o1,.int n1,.sl 3 kids1]):=fun o1 n1 kids1 h r hr=>by
  rcases List.mem_or_eq_of_mem_set hr with h'|rfl
  ·exact hKids r h'
  ·exact h
 have hrsset:∀row:List AC,rsS (kids.set k row)+cS kids[k]=rsS kids+cS row:=fun row=>zx8 hk row
 generalize hrow:kids[k]=row at *
 cases hfk with
 | expr f0 f1 l ho hno hl hk2 =>
 have hcSl:cS [AC.int f0,.int f1,.sl 3 l]=l.length+rsS l:=by simp[cS,rsS,acS,acS.cS,acS.rsS]
 have hget:∀(j:Nat) (x:AC),[AC.int f0,.int f1,.sl 3 l][j]?=some x→∃v,cur[k*3+j]?=some v∧Rep p4 w4 v x:=fun j x hx=>by
  have hj:j<3:=(List.getElem?_eq_some_iff.1 hx).1
  obtain⟨v,hv,hrv⟩:=hus4.get (j:=k*3+j) (c:=x) (by rw[zsr h33 k j hj,hgk];exact hx)
  rw[List.getElem?_take,if_pos (by omega)] at hv
  exact⟨v,by simpa using hv,hrv⟩
 obtain⟨u0,b0,r0⟩:=hget 0 _ rfl;obtain⟨u1,b1,r1⟩:=hget 1 _ rfl;obtain⟨u2,b2,r2⟩:=hget 2 _ rfl;cases r0;cases r1;obtain⟨A1,l1,k1,rfl⟩:=zb5 r2;have hih:=ih (1+l.length+rsS l) (by omega) (by omega) (e0:=f0) (e1:=f1) (.expr f0 f1 l ho hno hl hk2) (Nat.le_refl _) (pos:=pos+1+1) (by omega) hB4.zp hB4.tk r2
 have hcl:∀{w':World},w'.heap[g]?=some (.cells cur 35 (0,0))→∀{j:Nat}{v:Value},cur[k*3+j]?=some v→w'.cell? ⟨g,k*3+j,none⟩=some v:=fun h _ _ hv=>by simp[World.cell?,h,hv]
 refine wp_seq (zGN (post:=fun x0 x1 A3 l3 k3 w'=>∃p' kids1 pos',Rep p' w' (.slice A3 l3 k3) (.sl 3 kids1)∧Fit .expr [.int x0,.int x1,.sl 3 kids1]∧1+kids1.length+rsS kids1≤1+l.length+rsS l+1∧Evo (·=b) p4 w4 p' w'∧Zp p' w'∧TK p' w' (fun _=>False) b (Qr ns pos')∧pos'≤pos+1+1+4*(1+l.length+rsS l)) hk (by omega) (hcl hg4 b0) (hcl hg4 b1) (hcl hg4 b2) ?_ hB4.size h5 h6 _ ?_)
 ·rw[hB4.m0]
  refine hih.mono ?_
  rintro e w' ⟨v,p',o1,n1,kids1,pos',rfl,hsr,hf1,hs1,hev1,hz1,ht1,hp1⟩
  obtain⟨arr,rfl,hla⟩:∃arr,v=.agg arr∧RepL p' w' arr.toList [.int o1,.int n1,.sl 3 kids1]:=hsr;obtain⟨ls⟩:=arr
  match ls,hla with
  | [x0,x1,x2],⟨t0,t1,t2,_⟩ =>
  cases t0;cases t1;obtain⟨A3,l3,k3,rfl⟩:=zb5 t2;have hg5:=(hev1.block g hglt4 hgne).trans hg4
  exact⟨_,_,_,_,_,rfl,⟨p',kids1,pos',t2,hf1,hs1,hev1,hz1,ht1,hp1⟩,hcl hg5 b0,hcl hg5 b1,hcl hg5 b2,frozen_of_row w' g _ _ _ hg5,frozen_of_row w' g _ _ _ hg5,frozen_of_row w' g _ _ _ hg5⟩
 rintro x0 x1 A3 l3 k3 w5 ⟨p5,kids1,pos5,hr5,hf5,hs5,hev5,hz5,ht5,hp5⟩ a5 hd5 hs5' h0 h3 h4 h55
 have hB5:=hB4.on hev5 hz5 ht5
 have hg5:=(hev5.block g hglt4 hgne).trans hg4
 have hp5g:=(hev5.same g hglt4 hgne).trans hp4g
 have hok5:p5.ok g 3:=by rw[hev5.okk g hglt4];exact hok4
 have hrow5:=zzv (n:=kids.length) (cap:=cap) (k:=k) hg5 (by omega) hcap rfl h33 (hus4.evo hev5) hp5g hok5 hk (x0:=.int .i64 x0) (x1:=.int .i64 x1) (x2:=.slice A3 l3 k3) (c0:=.int x0) (c1:=.int x1) (c2:=.sl 3 kids1) ⟨.int _,.int _,hr5,trivial⟩
 have hevp:=(zmP (w:=w5) (o:=k*3) (x0:=.int .i64 x0) (x1:=.int .i64 x1) (x2:=.slice A3 l3 k3) p5 hp5g).trans (ztw (n:=kids.length*3) hp5g) (C:=(·=g)) (fun _ _ e=>e) (fun _ _ e=>e)
 have hWs:(zkN w5 g (k*3) (.int .i64 x0) (.int .i64 x1) (.slice A3 l3 k3)).heap.size=w5.heap.size:=zf1
 have hzW:Zp (raP p5 g (kids.length*3)) (zkN w5 g (k*3) (.int .i64 x0) (.int .i64 x1) (.slice A3 l3 k3)):=⟨fun y hy=>by
  rw[hWs] at hy;have:=zbc hg5
  rw[zgQ,if_neg (by omega)]
  exact hz5.1 y hy,fun _ _ _=>trivial⟩
 have htW:=((ht5.own (Own':=(·=g)) (fun e=>hgne e.symm)).evo hevp).own (Own':=fun _=>False) (fun h=>h)
 obtain⟨T3,x3⟩:=hB5.x3;obtain⟨T4,x4⟩:=hB5.x4;have x3':=(hevp.block c3 hB5.lt3 hc3g).trans x3
 have x4':=(hevp.block c4 hB5.lt4 hc4g).trans x4
 have z4':=(hevp.same c4 hB5.lt4 hc4g).trans hB5.z4
 have hevb:=hB5.evo
 have hlt4:c4<(zkN w5 g (k*3) (.int .i64 x0) (.int .i64 x1) (.slice A3 l3 k3)).heap.size:=by rw[hWs];exact hB5.lt4
 have hg4w:=hB5.g4
 have hmm0:=h0.trans hB4.m0
 have hmm3:=h3.trans hB4.m3
 have hmm4:=h4.trans hB4.m4
 obtain⟨m5,dd⟩:=a5;have hd5:dd=[]:=hd5
 subst hd5;show Code.wp _ (.seq B5 .ret) _ ⟨m5,[]⟩ (zkN w5 g (k*3) (.int .i64 x0) (.int .i64 x1) (.slice A3 l3 k3))
 generalize zkN w5 g (k*3) (.int .i64 x0) (.int .i64 x1) (.slice A3 l3 k3)=W at *
 generalize raP p5 g (kids.length*3)=pW at *
 have hcall:=zo9 (P:=Tryz.prog) (L:=lay) ze1 zh3 zvd zvm (zaz e0 e1 (kids.set k [.int x0,.int x1,.sl 3 kids1])) (by kernel_rfl) (p:=pW) (w:=W) (vals:=[.int .i64 e0,.int .i64 e1,.slice (some ⟨g,0,none⟩) kids.length cap]) ⟨.int _,.int _,hrow5,trivial⟩ hzW
 refine zGH (c3:=c3) (c4:=c4) (e0:=e0) (e1:=e1) (post:=fun y0 y1 A5 l5 k5 w'=>y0=e0∧y1=e1∧∃p',Rep p' w' (.slice A5 l5 k5) (.sl 3 (kids.set k [.int x0,.int x1,.sl 3 kids1]))∧Evo (fun _=>False) pW W p' w'∧Zp p' w') (zaD x3' rfl) (zaD x3' rfl) ?_ hs5' hmm3 hmm4 h55 _ ?_
 ·refine hcall.mono ?_
  rintro e w' ⟨v,rfl,hBl,p',hsr,hev',hz',_⟩
  obtain⟨arr,rfl,hla⟩:∃arr,v=.agg arr∧RepL p' w' arr.toList [.int e0,.int e1,.sl 3 (kids.set k [.int x0,.int x1,.sl 3 kids1])]:=hsr;obtain⟨ls⟩:=arr
  match ls,hla with
  | [y0,y1,y2],⟨t0,t1,t2,_⟩ =>
  cases t0;cases t1;obtain⟨A5,l5,k5,rfl⟩:=zb5 t2;exact⟨_,_,_,_,_,rfl,⟨rfl,rfl,p',t2,hev',hz'⟩,T4,(hev'.block c4 hlt4 (fun h=>h)).trans x4'⟩
 rintro y0 y1 A5 l5 k5 w6 ⟨rfl,rfl,p6,hr6,hev6,hz6⟩ a6 hd6 hres
 have z46:=(hev6.same c4 hlt4 (fun h=>h)).trans z4'
 have hevc:Evo (·=c4) p6 w6 p6 (zkN w6 c4 0 (.int .i64 y0) (.int .i64 y1) (.slice A5 l5 k5)):=zmP p6 z46
 have htk6:=htW.evo hev6
 have hc4b:c4≠b:=by omega
 have hE:Evo (·=b) p0 w0 p6 (zkN w6 c4 0 (.int .i64 y0) (.int .i64 y1) (.slice A5 l5 k5)) :=
  ((hevb.trans hevp (C:=(·=b)) (fun _ _ e=>e) (fun q hq e=>absurd hq (by have:q=g:=e;omega))).trans hev6 (C:=(·=b)) (fun _ _ e=>e) (fun _ _ e=>e.elim)).trans hevc (fun _ _ e=>e) (fun q hq e=>absurd hq (by have:q=c4:=e;omega))
 have hrs:=hrsset [.int x0,.int x1,.sl 3 kids1]
 have hcS1:cS [AC.int x0,.int x1,.sl 3 kids1]=kids1.length+rsS kids1:=by simp[cS,rsS,acS,acS.cS,acS.rsS]
 refine⟨hd6,_,hres,_,p6,y0,y1,kids.set k [.int x0,.int x1,.sl 3 kids1],pos5,rfl,⟨_,rfl,.int _,.int _,hr6.evo hevc,trivial⟩,?_,?_,hE,⟨fun y hy=>hz6.1 y (Nat.le_trans hevc.size hy),fun _ _ _=>trivial⟩,((htk6.own (Own':=(·=c4)) (fun e=>hc4b e.symm)).evo hevc).own (fun h=>h),by omega⟩
 ·cases hf with
  | expr _ _ _ ho' hno' hl' hk'=>exact .expr _ _ _ ho' hno' (by rw[List.length_set];exact hl') (hset _ _ _ hf5)
 ·rw[List.length_set]
  omega
end
end
end Go.Proofs.YtkgbadeobdbinaaGreat

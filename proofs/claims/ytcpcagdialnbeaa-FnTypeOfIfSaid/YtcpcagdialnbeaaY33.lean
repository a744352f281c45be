/- Generic texts and models for the proofs of this seat: part 33. -/
import Derived.Test.YtcpcagdialnbeaaY32
import Derived.StillTailTactics
import Derived.Deep.RegionHeld3
import Derived.WalkKit
set_option linter.unusedVariables false
set_option linter.unusedSimpArgs false
namespace Go.Proofs.Ytcpcagdialnbeaa
section
open Go Go.RowKit
def P0:Code:=.region 0 #[⟨some 3,.box 26 (.tmp 1),0,"l30_generate.go:452",#[],none⟩,⟨some 4,.alloc 26,0,"l30_generate.go:452",#[],none⟩] false
def P1:Code:=.region 1 #[⟨some 7,.move (.tmp 0),47,"l30_generate.go:453",#[],none⟩,⟨some 8,.fieldAddr 26 (.tmp 3) 1,0,"l30_generate.go:453",#[],none⟩,⟨some 9,.load 24 (.tmp 8),24,"l30_generate.go:453",#[⟨1,.data⟩],none⟩,⟨some 10,.call ⟨.builtin .len,#[.tmp 9],#[24]⟩,3,"l30_generate.go:453",#[⟨2,.data⟩],none⟩,⟨some 11,.call ⟨.value (.func 27),#[.tmp 7,.tmp 10],#[47,3]⟩,3,"l30_generate.go:453",#[⟨0,.data⟩,⟨3,.data⟩],none⟩,⟨some 5,.assign (.tmp 11),3,"l30_generate.go:453",#[⟨4,.data⟩,⟨4,.chain⟩,⟨0,.phase⟩,⟨1,.phase⟩,⟨2,.phase⟩,⟨3,.phase⟩,⟨4,.phase⟩],none⟩] false
def P2:Code:=.region 2 #[⟨some 12,.fieldAddr 26 (.tmp 3) 1,0,"l30_generate.go:454",#[],none⟩,⟨some 13,.load 24 (.tmp 12),24,"l30_generate.go:454",#[⟨0,.data⟩],none⟩,⟨some 14,.move (.tmp 5),3,"l30_generate.go:454",#[],none⟩,⟨some 15,.indexAddr 24 (.tmp 13) (.tmp 14),0,"l30_generate.go:454",#[⟨1,.data⟩,⟨2,.data⟩],none⟩,⟨some 16,.load 35 (.tmp 15),35,"l30_generate.go:454",#[⟨3,.data⟩],none⟩,⟨some 6,.alloc 35,0,"l30_generate.go:454",#[],none⟩,⟨none,.store 35 (.tmp 6) (.tmp 16),0,"l30_generate.go:454",#[⟨5,.data⟩,⟨4,.data⟩,⟨0,.phase⟩,⟨1,.phase⟩,⟨2,.phase⟩,⟨3,.phase⟩,⟨4,.phase⟩,⟨5,.phase⟩],none⟩] false
def P3:Code:=.region 3 #[⟨some 17,.move (.tmp 0),47,"l30_generate.go:455",#[],none⟩,⟨some 18,.call ⟨.value (.func 27),#[.tmp 17,.const (.int .i64 24)],#[47,3]⟩,3,"l30_generate.go:455",#[⟨0,.data⟩],none⟩] false
def P4:Code:=.region 4 #[⟨some 20,.binOp .eql 3 (.tmp 18) (.const (.int .i64 0)) 3,4,"l30_generate.go:456",#[],none⟩,⟨some 19,.assign (.tmp 20),4,"l30_generate.go:456",#[⟨0,.data⟩],none⟩] false
def P5:Code:=.region 5 #[⟨some 21,.fieldAddr 26 (.tmp 3) 1,0,"l30_generate.go:457",#[],none⟩,⟨some 22,.load 24 (.tmp 21),24,"l30_generate.go:457",#[⟨0,.data⟩],none⟩,⟨some 23,.move (.tmp 5),3,"l30_generate.go:457",#[],none⟩,⟨some 24,.fieldAddr 35 (.tmp 6) 0,0,"l30_generate.go:457",#[],none⟩,⟨some 25,.load 33 (.tmp 24),33,"l30_generate.go:457",#[⟨3,.data⟩],none⟩,⟨some 26,.fieldAddr 35 (.tmp 6) 1,0,"l30_generate.go:457",#[],none⟩,⟨some 27,.load 3 (.tmp 26),3,"l30_generate.go:457",#[⟨5,.data⟩],none⟩,⟨some 28,.move (.tmp 0),47,"l30_generate.go:457",#[],none⟩,⟨some 29,.fieldAddr 35 (.tmp 6) 2,0,"l30_generate.go:457",#[],none⟩,⟨some 30,.load 32 (.tmp 29),32,"l30_generate.go:457",#[⟨8,.data⟩],none⟩,⟨some 31,.call ⟨.value (.func 30),#[.tmp 28,.tmp 30],#[47,32]⟩,32,"l30_generate.go:457",#[⟨7,.data⟩,⟨9,.data⟩],none⟩,⟨some 32,.build 35 #[(0,.tmp 25),(1,.tmp 27),(2,.tmp 31)],35,"l30_generate.go:457",#[⟨4,.data⟩,⟨6,.data⟩,⟨10,.data⟩],none⟩,⟨some 33,.indexAddr 24 (.tmp 22) (.tmp 23),0,"l30_generate.go:457",#[⟨1,.data⟩,⟨2,.data⟩,⟨0,.phase⟩,⟨1,.phase⟩,⟨2,.phase⟩,⟨3,.phase⟩,⟨4,.phase⟩,⟨5,.phase⟩,⟨6,.phase⟩,⟨7,.phase⟩,⟨8,.phase⟩,⟨9,.phase⟩,⟨10,.phase⟩,⟨11,.phase⟩],none⟩,⟨none,.store 35 (.tmp 33) (.tmp 32),0,"l30_generate.go:457",#[⟨12,.data⟩,⟨11,.data⟩,⟨10,.chain⟩,⟨0,.phase⟩,⟨1,.phase⟩,⟨2,.phase⟩,⟨3,.phase⟩,⟨4,.phase⟩,⟨5,.phase⟩,⟨6,.phase⟩,⟨7,.phase⟩,⟨8,.phase⟩,⟨9,.phase⟩,⟨10,.phase⟩,⟨11,.phase⟩],none⟩] true
def P6:Code:=.region 6 #[⟨some 35,.binOp .eql 3 (.tmp 18) (.const (.int .i64 1)) 3,4,"l30_generate.go:458",#[],none⟩,⟨some 34,.assign (.tmp 35),4,"l30_generate.go:458",#[⟨0,.data⟩],none⟩] false
def P7:Code:=.region 7 #[⟨some 36,.fieldAddr 26 (.tmp 3) 1,0,"l30_generate.go:459",#[],none⟩,⟨some 37,.load 24 (.tmp 36),24,"l30_generate.go:459",#[⟨0,.data⟩],none⟩,⟨some 38,.move (.tmp 5),3,"l30_generate.go:459",#[],none⟩,⟨some 39,.fieldAddr 35 (.tmp 6) 0,0,"l30_generate.go:459",#[],none⟩,⟨some 40,.load 33 (.tmp 39),33,"l30_generate.go:459",#[⟨3,.data⟩],none⟩,⟨some 41,.move (.tmp 0),47,"l30_generate.go:459",#[],none⟩,⟨some 42,.buildSlice 33 4 #[(0,.const (.int .i64 0)),(1,.const (.int .i64 1)),(2,.const (.int .i64 9)),(3,.const (.int .i64 (-1)))],33,"l30_generate.go:459",#[],none⟩,⟨some 43,.call ⟨.value (.func 29),#[.tmp 41,.tmp 42],#[47,33]⟩,3,"l30_generate.go:459",#[⟨5,.data⟩,⟨6,.data⟩],none⟩,⟨some 44,.buildSlice 33 1 #[(0,.tmp 43)],33,"l30_generate.go:459",#[⟨7,.data⟩],none⟩,⟨some 45,.call ⟨.value (.func 51),#[.tmp 40,.tmp 44],#[33,33]⟩,33,"l30_generate.go:459",#[⟨4,.data⟩,⟨8,.data⟩,⟨7,.chain⟩],none⟩,⟨some 46,.fieldAddr 35 (.tmp 6) 1,0,"l30_generate.go:459",#[],none⟩,⟨some 47,.load 3 (.tmp 46),3,"l30_generate.go:459",#[⟨10,.data⟩],none⟩,⟨some 48,.fieldAddr 35 (.tmp 6) 2,0,"l30_generate.go:459",#[],none⟩,⟨some 49,.load 32 (.tmp 48),32,"l30_generate.go:459",#[⟨12,.data⟩],none⟩,⟨some 50,.build 35 #[(0,.tmp 45),(1,.tmp 47),(2,.tmp 49)],35,"l30_generate.go:459",#[⟨9,.data⟩,⟨11,.data⟩,⟨13,.data⟩],none⟩,⟨some 51,.indexAddr 24 (.tmp 37) (.tmp 38),0,"l30_generate.go:459",#[⟨1,.data⟩,⟨2,.data⟩,⟨0,.phase⟩,⟨1,.phase⟩,⟨2,.phase⟩,⟨3,.phase⟩,⟨4,.phase⟩,⟨5,.phase⟩,⟨6,.phase⟩,⟨7,.phase⟩,⟨8,.phase⟩,⟨9,.phase⟩,⟨10,.phase⟩,⟨11,.phase⟩,⟨12,.phase⟩,⟨13,.phase⟩,⟨14,.phase⟩],none⟩,⟨none,.store 35 (.tmp 51) (.tmp 50),0,"l30_generate.go:459",#[⟨15,.data⟩,⟨14,.data⟩,⟨9,.chain⟩,⟨0,.phase⟩,⟨1,.phase⟩,⟨2,.phase⟩,⟨3,.phase⟩,⟨4,.phase⟩,⟨5,.phase⟩,⟨6,.phase⟩,⟨7,.phase⟩,⟨8,.phase⟩,⟨9,.phase⟩,⟨10,.phase⟩,⟨11,.phase⟩,⟨12,.phase⟩,⟨13,.phase⟩,⟨14,.phase⟩],none⟩] true
def P8:Code:=.region 8 #[⟨some 53,.binOp .eql 3 (.tmp 18) (.const (.int .i64 2)) 3,4,"l30_generate.go:460",#[],none⟩,⟨some 52,.assign (.tmp 53),4,"l30_generate.go:460",#[⟨0,.data⟩],none⟩] false
def P9:Code:=.region 9 #[⟨some 54,.fieldAddr 26 (.tmp 3) 1,0,"l30_generate.go:461",#[],none⟩,⟨some 55,.load 24 (.tmp 54),24,"l30_generate.go:461",#[⟨0,.data⟩],none⟩,⟨some 56,.move (.tmp 5),3,"l30_generate.go:461",#[],none⟩,⟨some 57,.fieldAddr 35 (.tmp 6) 0,0,"l30_generate.go:461",#[],none⟩,⟨some 58,.load 33 (.tmp 57),33,"l30_generate.go:461",#[⟨3,.data⟩],none⟩,⟨some 59,.move (.tmp 0),47,"l30_generate.go:461",#[],none⟩,⟨some 60,.buildSlice 33 5 #[(0,.const (.int .i64 0)),(1,.const (.int .i64 1)),(2,.const (.int .i64 3)),(3,.const (.int .i64 5)),(4,.const (.int .i64 (-1)))],33,"l30_generate.go:461",#[],none⟩,⟨some 61,.call ⟨.value (.func 29),#[.tmp 59,.tmp 60],#[47,33]⟩,3,"l30_generate.go:461",#[⟨5,.data⟩,⟨6,.data⟩],none⟩,⟨some 62,.fieldAddr 35 (.tmp 6) 2,0,"l30_generate.go:461",#[],none⟩,⟨some 63,.load 32 (.tmp 62),32,"l30_generate.go:461",#[⟨8,.data⟩],none⟩,⟨some 64,.build 35 #[(0,.tmp 58),(1,.tmp 61),(2,.tmp 63)],35,"l30_generate.go:461",#[⟨4,.data⟩,⟨7,.data⟩,⟨9,.data⟩],none⟩,⟨some 65,.indexAddr 24 (.tmp 55) (.tmp 56),0,"l30_generate.go:461",#[⟨1,.data⟩,⟨2,.data⟩,⟨0,.phase⟩,⟨1,.phase⟩,⟨2,.phase⟩,⟨3,.phase⟩,⟨4,.phase⟩,⟨5,.phase⟩,⟨6,.phase⟩,⟨7,.phase⟩,⟨8,.phase⟩,⟨9,.phase⟩,⟨10,.phase⟩],none⟩,⟨none,.store 35 (.tmp 65) (.tmp 64),0,"l30_generate.go:461",#[⟨11,.data⟩,⟨10,.data⟩,⟨7,.chain⟩,⟨0,.phase⟩,⟨1,.phase⟩,⟨2,.phase⟩,⟨3,.phase⟩,⟨4,.phase⟩,⟨5,.phase⟩,⟨6,.phase⟩,⟨7,.phase⟩,⟨8,.phase⟩,⟨9,.phase⟩,⟨10,.phase⟩],none⟩] true
def P10:Code:=.region 10 #[⟨some 67,.binOp .eql 3 (.tmp 18) (.const (.int .i64 3)) 3,4,"l30_generate.go:462",#[],none⟩,⟨some 66,.assign (.tmp 67),4,"l30_generate.go:462",#[⟨0,.data⟩],none⟩] false
def P11:Code:=.region 11 #[⟨some 68,.move (.tmp 0),47,"l30_generate.go:463",#[],none⟩,⟨some 69,.call ⟨.value (.func 52),#[.tmp 68],#[47]⟩,23,"l30_generate.go:463",#[⟨0,.data⟩],none⟩,⟨some 70,.fieldAddr 26 (.tmp 3) 0,0,"l30_generate.go:463",#[⟨0,.phase⟩,⟨1,.phase⟩],none⟩,⟨none,.store 23 (.tmp 70) (.tmp 69),0,"l30_generate.go:463",#[⟨2,.data⟩,⟨1,.data⟩,⟨1,.chain⟩,⟨0,.phase⟩,⟨1,.phase⟩],none⟩] false
def P12:Code:=.region 12 #[⟨some 72,.binOp .eql 3 (.tmp 18) (.const (.int .i64 4)) 3,4,"l30_generate.go:464",#[],none⟩,⟨some 71,.assign (.tmp 72),4,"l30_generate.go:464",#[⟨0,.data⟩],none⟩] false
def P13:Code:=.region 13 #[⟨some 73,.fieldAddr 26 (.tmp 3) 1,0,"l30_generate.go:465",#[],none⟩,⟨some 74,.load 24 (.tmp 73),24,"l30_generate.go:465",#[⟨0,.data⟩],none⟩,⟨some 75,.load 35 (.tmp 6),35,"l30_generate.go:465",#[],none⟩,⟨some 76,.buildSlice 24 1 #[(0,.tmp 75)],24,"l30_generate.go:465",#[⟨2,.data⟩],none⟩,⟨some 77,.call ⟨.builtin .append,#[.tmp 74,.tmp 76],#[24,24]⟩,24,"l30_generate.go:465",#[⟨1,.data⟩,⟨3,.data⟩],none⟩,⟨some 78,.fieldAddr 26 (.tmp 3) 1,0,"l30_generate.go:465",#[⟨0,.phase⟩,⟨1,.phase⟩,⟨2,.phase⟩,⟨3,.phase⟩,⟨4,.phase⟩],none⟩,⟨none,.store 24 (.tmp 78) (.tmp 77),0,"l30_generate.go:465",#[⟨5,.data⟩,⟨4,.data⟩,⟨4,.chain⟩,⟨0,.phase⟩,⟨1,.phase⟩,⟨2,.phase⟩,⟨3,.phase⟩,⟨4,.phase⟩],none⟩] false
def P14:Code:=.region 14 #[⟨some 79,.load 26 (.tmp 3),26,"l30_generate.go:467",#[],none⟩,⟨none,.store 26 (.tmp 4) (.tmp 79),0,"l30_generate.go:467",#[⟨0,.data⟩,⟨0,.phase⟩],none⟩] false
set_option maxRecDepth 100000 in
theorem zeU {m:Array Value} (h:m.size=80):m=List.toArray (sM m 0::sM m 1::sM m 2::sM m 3::sM m 4::sM m 5::sM m 6::sM m 7::sM m 8::sM m 9::sM m 10::sM m 11::sM m 12::sM m 13::sM m 14::sM m 15::sM m 16::sM m 17::sM m 18::sM m 19::sM m 20::sM m 21::sM m 22::sM m 23::sM m 24::sM m 25::sM m 26::sM m 27::sM m 28::sM m 29::sM m 30::sM m 31::sM m 32::sM m 33::sM m 34::sM m 35::sM m 36::sM m 37::sM m 38::sM m 39::sM m 40::sM m 41::sM m 42::sM m 43::sM m 44::sM m 45::sM m 46::sM m 47::sM m 48::sM m 49::sM m 50::sM m 51::sM m 52::sM m 53::sM m 54::sM m 55::sM m 56::sM m 57::sM m 58::sM m 59::sM m 60::sM m 61::sM m 62::sM m 63::sM m 64::sM m 65::sM m 66::sM m 67::sM m 68::sM m 69::sM m 70::sM m 71::sM m 72::sM m 73::sM m 74::sM m 75::sM m 76::sM m 77::sM m 78::sM m 79::[]):=by
 apply Array.ext'
 have h1:m.toList=(List.range 80).map (fun i=>m.getD i undef):=by
  apply List.ext_getElem
  ·simp[h]
  ·intro i h1 h2
   simp only[Array.length_toList] at h1;simp[Array.getD,h1]
 exact h1.trans rfl
set_option maxRecDepth 100000 in
set_option maxHeartbeats 4000000 in
theorem zCJ {m:Array Value}{D1 E1:Option Addr}{d1 d2 e1 e2:Nat}{w:World}  (hs:m.size=80) (m1:m.getD 1 undef=.agg #[.slice D1 d1 d2,.slice E1 e1 e2]) (Q:Exit→Act→World→Prop) (hQ:∀a':Act,a'.defers=[]→a'.tmps.size=80→a'.tmps.getD 0 undef=m.getD 0 undef→a'.tmps.getD 3 undef=.pointer (some ⟨w.heap.size,0,none⟩)→a'.tmps.getD 4 undef=.pointer (some ⟨w.heap.size+1,0,none⟩)→Q .normal a' ((w.alloc (.cells #[.slice D1 d1 d2,.slice E1 e1 e2] 26)).alloc (.cells #[.slice none 0 0,.slice none 0 0] 26))) :
 P0.wp Try.prog Q {tmps:=m,defers:=[]} w:=by
 have e:=zeU hs
 rw[show sM m 1=_ from m1] at e;rw[e];clear e;unfold P0
 go_wp2
 exact hQ _ rfl rfl rfl rfl rfl
set_option maxRecDepth 100000 in
set_option maxHeartbeats 4000000 in
theorem zCy {m:Array Value}{c3 B o n cap:Nat}{w:World}{post:Nat→World→Prop} (hn:n≤1048576) (h31:w.cell? ⟨c3,1,none⟩=some (.slice (some ⟨B,o,none⟩) n cap)) (hcall:Calls Try.prog 27 #[(m.getD 0 undef),.int .i64 (n:Int)] w fun e w'=>∃x:Nat,e=.returned (.int .i64 (x:Int))∧post x w') (hs:m.size=80) (m3:m.getD 3 undef=.pointer (some ⟨c3,0,none⟩)) (Q:Exit→Act→World→Prop) (hQ:∀(x:Nat) (w':World),post x w'→∀a':Act,a'.defers=[]→a'.tmps.size=80→a'.tmps.getD 0 undef=m.getD 0 undef→a'.tmps.getD 3 undef=.pointer (some ⟨c3,0,none⟩)→a'.tmps.getD 4 undef=m.getD 4 undef→a'.tmps.getD 5 undef=.int .i64 (x:Int)→Q .normal a' (w')) :
 P1.wp Try.prog Q {tmps:=m,defers:=[]} w:=by
 have e:=zeU hs
 rw[show sM m 3=_ from m3] at e;rw[e];clear e;unfold P1
 go_wp2_with fail
 refine hcall.mono ?_
 rintro e w' ⟨x,rfl,hp⟩
 go_wp2
 exact hQ _ _ hp _ rfl rfl rfl rfl rfl rfl
set_option maxRecDepth 100000 in
set_option maxHeartbeats 4000000 in
theorem zCi {m:Array Value}{c3 B o n cap k:Nat}{A0 A3:Option Addr}{l0 k0 l3 k3:Nat}{r1 e0 e1:Int}{w:World} (hk:k<n) (hn:n≤1048576) (h31:w.cell? ⟨c3,1,none⟩=some (.slice (some ⟨B,o,none⟩) n cap)) (h0:w.cell? ⟨B,o+k*5,none⟩=some (.slice A0 l0 k0)) (h1:w.cell? ⟨B,o+k*5+1,none⟩=some (.int .i64 r1)) (h2:w.cell? ⟨B,o+k*5+2,none⟩=some (.int .i64 e0)) (h3:w.cell? ⟨B,o+k*5+3,none⟩=some (.int .i64 e1)) (h4:w.cell? ⟨B,o+k*5+4,none⟩=some (.slice A3 l3 k3)) (hs:m.size=80) (m3:m.getD 3 undef=.pointer (some ⟨c3,0,none⟩)) (m5:m.getD 5 undef=.int .i64 (k:Int)) (Q:Exit→Act→World→Prop) (hQ:∀a':Act,a'.defers=[]→a'.tmps.size=80→a'.tmps.getD 0 undef=m.getD 0 undef→a'.tmps.getD 3 undef=.pointer (some ⟨c3,0,none⟩)→a'.tmps.getD 4 undef=m.getD 4 undef→a'.tmps.getD 5 undef=.int .i64 (k:Int)→a'.tmps.getD 6 undef=.pointer (some ⟨w.heap.size,0,none⟩)→Q .normal a' (w.alloc (.cells #[.slice A0 l0 k0,.int .i64 r1,.int .i64 e0,.int .i64 e1,.slice A3 l3 k3] 35))) :
 P2.wp Try.prog Q {tmps:=m,defers:=[]} w:=by
 have e:=zeU hs
 rw[show sM m 3=_ from m3,show sM m 5=_ from m5] at e;rw[e];clear e;unfold P2
 go_wp2
 exact hQ _ rfl rfl rfl rfl rfl rfl rfl
set_option maxRecDepth 100000 in
set_option maxHeartbeats 4000000 in
theorem zCS {m:Array Value}{w:World}{post:Nat→World→Prop} (hcall:Calls Try.prog 27 #[(m.getD 0 undef),.int .i64 24] w fun e w'=>∃x:Nat,e=.returned (.int .i64 (x:Int))∧post x w') (hs:m.size=80)  (Q:Exit→Act→World→Prop) (hQ:∀(x:Nat) (w':World),post x w'→∀a':Act,a'.defers=[]→a'.tmps.size=80→a'.tmps.getD 0 undef=m.getD 0 undef→a'.tmps.getD 3 undef=m.getD 3 undef→a'.tmps.getD 4 undef=m.getD 4 undef→a'.tmps.getD 5 undef=m.getD 5 undef→a'.tmps.getD 6 undef=m.getD 6 undef→a'.tmps.getD 18 undef=.int .i64 (x:Int)→Q .normal a' (w')) :
 P3.wp Try.prog Q {tmps:=m,defers:=[]} w:=by
 have e:=zeU hs
 rw[e];clear e;unfold P3
 go_wp2_with fail
 refine hcall.mono ?_
 rintro e w' ⟨x,rfl,hp⟩
 go_wp2
 exact hQ _ _ hp _ rfl rfl rfl rfl rfl rfl rfl rfl
set_option maxRecDepth 100000 in
set_option maxHeartbeats 4000000 in
theorem zCW {m:Array Value}{y:Int}{w:World}  (hs:m.size=80) (m18:m.getD 18 undef=.int .i64 y) (Q:Exit→Act→World→Prop) (hQ:∀a':Act,a'.defers=[]→a'.tmps.size=80→a'.tmps.getD 0 undef=m.getD 0 undef→a'.tmps.getD 3 undef=m.getD 3 undef→a'.tmps.getD 4 undef=m.getD 4 undef→a'.tmps.getD 5 undef=m.getD 5 undef→a'.tmps.getD 6 undef=m.getD 6 undef→a'.tmps.getD 18 undef=.int .i64 y→a'.tmps.getD 19 undef=.bool (y==0)→Q .normal a' (w)) :
 P4.wp Try.prog Q {tmps:=m,defers:=[]} w:=by
 have e:=zeU hs
 rw[show sM m 18=_ from m18] at e;rw[e];clear e;unfold P4
 go_wp2
 exact hQ _ rfl rfl rfl rfl rfl rfl rfl rfl rfl
set_option maxRecDepth 100000 in
set_option maxHeartbeats 4000000 in
theorem zCL {m:Array Value}{y:Int}{w:World}  (hs:m.size=80) (m18:m.getD 18 undef=.int .i64 y) (Q:Exit→Act→World→Prop) (hQ:∀a':Act,a'.defers=[]→a'.tmps.size=80→a'.tmps.getD 0 undef=m.getD 0 undef→a'.tmps.getD 3 undef=m.getD 3 undef→a'.tmps.getD 4 undef=m.getD 4 undef→a'.tmps.getD 5 undef=m.getD 5 undef→a'.tmps.getD 6 undef=m.getD 6 undef→a'.tmps.getD 18 undef=.int .i64 y→a'.tmps.getD 34 undef=.bool (y==1)→Q .normal a' (w)) :
 P6.wp Try.prog Q {tmps:=m,defers:=[]} w:=by
 have e:=zeU hs
 rw[show sM m 18=_ from m18] at e;rw[e];clear e;unfold P6
 go_wp2
 exact hQ _ rfl rfl rfl rfl rfl rfl rfl rfl rfl
set_option maxRecDepth 100000 in
set_option maxHeartbeats 4000000 in
theorem zC7 {m:Array Value}{y:Int}{w:World}  (hs:m.size=80) (m18:m.getD 18 undef=.int .i64 y) (Q:Exit→Act→World→Prop) (hQ:∀a':Act,a'.defers=[]→a'.tmps.size=80→a'.tmps.getD 0 undef=m.getD 0 undef→a'.tmps.getD 3 undef=m.getD 3 undef→a'.tmps.getD 4 undef=m.getD 4 undef→a'.tmps.getD 5 undef=m.getD 5 undef→a'.tmps.getD 6 undef=m.getD 6 undef→a'.tmps.getD 18 undef=.int .i64 y→a'.tmps.getD 52 undef=.bool (y==2)→Q .normal a' (w)) :
 P8.wp Try.prog Q {tmps:=m,defers:=[]} w:=by
 have e:=zeU hs
 rw[show sM m 18=_ from m18] at e;rw[e];clear e;unfold P8
 go_wp2
 exact hQ _ rfl rfl rfl rfl rfl rfl rfl rfl rfl
set_option maxRecDepth 100000 in
set_option maxHeartbeats 4000000 in
theorem zBC {m:Array Value}{y:Int}{w:World}  (hs:m.size=80) (m18:m.getD 18 undef=.int .i64 y) (Q:Exit→Act→World→Prop) (hQ:∀a':Act,a'.defers=[]→a'.tmps.size=80→a'.tmps.getD 0 undef=m.getD 0 undef→a'.tmps.getD 3 undef=m.getD 3 undef→a'.tmps.getD 4 undef=m.getD 4 undef→a'.tmps.getD 5 undef=m.getD 5 undef→a'.tmps.getD 6 undef=m.getD 6 undef→a'.tmps.getD 18 undef=.int .i64 y→a'.tmps.getD 66 undef=.bool (y==3)→Q .normal a' (w)) :
 P10.wp Try.prog Q {tmps:=m,defers:=[]} w:=by
 have e:=zeU hs
 rw[show sM m 18=_ from m18] at e;rw[e];clear e;unfold P10
 go_wp2
 exact hQ _ rfl rfl rfl rfl rfl rfl rfl rfl rfl
set_option maxRecDepth 100000 in
set_option maxHeartbeats 4000000 in
theorem zBH {m:Array Value}{y:Int}{w:World}  (hs:m.size=80) (m18:m.getD 18 undef=.int .i64 y) (Q:Exit→Act→World→Prop) (hQ:∀a':Act,a'.defers=[]→a'.tmps.size=80→a'.tmps.getD 0 undef=m.getD 0 undef→a'.tmps.getD 3 undef=m.getD 3 undef→a'.tmps.getD 4 undef=m.getD 4 undef→a'.tmps.getD 5 undef=m.getD 5 undef→a'.tmps.getD 6 undef=m.getD 6 undef→a'.tmps.getD 18 undef=.int .i64 y→a'.tmps.getD 71 undef=.bool (y==4)→Q .normal a' (w)) :
 P12.wp Try.prog Q {tmps:=m,defers:=[]} w:=by
 have e:=zeU hs
 rw[show sM m 18=_ from m18] at e;rw[e];clear e;unfold P12
 go_wp2
 exact hQ _ rfl rfl rfl rfl rfl rfl rfl rfl rfl
set_option maxRecDepth 100000 in
set_option maxHeartbeats 4000000 in
theorem zBU {m:Array Value}{c3 c4:Nat}{D1 E1:Option Addr}{d1 d2 e1 e2:Nat}{w:World} (h30:w.cell? ⟨c3,0,none⟩=some (.slice D1 d1 d2)) (h31:w.cell? ⟨c3,1,none⟩=some (.slice E1 e1 e2)) (hT:∃T,w.heap[c4]?=some (.cells #[.slice none 0 0,.slice none 0 0] T (0,0))) (hs:m.size=80) (m3:m.getD 3 undef=.pointer (some ⟨c3,0,none⟩)) (m4:m.getD 4 undef=.pointer (some ⟨c4,0,none⟩)) (Q:Exit→Act→World→Prop) (hQ:∀a':Act,a'.defers=[]→(results Try.f31 a'.tmps).run Try.prog ((w.setCell ⟨c4,0,none⟩ (.slice D1 d1 d2)).setCell ⟨c4,1,none⟩ (.slice E1 e1 e2))=.ok (.agg #[.slice D1 d1 d2,.slice E1 e1 e2]) ((w.setCell ⟨c4,0,none⟩ (.slice D1 d1 d2)).setCell ⟨c4,1,none⟩ (.slice E1 e1 e2))→Q .ret a' ((w.setCell ⟨c4,0,none⟩ (.slice D1 d1 d2)).setCell ⟨c4,1,none⟩ (.slice E1 e1 e2))):(Code.seq P14 .ret).wp Try.prog Q {tmps:=m,defers:=[]} w:=by
 have e:=zeU hs
 rw[show sM m 3=_ from m3,show sM m 4=_ from m4] at e;rw[e];clear e;unfold P14;obtain⟨T,hT⟩:=hT;have k0:=zaj (j:=0) hT rfl
 have k1:=zaj (j:=1) hT rfl
 have f0:=frozen_of_row w _ 0 _ _ hT
 have f1:=frozen_of_row w _ 1 _ _ hT
 have q1:=heap_setCell_same w c4 0 _ T (.slice D1 d1 d2) hT
 have q2:=heap_setCell_same _ c4 1 _ T (.slice E1 e1 e2) q1
 have y0:=zaj (j:=0) q2 rfl
 have y1:=zaj (j:=1) q2 rfl
 clear q1 q2 hT
 go_wp2
 refine hQ _ rfl ?_
 simp[results,Try.results31,go_sem,y0,y1]
set_option maxRecDepth 100000 in
set_option maxHeartbeats 4000000 in
theorem zCc {m:Array Value}{c3:Nat}{w:World}{post:Option Addr→Nat→Nat→World→Prop} (hcall:Calls Try.prog 52 #[(m.getD 0 undef)] w fun e w'=>∃D1 d1 d2,e=.returned (.slice D1 d1 d2)∧post D1 d1 d2 w'∧∃u0 u1 T,w'.heap[c3]?=some (.cells #[u0,u1] T (0,0))) (hs:m.size=80) (m3:m.getD 3 undef=.pointer (some ⟨c3,0,none⟩)) (Q:Exit→Act→World→Prop) (hQ:∀D1 d1 d2 (w':World),post D1 d1 d2 w'→∀a':Act,a'.defers=[]→a'.tmps.size=80→a'.tmps.getD 0 undef=m.getD 0 undef→a'.tmps.getD 3 undef=.pointer (some ⟨c3,0,none⟩)→a'.tmps.getD 4 undef=m.getD 4 undef→Q .normal a' (w'.setCell ⟨c3,0,none⟩ (.slice D1 d1 d2))) :
 P11.wp Try.prog Q {tmps:=m,defers:=[]} w:=by
 have e:=zeU hs
 rw[show sM m 3=_ from m3] at e;rw[e];clear e;unfold P11
 go_wp2_with fail
 refine hcall.mono ?_
 rintro e w' ⟨D1,d1,d2,rfl,hp,u0,u1,T,hT⟩
 have k0:=zaj (j:=0) hT rfl
 have f0:=frozen_of_row w' _ 0 _ _ hT
 clear hT
 go_wp2
 exact hQ _ _ _ _ hp _ rfl rfl rfl rfl rfl
set_option maxRecDepth 100000 in
set_option maxHeartbeats 4000000 in
theorem zCj {m:Array Value}{c3 c6 B o n cap k:Nat}{A0 A3:Option Addr}{l0 k0 l3 k3:Nat}{r1 e0 e1:Int}{w:World}{post:Int→Int→Option Addr→Nat→Nat→World→Prop} (hk:k<n) (hn:n≤1048576) (nB3:B≠c3) (nB6:B≠c6) (lt3:c3<w.heap.size) (lt6:c6<w.heap.size) (h0:w.cell? ⟨c3,1,none⟩=some (.slice (some ⟨B,o,none⟩) n cap)∧w.cell? ⟨c6,0,none⟩=some (.slice A0 l0 k0)∧w.cell? ⟨c6,1,none⟩=some (.int .i64 r1)∧w.cell? ⟨c6,2,none⟩=some (.int .i64 e0)∧w.cell? ⟨c6,3,none⟩=some (.int .i64 e1)∧w.cell? ⟨c6,4,none⟩=some (.slice A3 l3 k3)) (hcall:Calls Try.prog 30 #[(m.getD 0 undef),.agg #[.int .i64 e0,.int .i64 e1,.slice A3 l3 k3]] w.drew fun e w'=>∃x0 x1 A4 l4 k4,e=.returned (.agg #[.int .i64 x0,.int .i64 x1,.slice A4 l4 k4])∧post x0 x1 A4 l4 k4 w'∧w'.cell? ⟨c3,1,none⟩=some (.slice (some ⟨B,o,none⟩) n cap)∧w'.cell? ⟨c6,0,none⟩=some (.slice A0 l0 k0)∧w'.cell? ⟨c6,1,none⟩=some (.int .i64 r1)∧w'.cell? ⟨c6,2,none⟩=some (.int .i64 e0)∧w'.cell? ⟨c6,3,none⟩=some (.int .i64 e1)∧w'.cell? ⟨c6,4,none⟩=some (.slice A3 l3 k3)∧∃u0 u1 u2 u3 u4,w'.cell? ⟨B,o+k*5,none⟩=some u0∧w'.cell? ⟨B,o+k*5+1,none⟩=some u1∧w'.cell? ⟨B,o+k*5+2,none⟩=some u2∧w'.cell? ⟨B,o+k*5+3,none⟩=some u3∧w'.cell? ⟨B,o+k*5+4,none⟩=some u4∧w'.frozen? ⟨B,o+k*5,none⟩=false∧w'.frozen? ⟨B,o+k*5+1,none⟩=false∧w'.frozen? ⟨B,o+k*5+2,none⟩=false∧w'.frozen? ⟨B,o+k*5+3,none⟩=false∧w'.frozen? ⟨B,o+k*5+4,none⟩=false) (hs:m.size=80) (m3:m.getD 3 undef=.pointer (some ⟨c3,0,none⟩)) (m5:m.getD 5 undef=.int .i64 (k:Int)) (m6:m.getD 6 undef=.pointer (some ⟨c6,0,none⟩)) (Q:Exit→Act→World→Prop) (hQ:∀x0 x1 A4 l4 k4 (w':World),post x0 x1 A4 l4 k4 w'→∀a':Act,a'.defers=[]→a'.tmps.size=80→a'.tmps.getD 0 undef=m.getD 0 undef→a'.tmps.getD 3 undef=.pointer (some ⟨c3,0,none⟩)→a'.tmps.getD 4 undef=m.getD 4 undef→Q .normal a' (zfb w' B (o+k*5) (.slice A0 l0 k0) (.int .i64 r1) (.int .i64 x0) (.int .i64 x1) (.slice A4 l4 k4))) :
 P5.wp Try.prog Q {tmps:=m,defers:=[]} w:=by
 have e:=zeU hs
 rw[show sM m 3=_ from m3,show sM m 5=_ from m5,show sM m 6=_ from m6] at e;rw[e];clear e;unfold P5;obtain⟨hc3,hd0,hd1,hd2,hd3,hd4⟩:=h0;have CK:=Lib.hid hcall
 clear hcall
 go_wp2_with fail
 go_region_held3 (fun w'=>w'.cell? ⟨c3,1,none⟩=some (.slice (some ⟨B,o,none⟩) n cap)∧w'.cell? ⟨c6,0,none⟩=some (.slice A0 l0 k0)∧w'.cell? ⟨c6,1,none⟩=some (.int .i64 r1)∧w'.cell? ⟨c6,2,none⟩=some (.int .i64 e0)∧w'.cell? ⟨c6,3,none⟩=some (.int .i64 e1)∧w'.cell? ⟨c6,4,none⟩=some (.slice A3 l3 k3))
  (first|go_keep|(exact⟨by assumption,by assumption,by assumption,by assumption,by assumption,by assumption⟩)|(exact⟨by(iterate 5 rw[World.cell?_setCell_far _ _ _ _ nB3];assumption),by(iterate 5 rw[World.cell?_setCell_far _ _ _ _ nB6];assumption),by(iterate 5 rw[World.cell?_setCell_far _ _ _ _ nB6];assumption),by(iterate 5 rw[World.cell?_setCell_far _ _ _ _ nB6];assumption),by(iterate 5 rw[World.cell?_setCell_far _ _ _ _ nB6];assumption),by(iterate 5 rw[World.cell?_setCell_far _ _ _ _ nB6];assumption)⟩)|(exact⟨(World.cell?_alloc_lt _ _ _ (by first|assumption|omega)).trans (by assumption),(World.cell?_alloc_lt _ _ _ (by first|assumption|omega)).trans (by assumption),(World.cell?_alloc_lt _ _ _ (by first|assumption|omega)).trans (by assumption),(World.cell?_alloc_lt _ _ _ (by first|assumption|omega)).trans (by assumption),(World.cell?_alloc_lt _ _ _ (by first|assumption|omega)).trans (by assumption),(World.cell?_alloc_lt _ _ _ (by first|assumption|omega)).trans (by assumption)⟩))
  (first|(go_at_call 30;refine CK.out.mono ?_;rintro e w' ⟨x0,x1,A4,l4,k4,rfl,hp,ghc3,ghd0,ghd1,ghd2,ghd3,ghd4,u0,u1,u2,u3,u4,hu0,hu1,hu2,hu3,hu4,hf0,hf1,hf2,hf3,hf4⟩))
 exact hQ _ _ _ _ _ _ hp _ rfl rfl rfl rfl rfl
set_option maxRecDepth 100000 in
set_option maxHeartbeats 4000000 in
theorem zCI {m:Array Value}{c3 c6 B o n cap k:Nat}{A0 A3:Option Addr}{l0 k0 l3 k3:Nat}{r1 e0 e1:Int}{w:World}{post:Int→World→Prop} (hk:k<n) (hn:n≤1048576) (nB3:B≠c3) (nB6:B≠c6) (lt3:c3<w.heap.size) (lt6:c6<w.heap.size) (h0:w.cell? ⟨c3,1,none⟩=some (.slice (some ⟨B,o,none⟩) n cap)∧w.cell? ⟨c6,0,none⟩=some (.slice A0 l0 k0)∧w.cell? ⟨c6,1,none⟩=some (.int .i64 r1)∧w.cell? ⟨c6,2,none⟩=some (.int .i64 e0)∧w.cell? ⟨c6,3,none⟩=some (.int .i64 e1)∧w.cell? ⟨c6,4,none⟩=some (.slice A3 l3 k3)) (hcall:Calls Try.prog 29 #[(m.getD 0 undef),.slice (some ⟨w.heap.size,0,none⟩) 5 5] (w.drew.alloc (.cells #[.int .i64 0,.int .i64 1,.int .i64 3,.int .i64 5,.int .i64 (-1)] 3)) fun e w'=>∃y,e=.returned (.int .i64 y)∧post y w'∧w'.cell? ⟨c3,1,none⟩=some (.slice (some ⟨B,o,none⟩) n cap)∧w'.cell? ⟨c6,0,none⟩=some (.slice A0 l0 k0)∧w'.cell? ⟨c6,1,none⟩=some (.int .i64 r1)∧w'.cell? ⟨c6,2,none⟩=some (.int .i64 e0)∧w'.cell? ⟨c6,3,none⟩=some (.int .i64 e1)∧w'.cell? ⟨c6,4,none⟩=some (.slice A3 l3 k3)∧∃u0 u1 u2 u3 u4,w'.cell? ⟨B,o+k*5,none⟩=some u0∧w'.cell? ⟨B,o+k*5+1,none⟩=some u1∧w'.cell? ⟨B,o+k*5+2,none⟩=some u2∧w'.cell? ⟨B,o+k*5+3,none⟩=some u3∧w'.cell? ⟨B,o+k*5+4,none⟩=some u4∧w'.frozen? ⟨B,o+k*5,none⟩=false∧w'.frozen? ⟨B,o+k*5+1,none⟩=false∧w'.frozen? ⟨B,o+k*5+2,none⟩=false∧w'.frozen? ⟨B,o+k*5+3,none⟩=false∧w'.frozen? ⟨B,o+k*5+4,none⟩=false) (hs:m.size=80) (m3:m.getD 3 undef=.pointer (some ⟨c3,0,none⟩)) (m5:m.getD 5 undef=.int .i64 (k:Int)) (m6:m.getD 6 undef=.pointer (some ⟨c6,0,none⟩)) (Q:Exit→Act→World→Prop) (hQ:∀y (w':World),post y w'→∀a':Act,a'.defers=[]→a'.tmps.size=80→a'.tmps.getD 0 undef=m.getD 0 undef→a'.tmps.getD 3 undef=.pointer (some ⟨c3,0,none⟩)→a'.tmps.getD 4 undef=m.getD 4 undef→Q .normal a' (zfb w' B (o+k*5) (.slice A0 l0 k0) (.int .i64 y) (.int .i64 e0) (.int .i64 e1) (.slice A3 l3 k3))) :
 P9.wp Try.prog Q {tmps:=m,defers:=[]} w:=by
 have e:=zeU hs
 rw[show sM m 3=_ from m3,show sM m 5=_ from m5,show sM m 6=_ from m6] at e;rw[e];clear e;unfold P9;obtain⟨hc3,hd0,hd1,hd2,hd3,hd4⟩:=h0;have CK:=Lib.hid hcall
 clear hcall
 go_wp2_with fail
 go_region_held3 (fun w'=>w'.cell? ⟨c3,1,none⟩=some (.slice (some ⟨B,o,none⟩) n cap)∧w'.cell? ⟨c6,0,none⟩=some (.slice A0 l0 k0)∧w'.cell? ⟨c6,1,none⟩=some (.int .i64 r1)∧w'.cell? ⟨c6,2,none⟩=some (.int .i64 e0)∧w'.cell? ⟨c6,3,none⟩=some (.int .i64 e1)∧w'.cell? ⟨c6,4,none⟩=some (.slice A3 l3 k3))
  (first|go_keep|(exact⟨by assumption,by assumption,by assumption,by assumption,by assumption,by assumption⟩)|(exact⟨by(iterate 5 rw[World.cell?_setCell_far _ _ _ _ nB3];assumption),by(iterate 5 rw[World.cell?_setCell_far _ _ _ _ nB6];assumption),by(iterate 5 rw[World.cell?_setCell_far _ _ _ _ nB6];assumption),by(iterate 5 rw[World.cell?_setCell_far _ _ _ _ nB6];assumption),by(iterate 5 rw[World.cell?_setCell_far _ _ _ _ nB6];assumption),by(iterate 5 rw[World.cell?_setCell_far _ _ _ _ nB6];assumption)⟩)|(exact⟨(World.cell?_alloc_lt _ _ _ (by first|assumption|omega)).trans (by assumption),(World.cell?_alloc_lt _ _ _ (by first|assumption|omega)).trans (by assumption),(World.cell?_alloc_lt _ _ _ (by first|assumption|omega)).trans (by assumption),(World.cell?_alloc_lt _ _ _ (by first|assumption|omega)).trans (by assumption),(World.cell?_alloc_lt _ _ _ (by first|assumption|omega)).trans (by assumption),(World.cell?_alloc_lt _ _ _ (by first|assumption|omega)).trans (by assumption)⟩))
  (first|(go_at_call 29;refine CK.out.mono ?_;rintro e w' ⟨y,rfl,hp,ghc3,ghd0,ghd1,ghd2,ghd3,ghd4,u0,u1,u2,u3,u4,hu0,hu1,hu2,hu3,hu4,hf0,hf1,hf2,hf3,hf4⟩))
 exact hQ _ _ hp _ rfl rfl rfl rfl rfl
set_option maxRecDepth 100000 in
set_option maxHeartbeats 4000000 in
theorem zCo {m:Array Value}{c3 c6 B o n cap k:Nat}{A0 A3:Option Addr}{l0 k0 l3 k3:Nat}{r1 e0 e1:Int}{w:World}{post:Option Addr→Nat→Nat→World→Prop} (hk:k<n) (hn:n≤1048576) (nB3:B≠c3) (nB6:B≠c6) (lt3:c3<w.heap.size) (lt6:c6<w.heap.size) (h0:w.cell? ⟨c3,1,none⟩=some (.slice (some ⟨B,o,none⟩) n cap)∧w.cell? ⟨c6,0,none⟩=some (.slice A0 l0 k0)∧w.cell? ⟨c6,1,none⟩=some (.int .i64 r1)∧w.cell? ⟨c6,2,none⟩=some (.int .i64 e0)∧w.cell? ⟨c6,3,none⟩=some (.int .i64 e1)∧w.cell? ⟨c6,4,none⟩=some (.slice A3 l3 k3)) (hcall:Calls Try.prog 29 #[(m.getD 0 undef),.slice (some ⟨w.heap.size,0,none⟩) 4 4] (w.drew.alloc (.cells #[.int .i64 0,.int .i64 1,.int .i64 9,.int .i64 (-1)] 3)) fun e w1=>∃y,e=.returned (.int .i64 y)∧c3<w1.heap.size∧c6<w1.heap.size∧w1.cell? ⟨c3,1,none⟩=some (.slice (some ⟨B,o,none⟩) n cap)∧w1.cell? ⟨c6,0,none⟩=some (.slice A0 l0 k0)∧w1.cell? ⟨c6,1,none⟩=some (.int .i64 r1)∧w1.cell? ⟨c6,2,none⟩=some (.int .i64 e0)∧w1.cell? ⟨c6,3,none⟩=some (.int .i64 e1)∧w1.cell? ⟨c6,4,none⟩=some (.slice A3 l3 k3)∧Calls Try.prog 51 #[.slice A0 l0 k0,.slice (some ⟨w1.heap.size,0,none⟩) 1 1] (w1.alloc (.cells #[.int .i64 y] 3)) fun e w'=>∃A4 l4 k4,e=.returned (.slice A4 l4 k4)∧post A4 l4 k4 w'∧w'.cell? ⟨c3,1,none⟩=some (.slice (some ⟨B,o,none⟩) n cap)∧w'.cell? ⟨c6,0,none⟩=some (.slice A0 l0 k0)∧w'.cell? ⟨c6,1,none⟩=some (.int .i64 r1)∧w'.cell? ⟨c6,2,none⟩=some (.int .i64 e0)∧w'.cell? ⟨c6,3,none⟩=some (.int .i64 e1)∧w'.cell? ⟨c6,4,none⟩=some (.slice A3 l3 k3)∧∃u0 u1 u2 u3 u4,w'.cell? ⟨B,o+k*5,none⟩=some u0∧w'.cell? ⟨B,o+k*5+1,none⟩=some u1∧w'.cell? ⟨B,o+k*5+2,none⟩=some u2∧w'.cell? ⟨B,o+k*5+3,none⟩=some u3∧w'.cell? ⟨B,o+k*5+4,none⟩=some u4∧w'.frozen? ⟨B,o+k*5,none⟩=false∧w'.frozen? ⟨B,o+k*5+1,none⟩=false∧w'.frozen? ⟨B,o+k*5+2,none⟩=false∧w'.frozen? ⟨B,o+k*5+3,none⟩=false∧w'.frozen? ⟨B,o+k*5+4,none⟩=false) (hs:m.size=80) (m3:m.getD 3 undef=.pointer (some ⟨c3,0,none⟩)) (m5:m.getD 5 undef=.int .i64 (k:Int)) (m6:m.getD 6 undef=.pointer (some ⟨c6,0,none⟩)) (Q:Exit→Act→World→Prop) (hQ:∀A4 l4 k4 (w':World),post A4 l4 k4 w'→∀a':Act,a'.defers=[]→a'.tmps.size=80→a'.tmps.getD 0 undef=m.getD 0 undef→a'.tmps.getD 3 undef=.pointer (some ⟨c3,0,none⟩)→a'.tmps.getD 4 undef=m.getD 4 undef→Q .normal a' (zfb w' B (o+k*5) (.slice A4 l4 k4) (.int .i64 r1) (.int .i64 e0) (.int .i64 e1) (.slice A3 l3 k3))) :
 P7.wp Try.prog Q {tmps:=m,defers:=[]} w:=by
 have e:=zeU hs
 rw[show sM m 3=_ from m3,show sM m 5=_ from m5,show sM m 6=_ from m6] at e;rw[e];clear e;unfold P7;obtain⟨hc3,hd0,hd1,hd2,hd3,hd4⟩:=h0;have CK:=Lib.hid hcall
 clear hcall
 go_wp2_with fail
 go_region_held3 (fun w'=>w'.cell? ⟨c3,1,none⟩=some (.slice (some ⟨B,o,none⟩) n cap)∧w'.cell? ⟨c6,0,none⟩=some (.slice A0 l0 k0)∧w'.cell? ⟨c6,1,none⟩=some (.int .i64 r1)∧w'.cell? ⟨c6,2,none⟩=some (.int .i64 e0)∧w'.cell? ⟨c6,3,none⟩=some (.int .i64 e1)∧w'.cell? ⟨c6,4,none⟩=some (.slice A3 l3 k3))
  (first|go_keep|(exact⟨by assumption,by assumption,by assumption,by assumption,by assumption,by assumption⟩)|(exact⟨by(iterate 5 rw[World.cell?_setCell_far _ _ _ _ nB3];assumption),by(iterate 5 rw[World.cell?_setCell_far _ _ _ _ nB6];assumption),by(iterate 5 rw[World.cell?_setCell_far _ _ _ _ nB6];assumption),by(iterate 5 rw[World.cell?_setCell_far _ _ _ _ nB6];assumption),by(iterate 5 rw[World.cell?_setCell_far _ _ _ _ nB6];assumption),by(iterate 5 rw[World.cell?_setCell_far _ _ _ _ nB6];assumption)⟩)|(exact⟨(World.cell?_alloc_lt _ _ _ (by first|assumption|omega)).trans (by assumption),(World.cell?_alloc_lt _ _ _ (by first|assumption|omega)).trans (by assumption),(World.cell?_alloc_lt _ _ _ (by first|assumption|omega)).trans (by assumption),(World.cell?_alloc_lt _ _ _ (by first|assumption|omega)).trans (by assumption),(World.cell?_alloc_lt _ _ _ (by first|assumption|omega)).trans (by assumption),(World.cell?_alloc_lt _ _ _ (by first|assumption|omega)).trans (by assumption)⟩))
  (first|(go_at_call 29;refine CK.out.mono ?_;rintro e w1 ⟨y,rfl,lt31,lt61,hhc3,hhd0,hhd1,hhd2,hhd3,hhd4,hc2⟩;have CK2:=Lib.hid hc2;clear hc2)|(go_at_call 51;refine CK2.out.mono ?_;rintro e w' ⟨A4,l4,k4,rfl,hp,ghc3,ghd0,ghd1,ghd2,ghd3,ghd4,u0,u1,u2,u3,u4,hu0,hu1,hu2,hu3,hu4,hf0,hf1,hf2,hf3,hf4⟩))
 exact hQ _ _ _ _ hp _ rfl rfl rfl rfl rfl
theorem zfl {P:Program}{w w':World}{ops:Array Oper}{rest:List Oper}{o:Oper}{a:Act}{Q:Exit→Act→World→Prop} (hgd:o.guard=none) (s x:Operand) (t:TypeId)
  (ho:o.op=.call {callee:=.builtin .append,args:=#[s,x],argTypes:=#[t,t]}) {v:Value} (hrun:(Builtin.append_ #[t,t] o.type #[a.eval s,a.eval x]).run P w=.ok v w') (h:wpList P ops Q rest (a.put o.dst v) w'):wpList P ops Q (o::rest) a w :=
 wpList_plain hgd fun _ hK=>by
  unfold Oper.wp execOp;simp only[ho,resolve,invoke,builtin,Sem.run_bind,Sem.run_pure,Result.andThen_ok,List.map_toArray,List.map_cons,List.map_nil,hrun];exact hK _ _ h
set_option maxRecDepth 100000 in
set_option maxHeartbeats 4000000 in
theorem zBq {m:Array Value}{c3 c6 B o n cap:Nat}{A0 A3:Option Addr}{l0 k0 l3 k3:Nat}{r1 e0 e1:Int}{w:World}{post:Option Addr→Nat→Nat→World→Prop} (lt3:c3<w.heap.size) (h0:w.cell? ⟨c3,1,none⟩=some (.slice (some ⟨B,o,none⟩) n cap)∧w.cell? ⟨c6,0,none⟩=some (.slice A0 l0 k0)∧w.cell? ⟨c6,1,none⟩=some (.int .i64 r1)∧w.cell? ⟨c6,2,none⟩=some (.int .i64 e0)∧w.cell? ⟨c6,3,none⟩=some (.int .i64 e1)∧w.cell? ⟨c6,4,none⟩=some (.slice A3 l3 k3)) (happ:∃G g1 g2 w',(Builtin.append_ #[24,24] 24 #[.slice (some ⟨B,o,none⟩) n cap,.slice (some ⟨w.heap.size,0,none⟩) 1 1]).run Try.prog (w.alloc (.cells #[.slice A0 l0 k0,.int .i64 r1,.int .i64 e0,.int .i64 e1,.slice A3 l3 k3] 35))=.ok (.slice G g1 g2) w'∧post G g1 g2 w'∧∃u0 u1 T,w'.heap[c3]?=some (.cells #[u0,u1] T (0,0))) (hs:m.size=80) (m3:m.getD 3 undef=.pointer (some ⟨c3,0,none⟩)) (m6:m.getD 6 undef=.pointer (some ⟨c6,0,none⟩)) (Q:Exit→Act→World→Prop) (hQ:∀G g1 g2 (w':World),post G g1 g2 w'→∀a':Act,a'.defers=[]→a'.tmps.size=80→a'.tmps.getD 0 undef=m.getD 0 undef→a'.tmps.getD 3 undef=.pointer (some ⟨c3,0,none⟩)→a'.tmps.getD 4 undef=m.getD 4 undef→Q .normal a' (w'.setCell ⟨c3,1,none⟩ (.slice G g1 g2))) :
 P13.wp Try.prog Q {tmps:=m,defers:=[]} w:=by
 have e:=zeU hs
 rw[show sM m 3=_ from m3,show sM m 6=_ from m6] at e;rw[e];clear e;unfold P13;obtain⟨hc3,hd0,hd1,hd2,hd3,hd4⟩:=h0;obtain⟨G,g1,g2,w',hrun,hp,u0,u1,T,hT⟩:=happ;have k1:=zaj (j:=1) hT rfl
 have f1:=frozen_of_row w' _ 1 _ _ hT
 have HR:=Lib.hid hrun
 clear hT hrun
 go_wp2_with (at_builtin;refine zfl rfl _ _ 24 rfl HR.out ?_)
 exact hQ _ _ _ _ hp _ rfl rfl rfl rfl rfl
end
end Go.Proofs.Ytcpcagdialnbeaa

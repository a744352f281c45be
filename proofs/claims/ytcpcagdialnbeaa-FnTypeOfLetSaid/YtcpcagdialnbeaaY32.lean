/- Generic texts and models for the proofs of this seat: part 32. -/
import Derived.Test.YtcpcagdialnbeaaY31
import Derived.StillTailTactics
import Derived.Deep.RegionHeld3
import Derived.WalkKit
set_option linter.unusedVariables false
set_option linter.unusedSimpArgs false
namespace Go.Proofs.Ytcpcagdialnbeaa
section
open Go Go.RowKit
def DT0:Code:=.region 0 #[⟨some 2,.alloc 26,0,"l31_generate.go:91",#[],none⟩,⟨some 3,.assign (.const (.slice none 0 0)),33,"l31_generate.go:91",#[],none⟩,⟨some 4,.alloc 32,0,"l31_generate.go:91",#[],none⟩] false
def DT1:Code:=.region 1 #[⟨some 10,.move (.tmp 0),22,"l31_generate.go:92",#[],none⟩,⟨some 11,.call ⟨.value (.func 21),#[.tmp 10],#[22]⟩,47,"l31_generate.go:92",#[⟨0,.data⟩],none⟩,⟨some 5,.assign (.tmp 11),47,"l31_generate.go:92",#[⟨1,.data⟩,⟨1,.chain⟩,⟨0,.phase⟩,⟨1,.phase⟩],none⟩] false
def DT2:Code:=.region 2 #[⟨some 13,.move (.tmp 5),47,"l31_generate.go:93",#[],none⟩,⟨some 14,.call ⟨.value (.func 25),#[.tmp 13],#[47]⟩,51,"l31_generate.go:93",#[⟨0,.data⟩],none⟩,⟨some 12,.move (.tmp 14),51,"l31_generate.go:93",#[⟨1,.data⟩],none⟩,⟨some 15,.extract (.tmp 12) 0,26,"l31_generate.go:93",#[⟨2,.data⟩],none⟩,⟨some 16,.extract (.tmp 12) 1,3,"l31_generate.go:93",#[⟨2,.data⟩,{on:=6,ground:=Go.Ground.gcOnly Go.Departure.lateStores}],none⟩,⟨some 6,.alloc 26,0,"l31_generate.go:93",#[],none⟩,⟨none,.store 26 (.tmp 6) (.tmp 15),0,"l31_generate.go:93",#[⟨5,.data⟩,⟨3,.data⟩,⟨1,.chain⟩,⟨0,.phase⟩,⟨1,.phase⟩,⟨2,.phase⟩,⟨3,.phase⟩,{on:=4,ground:=Go.Ground.textOnly Go.Departure.lateStores},⟨5,.phase⟩],none⟩,⟨some 7,.assign (.tmp 16),3,"l31_generate.go:93",#[⟨4,.data⟩,⟨6,.chain⟩,⟨0,.phase⟩,⟨1,.phase⟩,⟨2,.phase⟩,⟨3,.phase⟩,⟨4,.phase⟩,⟨5,.phase⟩,⟨6,.phase⟩],none⟩] false
def DT3:Code:=.region 3 #[⟨some 17,.fieldAddr 26 (.tmp 6) 1,0,"l31_generate.go:94",#[],none⟩,⟨some 18,.load 24 (.tmp 17),24,"l31_generate.go:94",#[⟨0,.data⟩],none⟩,⟨some 19,.move (.tmp 7),3,"l31_generate.go:94",#[],none⟩,⟨some 20,.indexAddr 24 (.tmp 18) (.tmp 19),0,"l31_generate.go:94",#[⟨1,.data⟩,⟨2,.data⟩],none⟩,⟨some 21,.fieldAddr 35 (.tmp 20) 0,0,"l31_generate.go:94",#[⟨3,.data⟩],none⟩,⟨some 22,.load 33 (.tmp 21),33,"l31_generate.go:94",#[⟨4,.data⟩],none⟩,⟨some 23,.call ⟨.value (.func 26),#[.tmp 22],#[33]⟩,33,"l31_generate.go:94",#[⟨5,.data⟩],none⟩,⟨some 8,.assign (.tmp 23),33,"l31_generate.go:94",#[⟨6,.data⟩,⟨6,.chain⟩,⟨0,.phase⟩,⟨1,.phase⟩,⟨2,.phase⟩,⟨3,.phase⟩,⟨4,.phase⟩,⟨5,.phase⟩,⟨6,.phase⟩],none⟩] false
def DT4:Code:=.region 4 #[⟨some 24,.fieldAddr 26 (.tmp 6) 1,0,"l31_generate.go:95",#[],none⟩,⟨some 25,.load 24 (.tmp 24),24,"l31_generate.go:95",#[⟨0,.data⟩],none⟩,⟨some 26,.move (.tmp 7),3,"l31_generate.go:95",#[],none⟩,⟨some 27,.indexAddr 24 (.tmp 25) (.tmp 26),0,"l31_generate.go:95",#[⟨1,.data⟩,⟨2,.data⟩],none⟩,⟨some 28,.fieldAddr 35 (.tmp 27) 2,0,"l31_generate.go:95",#[⟨3,.data⟩],none⟩,⟨some 29,.load 32 (.tmp 28),32,"l31_generate.go:95",#[⟨4,.data⟩],none⟩,⟨some 9,.alloc 32,0,"l31_generate.go:95",#[],none⟩,⟨none,.store 32 (.tmp 9) (.tmp 29),0,"l31_generate.go:95",#[⟨6,.data⟩,⟨5,.data⟩,⟨0,.phase⟩,⟨1,.phase⟩,⟨2,.phase⟩,⟨3,.phase⟩,⟨4,.phase⟩,⟨5,.phase⟩,⟨6,.phase⟩],none⟩] false
def DT5:Code:=.region 5 #[⟨some 30,.move (.tmp 5),47,"l31_generate.go:96",#[],none⟩,⟨some 31,.call ⟨.value (.func 27),#[.tmp 30,.const (.int .i64 3)],#[47,3]⟩,3,"l31_generate.go:96",#[⟨0,.data⟩],none⟩,⟨some 32,.binOp .eql 3 (.tmp 31) (.const (.int .i64 0)) 3,4,"l31_generate.go:96",#[⟨1,.data⟩],none⟩] false
def DT6:Code:=.region 6 #[⟨some 33,.move (.tmp 5),47,"l31_generate.go:97",#[],none⟩,⟨some 34,.load 26 (.tmp 6),26,"l31_generate.go:97",#[],none⟩,⟨some 35,.move (.tmp 8),33,"l31_generate.go:97",#[],none⟩,⟨some 36,.move (.tmp 5),47,"l31_generate.go:97",#[],none⟩,⟨some 37,.buildSlice 33 3 #[(0,.const (.int .i64 0)),(1,.const (.int .i64 1)),(2,.const (.int .i64 3))],33,"l31_generate.go:97",#[],none⟩,⟨some 38,.call ⟨.value (.func 29),#[.tmp 36,.tmp 37],#[47,33]⟩,3,"l31_generate.go:97",#[⟨3,.data⟩,⟨4,.data⟩],none⟩,⟨some 39,.call ⟨.value (.func 28),#[.tmp 33,.tmp 34,.tmp 35,.tmp 38,.const (.int .i64 12)],#[47,26,33,3,3]⟩,32,"l31_generate.go:97",#[⟨0,.data⟩,⟨1,.data⟩,⟨2,.data⟩,⟨5,.data⟩,⟨5,.chain⟩],none⟩,⟨none,.store 32 (.tmp 9) (.tmp 39),0,"l31_generate.go:97",#[⟨6,.data⟩,⟨6,.chain⟩,⟨0,.phase⟩,⟨1,.phase⟩,⟨2,.phase⟩,⟨3,.phase⟩,⟨4,.phase⟩,⟨5,.phase⟩,⟨6,.phase⟩],none⟩] true
def DT7:Code:=.region 7 #[⟨some 40,.move (.tmp 5),47,"l31_generate.go:99",#[],none⟩,⟨some 41,.call ⟨.value (.func 27),#[.tmp 40,.const (.int .i64 8)],#[47,3]⟩,3,"l31_generate.go:99",#[⟨0,.data⟩],none⟩,⟨some 42,.binOp .eql 3 (.tmp 41) (.const (.int .i64 0)) 3,4,"l31_generate.go:99",#[⟨1,.data⟩],none⟩] false
def DT8:Code:=.region 8 #[⟨some 43,.move (.tmp 8),33,"l31_generate.go:100",#[],none⟩,⟨some 44,.move (.tmp 5),47,"l31_generate.go:100",#[],none⟩,⟨some 45,.buildSlice 33 4 #[(0,.const (.int .i64 0)),(1,.const (.int .i64 1)),(2,.const (.int .i64 9)),(3,.const (.int .i64 (-1)))],33,"l31_generate.go:100",#[],none⟩,⟨some 46,.call ⟨.value (.func 29),#[.tmp 44,.tmp 45],#[47,33]⟩,3,"l31_generate.go:100",#[⟨1,.data⟩,⟨2,.data⟩],none⟩,⟨some 47,.buildSlice 33 1 #[(0,.tmp 46)],33,"l31_generate.go:100",#[⟨3,.data⟩],none⟩,⟨some 48,.call ⟨.builtin .append,#[.tmp 43,.tmp 47],#[33,33]⟩,33,"l31_generate.go:100",#[⟨0,.data⟩,⟨4,.data⟩,⟨3,.chain⟩],none⟩,⟨some 8,.assign (.tmp 48),33,"l31_generate.go:100",#[⟨5,.data⟩,⟨5,.chain⟩,⟨0,.phase⟩,⟨1,.phase⟩,⟨2,.phase⟩,⟨3,.phase⟩,⟨4,.phase⟩,⟨5,.phase⟩],none⟩] false
def DT9:Code:=.region 9 #[⟨some 49,.move (.tmp 5),47,"l31_generate.go:102",#[],none⟩,⟨some 50,.call ⟨.value (.func 27),#[.tmp 49,.const (.int .i64 6)],#[47,3]⟩,3,"l31_generate.go:102",#[⟨0,.data⟩],none⟩,⟨some 51,.binOp .eql 3 (.tmp 50) (.const (.int .i64 0)) 3,4,"l31_generate.go:102",#[⟨1,.data⟩],none⟩] false
def DT10:Code:=.region 10 #[⟨some 52,.move (.tmp 5),47,"l31_generate.go:103",#[],none⟩,⟨some 53,.load 32 (.tmp 9),32,"l31_generate.go:103",#[],none⟩,⟨some 54,.call ⟨.value (.func 30),#[.tmp 52,.tmp 53],#[47,32]⟩,32,"l31_generate.go:103",#[⟨0,.data⟩,⟨1,.data⟩],none⟩,⟨none,.store 32 (.tmp 9) (.tmp 54),0,"l31_generate.go:103",#[⟨2,.data⟩,⟨2,.chain⟩,⟨0,.phase⟩,⟨1,.phase⟩,⟨2,.phase⟩],none⟩] false
def DT11:Code:=.region 11 #[⟨some 55,.move (.tmp 5),47,"l31_generate.go:105",#[],none⟩,⟨some 56,.load 26 (.tmp 6),26,"l31_generate.go:105",#[],none⟩,⟨some 57,.call ⟨.value (.func 31),#[.tmp 55,.tmp 56],#[47,26]⟩,26,"l31_generate.go:105",#[⟨0,.data⟩,⟨1,.data⟩],none⟩,⟨some 58,.move (.tmp 8),33,"l31_generate.go:105",#[{on:=5,ground:=Go.Ground.gcOnly Go.Departure.lateStores}],none⟩,⟨some 59,.load 32 (.tmp 9),32,"l31_generate.go:105",#[{on:=6,ground:=Go.Ground.gcOnly Go.Departure.lateStores}],none⟩,⟨none,.store 26 (.tmp 2) (.tmp 57),0,"l31_generate.go:105",#[⟨2,.data⟩,⟨2,.chain⟩,⟨0,.phase⟩,⟨1,.phase⟩,⟨2,.phase⟩,{on:=3,ground:=Go.Ground.textOnly Go.Departure.lateStores},{on:=4,ground:=Go.Ground.textOnly Go.Departure.lateStores}],none⟩,⟨some 3,.assign (.tmp 58),33,"l31_generate.go:105",#[⟨3,.data⟩,⟨5,.chain⟩,⟨0,.phase⟩,⟨1,.phase⟩,⟨2,.phase⟩,⟨3,.phase⟩,{on:=4,ground:=Go.Ground.textOnly Go.Departure.lateStores},⟨5,.phase⟩],none⟩,⟨none,.store 32 (.tmp 4) (.tmp 59),0,"l31_generate.go:105",#[⟨4,.data⟩,⟨6,.chain⟩,⟨0,.phase⟩,⟨1,.phase⟩,⟨2,.phase⟩,⟨3,.phase⟩,⟨4,.phase⟩,⟨5,.phase⟩,⟨6,.phase⟩],none⟩] true
set_option maxRecDepth 100000 in
theorem zgC {m:Array Value} (h:m.size=60):m=List.toArray (sM m 0::sM m 1::sM m 2::sM m 3::sM m 4::sM m 5::sM m 6::sM m 7::sM m 8::sM m 9::sM m 10::sM m 11::sM m 12::sM m 13::sM m 14::sM m 15::sM m 16::sM m 17::sM m 18::sM m 19::sM m 20::sM m 21::sM m 22::sM m 23::sM m 24::sM m 25::sM m 26::sM m 27::sM m 28::sM m 29::sM m 30::sM m 31::sM m 32::sM m 33::sM m 34::sM m 35::sM m 36::sM m 37::sM m 38::sM m 39::sM m 40::sM m 41::sM m 42::sM m 43::sM m 44::sM m 45::sM m 46::sM m 47::sM m 48::sM m 49::sM m 50::sM m 51::sM m 52::sM m 53::sM m 54::sM m 55::sM m 56::sM m 57::sM m 58::sM m 59::[]):=by
 apply Array.ext'
 have h1:m.toList=(List.range 60).map (fun i=>m.getD i undef):=by
  apply List.ext_getElem
  ·simp[h]
  ·intro i h1 h2
   simp only[Array.length_toList] at h1;simp[Array.getD,h1]
 exact h1.trans rfl
set_option maxRecDepth 100000 in
set_option maxHeartbeats 4000000 in
theorem zBx {m:Array Value}{c6 B o n cap k l0 k0:Nat}{A0:Option Addr}{w:World}{post:Option Addr→Nat→Nat→World→Prop} (hk:k<n) (hn:n≤1048576) (h61:w.cell? ⟨c6,1,none⟩=some (.slice (some ⟨B,o,none⟩) n cap)) (h0:w.cell? ⟨B,o+k*5,none⟩=some (.slice A0 l0 k0)) (hcall:Calls Try.prog 26 #[.slice A0 l0 k0] w fun e w'=>∃V v1 v2,e=.returned (.slice V v1 v2)∧post V v1 v2 w') (hs:m.size=60) (m6:m.getD 6 undef=.pointer (some ⟨c6,0,none⟩)) (m7:m.getD 7 undef=.int .i64 (k:Int)) (Q:Exit→Act→World→Prop) (hQ:∀V v1 v2 (w':World),post V v1 v2 w'→∀a':Act,a'.defers=[]→a'.tmps.size=60→a'.tmps.getD 2 undef=m.getD 2 undef→a'.tmps.getD 4 undef=m.getD 4 undef→a'.tmps.getD 5 undef=m.getD 5 undef→a'.tmps.getD 6 undef=.pointer (some ⟨c6,0,none⟩)→a'.tmps.getD 7 undef=.int .i64 (k:Int)→a'.tmps.getD 8 undef=.slice V v1 v2→Q .normal a' (w')) :
 DT3.wp Try.prog Q {tmps:=m,defers:=[]} w:=by
 have e:=zgC hs
 rw[show sM m 6=_ from m6,show sM m 7=_ from m7] at e;rw[e];clear e;unfold DT3
 go_wp2_with fail
 refine hcall.mono ?_
 rintro e w' ⟨V,v1,v2,rfl,hp⟩
 go_wp2
 exact hQ _ _ _ _ hp _ rfl rfl rfl rfl rfl rfl rfl rfl
set_option maxRecDepth 100000 in
set_option maxHeartbeats 4000000 in
theorem zB8 {m:Array Value}{c6 B o n cap k l3 k3:Nat}{e0 e1:Int}{A3:Option Addr}{w:World} (hk:k<n) (hn:n≤1048576) (h61:w.cell? ⟨c6,1,none⟩=some (.slice (some ⟨B,o,none⟩) n cap)) (h2:w.cell? ⟨B,o+k*5+2,none⟩=some (.int .i64 e0)) (h3:w.cell? ⟨B,o+k*5+3,none⟩=some (.int .i64 e1)) (h4:w.cell? ⟨B,o+k*5+4,none⟩=some (.slice A3 l3 k3)) (hs:m.size=60) (m6:m.getD 6 undef=.pointer (some ⟨c6,0,none⟩)) (m7:m.getD 7 undef=.int .i64 (k:Int)) (Q:Exit→Act→World→Prop) (hQ:∀a':Act,a'.defers=[]→a'.tmps.size=60→a'.tmps.getD 2 undef=m.getD 2 undef→a'.tmps.getD 4 undef=m.getD 4 undef→a'.tmps.getD 5 undef=m.getD 5 undef→a'.tmps.getD 6 undef=.pointer (some ⟨c6,0,none⟩)→a'.tmps.getD 7 undef=.int .i64 (k:Int)→a'.tmps.getD 8 undef=m.getD 8 undef→a'.tmps.getD 9 undef=.pointer (some ⟨w.heap.size,0,none⟩)→Q .normal a' (w.alloc (.cells #[.int .i64 e0,.int .i64 e1,.slice A3 l3 k3] 32))) :
 DT4.wp Try.prog Q {tmps:=m,defers:=[]} w:=by
 have e:=zgC hs
 rw[show sM m 6=_ from m6,show sM m 7=_ from m7] at e;rw[e];clear e;unfold DT4
 go_wp2
 exact hQ _ rfl rfl rfl rfl rfl rfl rfl rfl rfl
set_option maxRecDepth 100000 in
set_option maxHeartbeats 4000000 in
theorem zAU {m:Array Value}{w:World}{post:Nat→World→Prop} (hcall:Calls Try.prog 27 #[(m.getD 5 undef),.int .i64 3] w fun e w'=>∃x:Nat,e=.returned (.int .i64 (x:Int))∧post x w') (hs:m.size=60)  (Q:Exit→Act→World→Prop) (hQ:∀(x:Nat) (w':World),post x w'→∀a':Act,a'.defers=[]→a'.tmps.size=60→a'.tmps.getD 2 undef=m.getD 2 undef→a'.tmps.getD 4 undef=m.getD 4 undef→a'.tmps.getD 5 undef=m.getD 5 undef→a'.tmps.getD 6 undef=m.getD 6 undef→a'.tmps.getD 7 undef=m.getD 7 undef→a'.tmps.getD 8 undef=m.getD 8 undef→a'.tmps.getD 9 undef=m.getD 9 undef→a'.tmps.getD 32 undef=.bool ((x:Int)==0)→Q .normal a' (w')) :
 DT5.wp Try.prog Q {tmps:=m,defers:=[]} w:=by
 have e:=zgC hs
 rw[e];clear e;unfold DT5
 go_wp2_with fail
 refine hcall.mono ?_
 rintro e w' ⟨x,rfl,hp⟩
 go_wp2
 exact hQ _ _ hp _ rfl rfl rfl rfl rfl rfl rfl rfl rfl rfl
set_option maxRecDepth 100000 in
set_option maxHeartbeats 4000000 in
theorem zBG {m:Array Value}{w:World}{post:Nat→World→Prop} (hcall:Calls Try.prog 27 #[(m.getD 5 undef),.int .i64 8] w fun e w'=>∃x:Nat,e=.returned (.int .i64 (x:Int))∧post x w') (hs:m.size=60)  (Q:Exit→Act→World→Prop) (hQ:∀(x:Nat) (w':World),post x w'→∀a':Act,a'.defers=[]→a'.tmps.size=60→a'.tmps.getD 2 undef=m.getD 2 undef→a'.tmps.getD 4 undef=m.getD 4 undef→a'.tmps.getD 5 undef=m.getD 5 undef→a'.tmps.getD 6 undef=m.getD 6 undef→a'.tmps.getD 7 undef=m.getD 7 undef→a'.tmps.getD 8 undef=m.getD 8 undef→a'.tmps.getD 9 undef=m.getD 9 undef→a'.tmps.getD 42 undef=.bool ((x:Int)==0)→Q .normal a' (w')) :
 DT7.wp Try.prog Q {tmps:=m,defers:=[]} w:=by
 have e:=zgC hs
 rw[e];clear e;unfold DT7
 go_wp2_with fail
 refine hcall.mono ?_
 rintro e w' ⟨x,rfl,hp⟩
 go_wp2
 exact hQ _ _ hp _ rfl rfl rfl rfl rfl rfl rfl rfl rfl rfl
set_option maxRecDepth 100000 in
set_option maxHeartbeats 4000000 in
theorem zBh {m:Array Value}{w:World}{post:Nat→World→Prop} (hcall:Calls Try.prog 27 #[(m.getD 5 undef),.int .i64 6] w fun e w'=>∃x:Nat,e=.returned (.int .i64 (x:Int))∧post x w') (hs:m.size=60)  (Q:Exit→Act→World→Prop) (hQ:∀(x:Nat) (w':World),post x w'→∀a':Act,a'.defers=[]→a'.tmps.size=60→a'.tmps.getD 2 undef=m.getD 2 undef→a'.tmps.getD 4 undef=m.getD 4 undef→a'.tmps.getD 5 undef=m.getD 5 undef→a'.tmps.getD 6 undef=m.getD 6 undef→a'.tmps.getD 7 undef=m.getD 7 undef→a'.tmps.getD 8 undef=m.getD 8 undef→a'.tmps.getD 9 undef=m.getD 9 undef→a'.tmps.getD 51 undef=.bool ((x:Int)==0)→Q .normal a' (w')) :
 DT9.wp Try.prog Q {tmps:=m,defers:=[]} w:=by
 have e:=zgC hs
 rw[e];clear e;unfold DT9
 go_wp2_with fail
 refine hcall.mono ?_
 rintro e w' ⟨x,rfl,hp⟩
 go_wp2
 exact hQ _ _ hp _ rfl rfl rfl rfl rfl rfl rfl rfl rfl rfl
set_option maxRecDepth 100000 in
set_option maxHeartbeats 4000000 in
theorem zzt {m:Array Value}{c9:Nat}{T9:TypeId}{e0 e1:Int}{A3:Option Addr}{l3 k3:Nat}{w:World}{post:Int→Int→Option Addr→Nat→Nat→World→Prop} (h9:w.heap[c9]?=some (.cells #[.int .i64 e0,.int .i64 e1,.slice A3 l3 k3] T9 (0,0))) (hcall:Calls Try.prog 30 #[(m.getD 5 undef),.agg #[.int .i64 e0,.int .i64 e1,.slice A3 l3 k3]] w fun e w'=>∃x0 x1 A4 l4 k4,e=.returned (.agg #[.int .i64 x0,.int .i64 x1,.slice A4 l4 k4])∧post x0 x1 A4 l4 k4 w'∧w'.heap[c9]?=some (.cells #[.int .i64 e0,.int .i64 e1,.slice A3 l3 k3] T9 (0,0))) (hs:m.size=60) (m9:m.getD 9 undef=.pointer (some ⟨c9,0,none⟩)) (Q:Exit→Act→World→Prop) (hQ:∀x0 x1 A4 l4 k4 (w':World),post x0 x1 A4 l4 k4 w'→∀a':Act,a'.defers=[]→a'.tmps.size=60→a'.tmps.getD 2 undef=m.getD 2 undef→a'.tmps.getD 4 undef=m.getD 4 undef→a'.tmps.getD 5 undef=m.getD 5 undef→a'.tmps.getD 6 undef=m.getD 6 undef→a'.tmps.getD 7 undef=m.getD 7 undef→a'.tmps.getD 8 undef=m.getD 8 undef→a'.tmps.getD 9 undef=.pointer (some ⟨c9,0,none⟩)→Q .normal a' (((w'.setCell ⟨c9,0,none⟩ (.int .i64 x0)).setCell ⟨c9,1,none⟩ (.int .i64 x1)).setCell ⟨c9,2,none⟩ (.slice A4 l4 k4))) :
 DT10.wp Try.prog Q {tmps:=m,defers:=[]} w:=by
 have e:=zgC hs
 rw[show sM m 9=_ from m9] at e;rw[e];clear e;unfold DT10;have k0:=zaj (j:=0) h9 rfl
 have k1:=zaj (j:=1) h9 rfl
 have k2:=zaj (j:=2) h9 rfl
 go_wp2_with fail
 refine hcall.mono ?_
 rintro e w' ⟨x0,x1,A4,l4,k4,rfl,hp,hT⟩
 have j0:=zaj (j:=0) hT rfl
 have j1:=zaj (j:=1) hT rfl
 have j2:=zaj (j:=2) hT rfl
 have f0:=frozen_of_row w' _ 0 _ _ hT
 have f1:=frozen_of_row w' _ 1 _ _ hT
 have f2:=frozen_of_row w' _ 2 _ _ hT
 clear hT h9
 go_wp2
 exact hQ _ _ _ _ _ _ hp _ rfl rfl rfl rfl rfl rfl rfl rfl rfl
set_option maxRecDepth 100000 in
set_option maxHeartbeats 4000000 in
theorem zBw {m:Array Value}{c6 c9 d1 d2 e1 e2 v1 v2:Nat}{D1 E1 V:Option Addr}{w:World}{post:Int→Int→Option Addr→Nat→Nat→World→Prop} (n96:c9≠c6) (lt6:c6<w.heap.size) (h0:w.cell? ⟨c6,0,none⟩=some (.slice D1 d1 d2)∧w.cell? ⟨c6,1,none⟩=some (.slice E1 e1 e2)) (hcall:Calls Try.prog 29 #[(m.getD 5 undef),.slice (some ⟨w.heap.size,0,none⟩) 3 3] (w.drew.alloc (.cells #[.int .i64 0,.int .i64 1,.int .i64 3] 3)) fun e w1=>∃y,e=.returned (.int .i64 y)∧c6<w1.heap.size∧w1.cell? ⟨c6,0,none⟩=some (.slice D1 d1 d2)∧w1.cell? ⟨c6,1,none⟩=some (.slice E1 e1 e2)∧Calls Try.prog 28 #[(m.getD 5 undef),.agg #[.slice D1 d1 d2,.slice E1 e1 e2],.slice V v1 v2,.int .i64 y,.int .i64 12] w1 fun e w'=>∃x0 x1 A4 l4 k4,e=.returned (.agg #[.int .i64 x0,.int .i64 x1,.slice A4 l4 k4])∧post x0 x1 A4 l4 k4 w'∧w'.cell? ⟨c6,0,none⟩=some (.slice D1 d1 d2)∧w'.cell? ⟨c6,1,none⟩=some (.slice E1 e1 e2)∧∃u0 u1 u2,w'.cell? ⟨c9,0,none⟩=some u0∧w'.cell? ⟨c9,1,none⟩=some u1∧w'.cell? ⟨c9,2,none⟩=some u2∧w'.frozen? ⟨c9,0,none⟩=false∧w'.frozen? ⟨c9,1,none⟩=false∧w'.frozen? ⟨c9,2,none⟩=false) (hs:m.size=60) (m6:m.getD 6 undef=.pointer (some ⟨c6,0,none⟩)) (m8:m.getD 8 undef=.slice V v1 v2) (m9:m.getD 9 undef=.pointer (some ⟨c9,0,none⟩)) (Q:Exit→Act→World→Prop) (hQ:∀x0 x1 A4 l4 k4 (w':World),post x0 x1 A4 l4 k4 w'→∀a':Act,a'.defers=[]→a'.tmps.size=60→a'.tmps.getD 2 undef=m.getD 2 undef→a'.tmps.getD 4 undef=m.getD 4 undef→a'.tmps.getD 5 undef=m.getD 5 undef→a'.tmps.getD 6 undef=.pointer (some ⟨c6,0,none⟩)→a'.tmps.getD 7 undef=m.getD 7 undef→a'.tmps.getD 8 undef=.slice V v1 v2→a'.tmps.getD 9 undef=.pointer (some ⟨c9,0,none⟩)→Q .normal a' (((w'.setCell ⟨c9,0,none⟩ (.int .i64 x0)).setCell ⟨c9,1,none⟩ (.int .i64 x1)).setCell ⟨c9,2,none⟩ (.slice A4 l4 k4))) :
 DT6.wp Try.prog Q {tmps:=m,defers:=[]} w:=by
 have e:=zgC hs
 rw[show sM m 6=_ from m6,show sM m 8=_ from m8,show sM m 9=_ from m9] at e;rw[e];clear e;unfold DT6;obtain⟨hc0,hc1⟩:=h0;have CK:=Lib.hid hcall
 clear hcall
 go_wp2_with fail
 go_region_held3 (fun w'=>w'.cell? ⟨c6,0,none⟩=some (.slice D1 d1 d2)∧w'.cell? ⟨c6,1,none⟩=some (.slice E1 e1 e2))
  (first|go_keep|(exact⟨by assumption,by assumption⟩)|(exact⟨by(iterate 3 rw[World.cell?_setCell_far _ _ _ _ n96];assumption),by(iterate 3 rw[World.cell?_setCell_far _ _ _ _ n96];assumption)⟩)|(exact⟨(World.cell?_alloc_lt _ _ _ (by first|assumption|omega)).trans (by assumption),(World.cell?_alloc_lt _ _ _ (by first|assumption|omega)).trans (by assumption)⟩))
  (first|(go_at_call 29;refine CK.out.mono ?_;rintro e w1 ⟨y,rfl,lt61,hhc0,hhc1,hc2⟩;have CK2:=Lib.hid hc2;clear hc2)|(go_at_call 28;refine CK2.out.mono ?_;rintro e w' ⟨x0,x1,A4,l4,k4,rfl,hp,ghc0,ghc1,u0,u1,u2,hu0,hu1,hu2,hf0,hf1,hf2⟩))
 exact hQ _ _ _ _ _ _ hp _ rfl rfl rfl rfl rfl rfl rfl rfl rfl
theorem zln {P:Program}{w w':World}{ops:Array Oper}{rest:List Oper}{o:Oper}{a:Act}{Q:Exit→Act→World→Prop} (hgd:o.guard=none) (s x:Operand) (t:TypeId)
  (ho:o.op=.call {callee:=.builtin .append,args:=#[s,x],argTypes:=#[t,t]}) {v:Value} (hrun:(Builtin.append_ #[t,t] o.type #[a.eval s,a.eval x]).run P w=.ok v w') (h:wpList P ops Q rest (a.put o.dst v) w'):wpList P ops Q (o::rest) a w :=
 wpList_plain hgd fun _ hK=>by
  unfold Oper.wp execOp;simp only[ho,resolve,invoke,builtin,Sem.run_bind,Sem.run_pure,Result.andThen_ok,List.map_toArray,List.map_cons,List.map_nil,hrun];exact hK _ _ h
set_option maxRecDepth 100000 in
set_option maxHeartbeats 4000000 in
theorem zBp {m:Array Value}{v1 v2:Nat}{V:Option Addr}{w:World}{post:Option Addr→Nat→Nat→World→Prop} (hcall:Calls Try.prog 29 #[(m.getD 5 undef),.slice (some ⟨w.heap.size,0,none⟩) 4 4] (w.alloc (.cells #[.int .i64 0,.int .i64 1,.int .i64 9,.int .i64 (-1)] 3)) fun e w1=>∃y,e=.returned (.int .i64 y)∧∃G g1 g2 w',(Builtin.append_ #[33,33] 33 #[.slice V v1 v2,.slice (some ⟨w1.heap.size,0,none⟩) 1 1]).run Try.prog (w1.alloc (.cells #[.int .i64 y] 3))=.ok (.slice G g1 g2) w'∧post G g1 g2 w') (hs:m.size=60) (m8:m.getD 8 undef=.slice V v1 v2) (Q:Exit→Act→World→Prop) (hQ:∀G g1 g2 (w':World),post G g1 g2 w'→∀a':Act,a'.defers=[]→a'.tmps.size=60→a'.tmps.getD 2 undef=m.getD 2 undef→a'.tmps.getD 4 undef=m.getD 4 undef→a'.tmps.getD 5 undef=m.getD 5 undef→a'.tmps.getD 6 undef=m.getD 6 undef→a'.tmps.getD 7 undef=m.getD 7 undef→a'.tmps.getD 9 undef=m.getD 9 undef→a'.tmps.getD 8 undef=.slice G g1 g2→Q .normal a' (w')) :
 DT8.wp Try.prog Q {tmps:=m,defers:=[]} w:=by
 have e:=zgC hs
 rw[show sM m 8=_ from m8] at e;rw[e];clear e;unfold DT8
 go_wp2_with fail
 refine hcall.mono ?_
 rintro e w1 ⟨y,rfl,G,g1,g2,w',hrun,hp⟩
 have HR:=Lib.hid hrun
 clear hrun hcall
 go_wp2_with (at_builtin;refine zln rfl _ _ 33 rfl HR.out ?_)
 go_wp2
 exact hQ _ _ _ _ hp _ rfl rfl rfl rfl rfl rfl rfl rfl rfl
set_option maxRecDepth 100000 in
set_option maxHeartbeats 4000000 in
theorem zyY {m:Array Value}{c2 c4 c6 c9 d1 d2 e1 e2 v1 v2 l3 k3:Nat}{x0 x1:Int}{D1 E1 V A3:Option Addr}{w:World}{post:Option Addr→Nat→Nat→Option Addr→Nat→Nat→World→Prop} (n26:c2≠c6) (n29:c2≠c9) (n46:c4≠c6) (n49:c4≠c9) (h0:w.cell? ⟨c6,0,none⟩=some (.slice D1 d1 d2)∧w.cell? ⟨c6,1,none⟩=some (.slice E1 e1 e2)∧w.cell? ⟨c9,0,none⟩=some (.int .i64 x0)∧w.cell? ⟨c9,1,none⟩=some (.int .i64 x1)∧w.cell? ⟨c9,2,none⟩=some (.slice A3 l3 k3)) (hcall:Calls Try.prog 31 #[(m.getD 5 undef),.agg #[.slice D1 d1 d2,.slice E1 e1 e2]] w.drew fun e w'=>∃D2 g1 g2 E2 h1 h2,e=.returned (.agg #[.slice D2 g1 g2,.slice E2 h1 h2])∧post D2 g1 g2 E2 h1 h2 w'∧w'.cell? ⟨c6,0,none⟩=some (.slice D1 d1 d2)∧w'.cell? ⟨c6,1,none⟩=some (.slice E1 e1 e2)∧w'.cell? ⟨c9,0,none⟩=some (.int .i64 x0)∧w'.cell? ⟨c9,1,none⟩=some (.int .i64 x1)∧w'.cell? ⟨c9,2,none⟩=some (.slice A3 l3 k3)∧∃u0 u1 u2 u3 u4,w'.cell? ⟨c2,0,none⟩=some u0∧w'.cell? ⟨c2,1,none⟩=some u1∧w'.frozen? ⟨c2,0,none⟩=false∧w'.frozen? ⟨c2,1,none⟩=false∧((w'.setCell ⟨c2,0,none⟩ (.slice D2 g1 g2)).setCell ⟨c2,1,none⟩ (.slice E2 h1 h2)).cell? ⟨c4,0,none⟩=some u2∧((w'.setCell ⟨c2,0,none⟩ (.slice D2 g1 g2)).setCell ⟨c2,1,none⟩ (.slice E2 h1 h2)).cell? ⟨c4,1,none⟩=some u3∧((w'.setCell ⟨c2,0,none⟩ (.slice D2 g1 g2)).setCell ⟨c2,1,none⟩ (.slice E2 h1 h2)).cell? ⟨c4,2,none⟩=some u4∧((w'.setCell ⟨c2,0,none⟩ (.slice D2 g1 g2)).setCell ⟨c2,1,none⟩ (.slice E2 h1 h2)).frozen? ⟨c4,0,none⟩=false∧((w'.setCell ⟨c2,0,none⟩ (.slice D2 g1 g2)).setCell ⟨c2,1,none⟩ (.slice E2 h1 h2)).frozen? ⟨c4,1,none⟩=false∧((w'.setCell ⟨c2,0,none⟩ (.slice D2 g1 g2)).setCell ⟨c2,1,none⟩ (.slice E2 h1 h2)).frozen? ⟨c4,2,none⟩=false) (hs:m.size=60) (m2:m.getD 2 undef=.pointer (some ⟨c2,0,none⟩)) (m4:m.getD 4 undef=.pointer (some ⟨c4,0,none⟩)) (m6:m.getD 6 undef=.pointer (some ⟨c6,0,none⟩)) (m8:m.getD 8 undef=.slice V v1 v2) (m9:m.getD 9 undef=.pointer (some ⟨c9,0,none⟩)) (Q:Exit→Act→World→Prop) (hQ:∀D2 g1 g2 E2 h1 h2 (w':World),post D2 g1 g2 E2 h1 h2 w'→∀a':Act,a'.defers=[]→a'.tmps.size=60→a'.tmps.getD 2 undef=.pointer (some ⟨c2,0,none⟩)→a'.tmps.getD 4 undef=.pointer (some ⟨c4,0,none⟩)→a'.tmps.getD 5 undef=m.getD 5 undef→a'.tmps.getD 6 undef=.pointer (some ⟨c6,0,none⟩)→a'.tmps.getD 8 undef=.slice V v1 v2→a'.tmps.getD 9 undef=.pointer (some ⟨c9,0,none⟩)→a'.tmps.getD 3 undef=.slice V v1 v2→Q .normal a' (((((w'.setCell ⟨c2,0,none⟩ (.slice D2 g1 g2)).setCell ⟨c2,1,none⟩ (.slice E2 h1 h2)).setCell ⟨c4,0,none⟩ (.int .i64 x0)).setCell ⟨c4,1,none⟩ (.int .i64 x1)).setCell ⟨c4,2,none⟩ (.slice A3 l3 k3))) :
 DT11.wp Try.prog Q {tmps:=m,defers:=[]} w:=by
 have e:=zgC hs
 rw[show sM m 2=_ from m2,show sM m 4=_ from m4,show sM m 6=_ from m6,show sM m 8=_ from m8,show sM m 9=_ from m9] at e;rw[e];clear e;unfold DT11;obtain⟨hc0,hc1,hc2,hc3,hc4⟩:=h0;have CK:=Lib.hid hcall
 clear hcall
 go_wp2_with fail
 go_region_held3 (fun w'=>w'.cell? ⟨c6,0,none⟩=some (.slice D1 d1 d2)∧w'.cell? ⟨c6,1,none⟩=some (.slice E1 e1 e2)∧w'.cell? ⟨c9,0,none⟩=some (.int .i64 x0)∧w'.cell? ⟨c9,1,none⟩=some (.int .i64 x1)∧w'.cell? ⟨c9,2,none⟩=some (.slice A3 l3 k3))
  (first|go_keep|(exact⟨by assumption,by assumption,by assumption,by assumption,by assumption⟩)|(exact⟨by(rw[World.cell?_setCell_far _ _ _ _ n26,World.cell?_setCell_far _ _ _ _ n26];assumption),by(rw[World.cell?_setCell_far _ _ _ _ n26,World.cell?_setCell_far _ _ _ _ n26];assumption),by(rw[World.cell?_setCell_far _ _ _ _ n29,World.cell?_setCell_far _ _ _ _ n29];assumption),by(rw[World.cell?_setCell_far _ _ _ _ n29,World.cell?_setCell_far _ _ _ _ n29];assumption),by(rw[World.cell?_setCell_far _ _ _ _ n29,World.cell?_setCell_far _ _ _ _ n29];assumption)⟩)|(exact⟨by(iterate 3 rw[World.cell?_setCell_far _ _ _ _ n46];assumption),by(iterate 3 rw[World.cell?_setCell_far _ _ _ _ n46];assumption),by(iterate 3 rw[World.cell?_setCell_far _ _ _ _ n49];assumption),by(iterate 3 rw[World.cell?_setCell_far _ _ _ _ n49];assumption),by(iterate 3 rw[World.cell?_setCell_far _ _ _ _ n49];assumption)⟩)|(exact⟨(World.cell?_alloc_lt _ _ _ (by first|assumption|omega)).trans (by assumption),(World.cell?_alloc_lt _ _ _ (by first|assumption|omega)).trans (by assumption),(World.cell?_alloc_lt _ _ _ (by first|assumption|omega)).trans (by assumption),(World.cell?_alloc_lt _ _ _ (by first|assumption|omega)).trans (by assumption),(World.cell?_alloc_lt _ _ _ (by first|assumption|omega)).trans (by assumption)⟩))
  (first|(go_at_call 31;refine CK.out.mono ?_;rintro e w' ⟨D2,g1,g2,E2,h1,h2,rfl,hp,ghc0,ghc1,ghc2,ghc3,ghc4,u0,u1,u2,u3,u4,hu0,hu1,hf0,hf1,hu2,hu3,hu4,hf2,hf3,hf4⟩))
 exact hQ _ _ _ _ _ _ _ hp _ rfl rfl rfl rfl rfl rfl rfl rfl rfl
set_option maxRecDepth 100000 in
set_option maxHeartbeats 4000000 in
theorem zBE {m:Array Value}{A:Option Addr}{n c:Nat}{w:World}  (hs:m.size=60) (m0:m.getD 0 undef=.slice A n c) (Q:Exit→Act→World→Prop) (hQ:∀a':Act,a'.defers=[]→a'.tmps.size=60→a'.tmps.getD 0 undef=.slice A n c→a'.tmps.getD 2 undef=.pointer (some ⟨w.heap.size,0,none⟩)→a'.tmps.getD 4 undef=.pointer (some ⟨w.heap.size+1,0,none⟩)→Q .normal a' ((w.alloc (.cells #[.slice none 0 0,.slice none 0 0] 26)).alloc (.cells #[.int .i64 0,.int .i64 0,.slice none 0 0] 32))) :
 DT0.wp Try.prog Q {tmps:=m,defers:=[]} w:=by
 have e:=zgC hs
 rw[show sM m 0=_ from m0] at e;rw[e];clear e;unfold DT0
 go_wp2
 exact hQ _ rfl rfl rfl rfl rfl
set_option maxRecDepth 100000 in
set_option maxHeartbeats 4000000 in
theorem zB3 {m:Array Value}{A:Option Addr}{n c b:Nat}{w:World}{post:World→Prop} (hcall:Calls Try.prog 21 #[.slice A n c] w fun e w'=>e=.returned (zaU b)∧post w') (hs:m.size=60) (m0:m.getD 0 undef=.slice A n c) (Q:Exit→Act→World→Prop) (hQ:∀(w':World),post w'→∀a':Act,a'.defers=[]→a'.tmps.size=60→a'.tmps.getD 0 undef=.slice A n c→a'.tmps.getD 2 undef=m.getD 2 undef→a'.tmps.getD 4 undef=m.getD 4 undef→a'.tmps.getD 5 undef=zaU b→Q .normal a' (w')) :
 DT1.wp Try.prog Q {tmps:=m,defers:=[]} w:=by
 have e:=zgC hs
 rw[show sM m 0=_ from m0] at e;rw[e];clear e;unfold DT1
 go_wp2_with fail
 refine hcall.mono ?_
 rintro e w' ⟨rfl,hp⟩
 go_wp2
 exact hQ _ hp _ rfl rfl rfl rfl rfl rfl
set_option maxRecDepth 100000 in
set_option maxHeartbeats 4000000 in
theorem zA3 {m:Array Value}{w:World}{post:Option Addr→Nat→Nat→Option Addr→Nat→Nat→Nat→World→Prop} (hcall:Calls Try.prog 25 #[(m.getD 5 undef)] w fun e w'=>∃D1 d1 d2 E1 e1 e2 y,e=.returned (.tuple #[.agg #[.slice D1 d1 d2,.slice E1 e1 e2],.int .i64 ((y:Nat):Int)])∧post D1 d1 d2 E1 e1 e2 y w') (hs:m.size=60)  (Q:Exit→Act→World→Prop) (hQ:∀D1 d1 d2 E1 e1 e2 (y:Nat) (w':World),post D1 d1 d2 E1 e1 e2 y w'→∀a':Act,a'.defers=[]→a'.tmps.size=60→a'.tmps.getD 2 undef=m.getD 2 undef→a'.tmps.getD 4 undef=m.getD 4 undef→a'.tmps.getD 5 undef=m.getD 5 undef→a'.tmps.getD 6 undef=.pointer (some ⟨w'.heap.size,0,none⟩)→a'.tmps.getD 7 undef=.int .i64 ((y:Nat):Int)→Q .normal a' (w'.alloc (.cells #[.slice D1 d1 d2,.slice E1 e1 e2] 26))) :
 DT2.wp Try.prog Q {tmps:=m,defers:=[]} w:=by
 have e:=zgC hs
 rw[e];clear e;unfold DT2
 go_wp2_with fail
 refine hcall.mono ?_
 rintro e w' ⟨D1,d1,d2,E1,e1,e2,y,rfl,hp⟩
 go_wp2
 exact hQ _ _ _ _ _ _ _ _ hp _ rfl rfl rfl rfl rfl rfl rfl
theorem zyt:cOf Try.f12=.seq DT0 (.seq DT1 (.seq DT2 (.seq DT3 (.seq DT4 (.seq (.seq DT5 (.cond (.tmp 32) DT6 .skip)) (.seq (.seq DT7 (.cond (.tmp 42) DT8 .skip)) (.seq (.seq DT9 (.cond (.tmp 51) DT10 .skip)) (.seq DT11 .ret)))))))):=by kernel_rfl
end
section
open Go Go.RowKit
section
variable {ns:List Nat} (hns:ns.length≤2000) {w0:World}{p0:Stb}{b:Nat}
include hns
set_option maxHeartbeats 4000000 in
theorem zsB {pos:Nat} (hpos:pos+102000≤800000) (hz:Zp p0 w0) (ht:TK p0 w0 (fun _=>False) b (Qr ns pos)):Calls Try.prog 25 #[zaU b] w0 fun e w'=>∃v p' D R pos' f,e=.returned (.tuple #[v,.int .i64 ((f:Nat):Int)])∧D∈zb9∧GR R∧f<R.length∧(∀x∈R,ziG x)∧RepS p' w' v (pgC D R) ∧
  Evo (·=b) p0 w0 p' w'∧Zp p' w'∧TK p' w' (fun _=>False) b (Qr ns pos')∧pos'≤pos+54000∧∃D1 d1 d2 B o cap,v=.agg #[.slice D1 d1 d2,.slice (some ⟨B,o,none⟩) R.length cap]∧w0.heap.size≤B∧p'.ok B 5∧(∀j,p'.ok B j→j=5)∧∃a T,w'.heap[B]?=some (.cells a T (0,0))∧o+R.length*5≤a.size∧o+cap*5≤a.size:=by
 have hb:=ht.lt
 have hea:=zav (p:=p0) (w:=w0) (.cells #[.slice none 0 0,.slice none 0 0] 26) 0 (·=b)
 have hz1:Zp (upP p0 w0.heap.size 0) (w0.alloc (.cells #[.slice none 0 0,.slice none 0 0] 26)):=⟨fun c hc=>by
  rw[za0];split
  ·rfl
  ·exact hz.1 c (by simp at hc;omega),fun _ _ _=>trivial⟩
 have hcall:=zn8 hns (by omega) hz1 (ht.evo (zav _ 0 _))
 go_enter Try.func25,Try.ntmps25
 go_wp2_with fail
 refine hcall.mono ?_
 rintro e w1 ⟨v,p1,D,R,pos1,rfl,hD,hR,hR2,hbd,hrep,hev,hz2,ht2,hp1,D1,d1,d2,B,o,cap,rfl,gB,okB,uqB,aB,TB,xB,hl1,hl2⟩
 clear hcall;obtain⟨arr,harr,hl⟩:=hrep;injection harr with harr
 subst harr;obtain⟨r0,r1,_⟩:Rep p1 w1 (.slice D1 d1 d2) (.sl 3 (zah D))∧Rep p1 w1 (.slice (some ⟨B,o,none⟩) R.length cap) (.sl 5 (zaC R))∧True:=hl;have gB:w0.heap.size+1≤B:=by simpa using gB
 have hB1:B<w1.heap.size:=zaD xB
 have hsz1:w0.heap.size<w1.heap.size:=by have:=hev.size;simp at this;omega
 -- the box of the program
 have hW:∃W,W=w1.alloc (.cells #[.slice D1 d1 d2,.slice (some ⟨B,o,none⟩) R.length cap] 26):=⟨_,rfl⟩
 obtain⟨W,hW⟩:=hW;have hea2:Evo (·=b) p1 w1 (upP p1 w1.heap.size 0) W:=by rw[hW];exact zav _ 0 _
 have hz3:Zp (upP p1 w1.heap.size 0) W:=⟨fun c hc=>by
  rw[za0];split
  ·rfl
  ·exact hz2.1 c (by rw[hW] at hc;simp at hc;omega),fun _ _ _=>trivial⟩
 have ht3:TK (upP p1 w1.heap.size 0) W (fun _=>False) b (Qr ns pos1):=by rw[hW];exact ht2.evo (zav _ 0 _)
 obtain⟨x,hx,hpick⟩:=zbq hns (p:=pos1) (by omega) (m:=R.length) (by omega)
 have hc0:W.cell? ⟨w1.heap.size,0,none⟩=some (.slice D1 d1 d2):=by rw[hW];exact zaj (heap_alloc_new _ _) rfl
 have hc1:W.cell? ⟨w1.heap.size,1,none⟩=some (.slice (some ⟨B,o,none⟩) R.length cap):=by rw[hW];exact zaj (heap_alloc_new _ _) rfl
 have hsW:W.heap.size=w1.heap.size+1:=by rw[hW];simp
 have hcall2:Calls Try.prog 27 #[zaU b,.int .i64 ((R.length:Nat):Int)] W.drew (fun e w'=>e=.returned (.int .i64 ((x:Nat):Int))∧∃p',Evo (·=b) (upP p1 w1.heap.size 0) W p' w'∧Zp p' w'∧TK p' w' (fun _=>False) b (Qr ns (pos1+1))):=by
  have hdr:Evo (·=b) (upP p1 w1.heap.size 0) W (upP p1 w1.heap.size 0) W.drew:=(Evo.refl _ _ _).drew
  refine(((tok 27 (by kernel_rfl)).2 (Qr ns pos1) [.cell (.int ((R.length:Nat):Int))] _ hpick).2 (upP p1 w1.heap.size 0) W.drew b [.int .i64 ((R.length:Nat):Int)] ⟨.int _,trivial⟩ hz3 (ht3.evo ((Evo.refl _ _ _).drew))).mono ?_
  rintro e w' ⟨v,rfl,p',hsr,_,_,hev',hz',ht',_⟩
  have hsr:Rep p' w' v (.int (x:Int)):=hsr
  cases hsr;exact⟨rfl,p',hdr.trans hev' (fun _ _ e=>e) (fun _ _ e=>e),hz',ht'⟩
 subst hW;have CK:=Lib.hid hcall2
 have nb1:w1.heap.size≠b:=by omega
 have nb2:w0.heap.size≠b:=by omega
 have hnn:w0.heap.size≠w1.heap.size:=by omega
 have hh2:(w1.alloc (.cells #[.slice D1 d1 d2,.slice (some ⟨B,o,none⟩) R.length cap] 26)).heap[w0.heap.size]?=some (.cells #[.slice none 0 0,.slice none 0 0] 26 (0,0)) :=
  (Below.heap_alloc _ _ _ hsz1).trans ((hev.block _ (by simp) nb2).trans (heap_alloc_new _ _))
 clear hcall2 hpick
 go_wp2_with fail
 go_region_held3 (fun w'=>w'.cell? ⟨w1.heap.size,0,none⟩=some (.slice D1 d1 d2)∧w'.cell? ⟨w1.heap.size,1,none⟩=some (.slice (some ⟨B,o,none⟩) R.length cap))
  (first|go_keep|(exact⟨by assumption,by assumption⟩)|(exact⟨by rw[World.cell?_setCell_far _ _ _ _ hnn,World.cell?_setCell_far _ _ _ _ hnn];assumption,by rw[World.cell?_setCell_far _ _ _ _ hnn,World.cell?_setCell_far _ _ _ _ hnn];assumption⟩))
  (first|(go_at_call 27;refine CK.out.mono ?_;rintro e w' ⟨rfl,p',hev',hz',ht'⟩;have k0:w'.cell? ⟨w1.heap.size,0,none⟩=some (.slice D1 d1 d2):=(World.cell?_of_block (hev'.block _ (by simp) nb1)).trans hc0;have k1:w'.cell? ⟨w1.heap.size,1,none⟩=some (.slice (some ⟨B,o,none⟩) R.length cap):=(World.cell?_of_block (hev'.block _ (by simp) nb1)).trans hc1;have q2:w'.heap[w0.heap.size]?=some (.cells #[.slice none 0 0,.slice none 0 0] 26 (0,0)):=(hev'.block _ (by simp;omega) nb2).trans hh2;have k2:=zaj (j:=0) q2 rfl;have k3:=zaj (j:=1) q2 rfl;have k4:=frozen_of_row w' _ 0 _ _ q2;have k5:=frozen_of_row w' _ 1 _ _ q2))
 have hpz:p' w0.heap.size=0:=by
  rw[hev'.same _ (by simp;omega) nb2,za0,if_neg hnn,hev.same _ (by simp) nb2,za0,if_pos rfl]
 have hevs:Evo (·=w0.heap.size) p' w' p' ((w'.setCell ⟨w0.heap.size,0,none⟩ (.slice D1 d1 d2)).setCell ⟨w0.heap.size,1,none⟩ (.slice (some ⟨B,o,none⟩) R.length cap)) :=
  (zbw hpz (by simp[World.setCell]) (fun y hy=>heap_setCell_other _ _ _ _ hy) rfl rfl rfl:Evo (·=w0.heap.size) p' w' p' (w'.setCell ⟨w0.heap.size,0,none⟩ (.slice D1 d1 d2))).trans (zbw hpz (by simp[World.setCell]) (fun y hy=>heap_setCell_other _ _ _ _ hy) rfl rfl rfl) (fun _ _ e=>e) (fun _ _ e=>e)
 have hn01:(⟨w0.heap.size,1,none⟩:Addr)≠⟨w0.heap.size,0,none⟩:=by simp
 have hn10:(⟨w0.heap.size,0,none⟩:Addr)≠⟨w0.heap.size,1,none⟩:=by simp
 have z0:((w'.setCell ⟨w0.heap.size,0,none⟩ (.slice D1 d1 d2)).setCell ⟨w0.heap.size,1,none⟩ (.slice (some ⟨B,o,none⟩) R.length cap)).cell? ⟨w0.heap.size,0,none⟩=some (.slice D1 d1 d2):=by
  rw[World.cell?_setCell_other (h:=hn01)];exact World.cell?_setCell_same _ _ _ k2
 have z1:((w'.setCell ⟨w0.heap.size,0,none⟩ (.slice D1 d1 d2)).setCell ⟨w0.heap.size,1,none⟩ (.slice (some ⟨B,o,none⟩) R.length cap)).cell? ⟨w0.heap.size,1,none⟩=some (.slice (some ⟨B,o,none⟩) R.length cap):=by
  refine World.cell?_setCell_same _ _ _ (u:=.slice none 0 0) ?_
  rw[World.cell?_setCell_other (h:=hn10)];exact k3
 have hE:Evo (·=b) p1 w1 p' w':=hea2.trans hev' (fun _ _ e=>e) (fun _ _ e=>e)
 have hF:Evo (·=b) p0 w0 p' ((w'.setCell ⟨w0.heap.size,0,none⟩ (.slice D1 d1 d2)).setCell ⟨w0.heap.size,1,none⟩ (.slice (some ⟨B,o,none⟩) R.length cap)) :=
  ((hea.trans hev (C:=(·=b)) (fun _ _ e=>e) (fun _ _ e=>e)).trans hE (C:=(·=b)) (fun _ _ e=>e) (fun _ _ e=>e)).trans hevs (fun _ _ e=>e) (fun c hc e=>absurd hc (by have:c=w0.heap.size:=e;omega))
 have hxB:=((hevs.block B (Nat.lt_of_lt_of_le hB1 hE.size) (fun e=>by have e:B=w0.heap.size:=e;omega)).trans (hE.block B hB1 (fun e=>by have e:B=b:=e;omega))).trans xB
 have hok:=hE.okk B hB1
 have HX:=Lib.hid hxB
 clear hxB xB;have HF:=Lib.hid hF
 have HS:=Lib.hid hevs
 have HE:=Lib.hid hE
 clear hF hevs hE CK
 go_wp2_with fail
 refine bodyPost_ret (v:=.tuple #[.agg #[.slice D1 d1 d2,.slice (some ⟨B,o,none⟩) R.length cap],.int .i64 ((x:Nat):Int)]) ?_ rfl ⟨_,p',D,R,pos1+1,x,rfl,hD,hR,hx,hbd,⟨_,rfl,(r0.evo HE.out).evo HS.out,(r1.evo HE.out).evo HS.out,trivial⟩,HF.out,⟨fun c hc=>hz'.1 c (Nat.le_trans HS.out.size hc),fun _ _ _=>trivial⟩,((ht'.own (Own':=(·=w0.heap.size)) (fun e=>nb2 e.symm)).evo HS.out).own (fun h=>h),by omega,D1,d1,d2,B,o,cap,rfl,by omega,by rw[hok];exact okB,fun j hj=>uqB j (by rw[←hok];exact hj),aB,TB,HX.out,hl1,hl2⟩
 simp[results,Try.results25,go_sem,z0,z1]
end
end
end Go.Proofs.Ytcpcagdialnbeaa

/- Generic texts and models for the proofs of this seat: part 29. -/
import Derived.Test.YtcpcagdialnbeaaY28
import Derived.BigRegion
import Derived.StillTailTactics
import Derived.WalkKit
set_option linter.unusedVariables false
set_option linter.unusedSimpArgs false
namespace Go.Proofs.Ytcpcagdialnbeaa
section
open Go Go.RowKit
def R7:Code:=.region 7 #[⟨some 76,.fieldAddr 26 (.tmp 3) 1,0,"l30_generate.go:417",#[],none⟩,⟨some 77,.load 24 (.tmp 76),24,"l30_generate.go:417",#[⟨0,.data⟩],none⟩,⟨some 78,.move (.tmp 7),3,"l30_generate.go:417",#[],none⟩,⟨some 79,.slice 24 (.tmp 77) none (some (.tmp 78)) none,24,"l30_generate.go:417",#[⟨1,.data⟩,⟨2,.data⟩],none⟩,⟨some 80,.fieldAddr 26 (.tmp 3) 1,0,"l30_generate.go:417",#[⟨0,.phase⟩,⟨1,.phase⟩,⟨2,.phase⟩,⟨3,.phase⟩],none⟩,⟨none,.store 24 (.tmp 80) (.tmp 79),0,"l30_generate.go:417",#[⟨4,.data⟩,⟨3,.data⟩,⟨0,.phase⟩,⟨1,.phase⟩,⟨2,.phase⟩,⟨3,.phase⟩],none⟩] false
def R8:Code:=.region 8 #[⟨some 81,.move (.tmp 7),3,"l30_generate.go:418",#[],none⟩,⟨some 82,.binOp .sub 3 (.tmp 81) (.const (.int .i64 1)) 3,3,"l30_generate.go:418",#[⟨0,.data⟩],none⟩,⟨some 8,.assign (.tmp 82),3,"l30_generate.go:418",#[⟨1,.data⟩,⟨0,.phase⟩,⟨1,.phase⟩],none⟩] false
def R9:Code:=.region 9 #[⟨some 83,.move (.tmp 8),3,"l30_generate.go:418",#[],none⟩,⟨some 84,.binOp .geq 3 (.tmp 83) (.const (.int .i64 0)) 3,4,"l30_generate.go:418",#[⟨0,.data⟩],none⟩] false
def R10:Code:=.region 10 #[⟨some 85,.move (.tmp 8),3,"l30_generate.go:418",#[],none⟩,⟨some 86,.binOp .sub 3 (.tmp 85) (.const (.int .i64 1)) 3,3,"l30_generate.go:418",#[⟨0,.data⟩],none⟩,⟨some 8,.assign (.tmp 86),3,"l30_generate.go:418",#[⟨1,.data⟩,⟨0,.phase⟩,⟨1,.phase⟩],none⟩] false
def R11:Code:=.region 11 #[⟨some 87,.move (.tmp 0),47,"l30_generate.go:419",#[],none⟩,⟨some 88,.load 26 (.tmp 3),26,"l30_generate.go:419",#[],none⟩,⟨some 89,.move (.tmp 8),3,"l30_generate.go:419",#[],none⟩,⟨some 90,.call ⟨.value (.func 69),#[.tmp 87,.tmp 88,.tmp 89],#[47,26,3]⟩,32,"l30_generate.go:419",#[⟨0,.data⟩,⟨1,.data⟩,⟨2,.data⟩],none⟩,⟨some 9,.alloc 32,0,"l30_generate.go:419",#[],none⟩,⟨none,.store 32 (.tmp 9) (.tmp 90),0,"l30_generate.go:419",#[⟨4,.data⟩,⟨3,.data⟩,⟨3,.chain⟩,⟨0,.phase⟩,⟨1,.phase⟩,⟨2,.phase⟩,⟨3,.phase⟩,⟨4,.phase⟩],none⟩] false
def R12:Code:=.region 12 #[⟨some 91,.fieldAddr 26 (.tmp 3) 1,0,"l30_generate.go:420",#[],none⟩,⟨some 92,.load 24 (.tmp 91),24,"l30_generate.go:420",#[⟨0,.data⟩],none⟩,⟨some 93,.move (.tmp 8),3,"l30_generate.go:420",#[],none⟩,⟨some 94,.fieldAddr 26 (.tmp 3) 1,0,"l30_generate.go:420",#[],none⟩,⟨some 95,.load 24 (.tmp 94),24,"l30_generate.go:420",#[⟨3,.data⟩],none⟩,⟨some 96,.move (.tmp 8),3,"l30_generate.go:420",#[],none⟩,⟨some 97,.indexAddr 24 (.tmp 95) (.tmp 96),0,"l30_generate.go:420",#[⟨4,.data⟩,⟨5,.data⟩],none⟩,⟨some 98,.fieldAddr 35 (.tmp 97) 0,0,"l30_generate.go:420",#[⟨6,.data⟩],none⟩,⟨some 99,.load 33 (.tmp 98),33,"l30_generate.go:420",#[⟨7,.data⟩],none⟩,⟨some 100,.fieldAddr 26 (.tmp 3) 1,0,"l30_generate.go:420",#[],none⟩,⟨some 101,.load 24 (.tmp 100),24,"l30_generate.go:420",#[⟨9,.data⟩],none⟩,⟨some 102,.move (.tmp 8),3,"l30_generate.go:420",#[],none⟩,⟨some 103,.indexAddr 24 (.tmp 101) (.tmp 102),0,"l30_generate.go:420",#[⟨10,.data⟩,⟨11,.data⟩],none⟩,⟨some 104,.fieldAddr 35 (.tmp 103) 1,0,"l30_generate.go:420",#[⟨12,.data⟩],none⟩,⟨some 105,.load 3 (.tmp 104),3,"l30_generate.go:420",#[⟨13,.data⟩],none⟩,⟨some 106,.load 32 (.tmp 9),32,"l30_generate.go:420",#[],none⟩,⟨some 107,.build 35 #[(0,.tmp 99),(1,.tmp 105),(2,.tmp 106)],35,"l30_generate.go:420",#[⟨8,.data⟩,⟨14,.data⟩,⟨15,.data⟩],none⟩,⟨some 108,.indexAddr 24 (.tmp 92) (.tmp 93),0,"l30_generate.go:420",#[⟨1,.data⟩,⟨2,.data⟩,⟨0,.phase⟩,⟨1,.phase⟩,⟨2,.phase⟩,⟨3,.phase⟩,⟨4,.phase⟩,⟨5,.phase⟩,⟨6,.phase⟩,⟨7,.phase⟩,⟨8,.phase⟩,⟨9,.phase⟩,⟨10,.phase⟩,⟨11,.phase⟩,⟨12,.phase⟩,⟨13,.phase⟩,⟨14,.phase⟩,⟨15,.phase⟩,⟨16,.phase⟩],none⟩,⟨none,.store 35 (.tmp 108) (.tmp 107),0,"l30_generate.go:420",#[⟨17,.data⟩,⟨16,.data⟩,⟨0,.phase⟩,⟨1,.phase⟩,⟨2,.phase⟩,⟨3,.phase⟩,⟨4,.phase⟩,⟨5,.phase⟩,⟨6,.phase⟩,⟨7,.phase⟩,⟨8,.phase⟩,⟨9,.phase⟩,⟨10,.phase⟩,⟨11,.phase⟩,⟨12,.phase⟩,⟨13,.phase⟩,⟨14,.phase⟩,⟨15,.phase⟩,⟨16,.phase⟩],none⟩] true
def R13:Code:=.region 13 #[⟨some 109,.load 26 (.tmp 3),26,"l30_generate.go:422",#[],none⟩,⟨none,.store 26 (.tmp 2) (.tmp 109),0,"l30_generate.go:422",#[⟨0,.data⟩,⟨0,.phase⟩],none⟩] false
set_option maxRecDepth 100000 in
theorem zyE:cOf Try.f41=zif zqs (.seq R7 (.seq (.seq R8 (.block 0 (.loop (.seq (.seq R9 (.cond (.tmp 84) .skip (.exit 0))) (.seq (.block 1 (.seq R11 R12)) R10))))) (.seq R13 .ret))):=by kernel_rfl
set_option maxRecDepth 100000 in
theorem zjG {m:Array Value} (h:m.size=110):m=List.toArray (sM m 0::sM m 1::sM m 2::sM m 3::sM m 4::sM m 5::sM m 6::sM m 7::sM m 8::sM m 9::sM m 10::sM m 11::sM m 12::sM m 13::sM m 14::sM m 15::sM m 16::sM m 17::sM m 18::sM m 19::sM m 20::sM m 21::sM m 22::sM m 23::sM m 24::sM m 25::sM m 26::sM m 27::sM m 28::sM m 29::sM m 30::sM m 31::sM m 32::sM m 33::sM m 34::sM m 35::sM m 36::sM m 37::sM m 38::sM m 39::sM m 40::sM m 41::sM m 42::sM m 43::sM m 44::sM m 45::sM m 46::sM m 47::sM m 48::sM m 49::sM m 50::sM m 51::sM m 52::sM m 53::sM m 54::sM m 55::sM m 56::sM m 57::sM m 58::sM m 59::sM m 60::sM m 61::sM m 62::sM m 63::sM m 64::sM m 65::sM m 66::sM m 67::sM m 68::sM m 69::sM m 70::sM m 71::sM m 72::sM m 73::sM m 74::sM m 75::sM m 76::sM m 77::sM m 78::sM m 79::sM m 80::sM m 81::sM m 82::sM m 83::sM m 84::sM m 85::sM m 86::sM m 87::sM m 88::sM m 89::sM m 90::sM m 91::sM m 92::sM m 93::sM m 94::sM m 95::sM m 96::sM m 97::sM m 98::sM m 99::sM m 100::sM m 101::sM m 102::sM m 103::sM m 104::sM m 105::sM m 106::sM m 107::sM m 108::sM m 109::[]):=by
 apply Array.ext'
 have h1:m.toList=(List.range 110).map (fun i=>m.getD i undef):=by
  apply List.ext_getElem
  ·simp[h]
  ·intro i h1 h2
   simp only[Array.length_toList] at h1;simp[Array.getD,h1]
 exact h1.trans rfl
set_option maxRecDepth 100000 in
set_option maxHeartbeats 4000000 in
theorem zBr {c3 c9 B o k n cap:Nat}{D u2 u3 u4:Value}{A0:Option Addr}{l0 k0:Nat}{r1:Int}{w:World} (hk:k<n) (hn:n≤1048576) {A3:Option Addr}{l3 k3:Nat}{e0 e1:Int}
 (h30:w.cell? ⟨c3,0,none⟩=some D) (h31:w.cell? ⟨c3,1,none⟩=some (.slice (some ⟨B,o,none⟩) n cap))
 (hB0:w.cell? ⟨B,o+k*5,none⟩=some (.slice A0 l0 k0)) (hB1:w.cell? ⟨B,o+k*5+1,none⟩=some (.int .i64 r1)) (hB2:w.cell? ⟨B,o+k*5+2,none⟩=some u2) (hB3:w.cell? ⟨B,o+k*5+3,none⟩=some u3) (hB4:w.cell? ⟨B,o+k*5+4,none⟩=some u4)
 (h90:w.cell? ⟨c9,0,none⟩=some (.int .i64 e0)) (h91:w.cell? ⟨c9,1,none⟩=some (.int .i64 e1)) (h92:w.cell? ⟨c9,2,none⟩=some (.slice A3 l3 k3))
 (f0:w.frozen? ⟨B,o+k*5,none⟩=false) (f1:w.frozen? ⟨B,o+k*5+1,none⟩=false) (f2:w.frozen? ⟨B,o+k*5+2,none⟩=false) (f3:w.frozen? ⟨B,o+k*5+3,none⟩=false) (f4:w.frozen? ⟨B,o+k*5+4,none⟩=false)
 {m:Array Value} (hs:m.size=110) (m3:m.getD 3 undef=.pointer (some ⟨c3,0,none⟩)) (m8:m.getD 8 undef=.int .i64 (k:Int)) (m9:m.getD 9 undef=.pointer (some ⟨c9,0,none⟩))
 (Q:Exit→Act→World→Prop) (hQ:∀a':Act,a'.defers=[]→a'.tmps.size=110→a'.tmps.getD 0 undef=m.getD 0 undef→a'.tmps.getD 2 undef=m.getD 2 undef→a'.tmps.getD 3 undef=.pointer (some ⟨c3,0,none⟩)→a'.tmps.getD 8 undef=.int .i64 (k:Int)→Q .normal a' (((((w.drew.setCell ⟨B,o+k*5,none⟩ (.slice A0 l0 k0)).setCell ⟨B,o+k*5+1,none⟩ (.int .i64 r1)).setCell ⟨B,o+k*5+2,none⟩ (.int .i64 e0)).setCell ⟨B,o+k*5+3,none⟩ (.int .i64 e1)).setCell ⟨B,o+k*5+4,none⟩ (.slice A3 l3 k3))) :
 R12.wp Try.prog Q {tmps:=m,defers:=[]} w:=by
 have e:=zjG hs
 rw[show sM m 3=_ from m3,show sM m 8=_ from m8,show sM m 9=_ from m9] at e;rw[e];clear e;unfold R12
 go_still_tail 18,(by kernel_rfl)
 have h1:w.drew.cell? ⟨B,o+k*5,none⟩=some (.slice A0 l0 k0):=hB0
 have h2:w.drew.cell? ⟨B,o+k*5+1,none⟩=some (.int .i64 r1):=hB1
 have h3:w.drew.cell? ⟨B,o+k*5+2,none⟩=some u2:=hB2
 have h4:w.drew.cell? ⟨B,o+k*5+3,none⟩=some u3:=hB3
 have h5:w.drew.cell? ⟨B,o+k*5+4,none⟩=some u4:=hB4
 have g0:w.drew.frozen? ⟨B,o+k*5,none⟩=false:=f0
 have g1:w.drew.frozen? ⟨B,o+k*5+1,none⟩=false:=f1
 have g2:w.drew.frozen? ⟨B,o+k*5+2,none⟩=false:=f2
 have g3:w.drew.frozen? ⟨B,o+k*5+3,none⟩=false:=f3
 have g4:w.drew.frozen? ⟨B,o+k*5+4,none⟩=false:=f4
 change wpList _ _ _ _ _ w.drew
 generalize w.drew=w2 at *
 go_wp2
 exact hQ _ rfl rfl rfl rfl rfl rfl
set_option maxRecDepth 100000 in
set_option maxHeartbeats 4000000 in
theorem zCw {m:Array Value}{c3 B o n k cap:Nat}{D:Value}{w:World} (hk:k≤n) (hc:n≤cap) (h30:w.cell? ⟨c3,0,none⟩=some D) (h31:w.cell? ⟨c3,1,none⟩=some (.slice (some ⟨B,o,none⟩) n cap)) (f1:w.frozen? ⟨c3,1,none⟩=false) (hs:m.size=110) (m3:m.getD 3 undef=.pointer (some ⟨c3,0,none⟩)) (m7:m.getD 7 undef=.int .i64 (k:Int)) (Q:Exit→Act→World→Prop) (hQ:∀a':Act,a'.defers=[]→a'.tmps.size=110→a'.tmps.getD 0 undef=m.getD 0 undef→a'.tmps.getD 2 undef=m.getD 2 undef→a'.tmps.getD 3 undef=.pointer (some ⟨c3,0,none⟩)→a'.tmps.getD 7 undef=.int .i64 (k:Int)→Q .normal a' (w.setCell ⟨c3,1,none⟩ (.slice (some ⟨B,o,none⟩) k cap))) :
 R7.wp Try.prog Q {tmps:=m,defers:=[]} w:=by
 have e:=zjG hs
 rw[show sM m 3=_ from m3,show sM m 7=_ from m7] at e;rw[e];clear e;unfold R7
 go_wp2
 exact hQ _ rfl rfl rfl rfl rfl rfl
set_option maxRecDepth 100000 in
set_option maxHeartbeats 4000000 in
theorem zC8 {m:Array Value}{k:Nat}{w:World} (hk:k≤100) (hs:m.size=110) (m7:m.getD 7 undef=.int .i64 (k:Int)) (Q:Exit→Act→World→Prop) (hQ:∀a':Act,a'.defers=[]→a'.tmps.size=110→a'.tmps.getD 0 undef=m.getD 0 undef→a'.tmps.getD 2 undef=m.getD 2 undef→a'.tmps.getD 3 undef=m.getD 3 undef→a'.tmps.getD 8 undef=.int .i64 ((k:Int)-1)→Q .normal a' (w)) :
 R8.wp Try.prog Q {tmps:=m,defers:=[]} w:=by
 have e:=zjG hs
 rw[show sM m 7=_ from m7] at e;rw[e];clear e;unfold R8
 go_wp2
 exact hQ _ rfl rfl rfl rfl rfl rfl
set_option maxRecDepth 100000 in
set_option maxHeartbeats 4000000 in
theorem zCt {m:Array Value}{k:Int}{w:World} (hk:-1≤k) (hk2:k≤100) (hs:m.size=110) (m8:m.getD 8 undef=.int .i64 k) (Q:Exit→Act→World→Prop) (hQ:∀a':Act,a'.defers=[]→a'.tmps.size=110→a'.tmps.getD 0 undef=m.getD 0 undef→a'.tmps.getD 2 undef=m.getD 2 undef→a'.tmps.getD 3 undef=m.getD 3 undef→a'.tmps.getD 8 undef=.int .i64 k→a'.tmps.getD 84 undef=.bool (decide (0≤k))→Q .normal a' (w)) :
 R9.wp Try.prog Q {tmps:=m,defers:=[]} w:=by
 have e:=zjG hs
 rw[show sM m 8=_ from m8] at e;rw[e];clear e;unfold R9
 go_wp2
 exact hQ _ rfl rfl rfl rfl rfl rfl rfl
set_option maxRecDepth 100000 in
set_option maxHeartbeats 4000000 in
theorem zA5 {m:Array Value}{k:Int}{w:World} (hk:-1≤k) (hk2:k≤100) (hs:m.size=110) (m8:m.getD 8 undef=.int .i64 k) (Q:Exit→Act→World→Prop) (hQ:∀a':Act,a'.defers=[]→a'.tmps.size=110→a'.tmps.getD 0 undef=m.getD 0 undef→a'.tmps.getD 2 undef=m.getD 2 undef→a'.tmps.getD 3 undef=m.getD 3 undef→a'.tmps.getD 8 undef=.int .i64 (k-1)→Q .normal a' (w)) :
 R10.wp Try.prog Q {tmps:=m,defers:=[]} w:=by
 have e:=zjG hs
 rw[show sM m 8=_ from m8] at e;rw[e];clear e;unfold R10
 go_wp2
 exact hQ _ rfl rfl rfl rfl rfl rfl
set_option maxRecDepth 100000 in
set_option maxHeartbeats 4000000 in
theorem zA2 {m:Array Value}{c3 B o n cap:Nat}{D1:Option Addr}{d1 d2:Nat}{w:World}{k:Int}{post:Int→Int→Option Addr→Nat→Nat→World→Prop} (h30:w.cell? ⟨c3,0,none⟩=some (.slice D1 d1 d2)) (h31:w.cell? ⟨c3,1,none⟩=some (.slice (some ⟨B,o,none⟩) n cap)) (hcall:Calls Try.prog 69 #[(m.getD 0 undef),.agg #[.slice D1 d1 d2,.slice (some ⟨B,o,none⟩) n cap],.int .i64 k] w fun e w'=>∃e0 e1 A3 l3 k3,e=.returned (.agg #[.int .i64 e0,.int .i64 e1,.slice A3 l3 k3])∧post e0 e1 A3 l3 k3 w') (hs:m.size=110) (m3:m.getD 3 undef=.pointer (some ⟨c3,0,none⟩)) (m8:m.getD 8 undef=.int .i64 k) (Q:Exit→Act→World→Prop) (hQ:∀e0 e1 A3 l3 k3 w',post e0 e1 A3 l3 k3 w'→∀a':Act,a'.defers=[]→a'.tmps.size=110→a'.tmps.getD 0 undef=m.getD 0 undef→a'.tmps.getD 2 undef=m.getD 2 undef→a'.tmps.getD 3 undef=.pointer (some ⟨c3,0,none⟩)→a'.tmps.getD 8 undef=.int .i64 k→a'.tmps.getD 9 undef=.pointer (some ⟨w'.heap.size,0,none⟩)→Q .normal a' (w'.alloc (.cells #[.int .i64 e0,.int .i64 e1,.slice A3 l3 k3] 32))) :
 R11.wp Try.prog Q {tmps:=m,defers:=[]} w:=by
 have e:=zjG hs
 rw[show sM m 3=_ from m3,show sM m 8=_ from m8] at e;rw[e];clear e;unfold R11
 go_wp2_with fail
 refine hcall.mono ?_
 rintro e w' ⟨e0,e1,A3,l3,k3,rfl,hp⟩
 go_wp2
 exact hQ _ _ _ _ _ _ hp _ rfl rfl rfl rfl rfl rfl rfl
set_option maxRecDepth 100000 in
set_option maxHeartbeats 4000000 in
theorem zyk {m:Array Value}{c2 c3 B o n cap:Nat}{D1:Option Addr}{d1 d2:Nat}{w:World}{z0 z1:Value} (h30:w.cell? ⟨c3,0,none⟩=some (.slice D1 d1 d2)) (h31:w.cell? ⟨c3,1,none⟩=some (.slice (some ⟨B,o,none⟩) n cap)) (h20:w.cell? ⟨c2,0,none⟩=some z0) (h21:w.cell? ⟨c2,1,none⟩=some z1) (f0:w.frozen? ⟨c2,0,none⟩=false) (f1:w.frozen? ⟨c2,1,none⟩=false) (hne:c3≠c2) (hs:m.size=110) (m2:m.getD 2 undef=.pointer (some ⟨c2,0,none⟩)) (m3:m.getD 3 undef=.pointer (some ⟨c3,0,none⟩)) (R:Ending→World→Prop) (hQ:R (.returned (.agg #[.slice D1 d1 d2,.slice (some ⟨B,o,none⟩) n cap])) ((w.setCell ⟨c2,0,none⟩ (.slice D1 d1 d2)).setCell ⟨c2,1,none⟩ (.slice (some ⟨B,o,none⟩) n cap))):(Code.seq R13 .ret).wp Try.prog (bodyPost Try.prog Try.f41 R) {tmps:=m,defers:=[]} w:=by
 have e:=zjG hs
 rw[show sM m 2=_ from m2,show sM m 3=_ from m3] at e;rw[e];clear e;unfold R13
 go_wp2
 have g0:((w.setCell ⟨c2,0,none⟩ (.slice D1 d1 d2)).setCell ⟨c2,1,none⟩ (.slice (some ⟨B,o,none⟩) n cap)).cell? ⟨c2,0,none⟩=some (.slice D1 d1 d2):=by
  have hn:(⟨c2,1,none⟩:Addr)≠⟨c2,0,none⟩:=by simp
  rw[World.cell?_setCell_other (h:=hn)];exact World.cell?_setCell_same _ _ _ h20
 have g1:((w.setCell ⟨c2,0,none⟩ (.slice D1 d1 d2)).setCell ⟨c2,1,none⟩ (.slice (some ⟨B,o,none⟩) n cap)).cell? ⟨c2,1,none⟩=some (.slice (some ⟨B,o,none⟩) n cap):=by
  have hn:(⟨c2,0,none⟩:Addr)≠⟨c2,1,none⟩:=by simp
  refine World.cell?_setCell_same _ _ _ (u:=z1) ?_
  rw[World.cell?_setCell_other (h:=hn)];exact h21
 refine bodyPost_ret (v:=.agg #[.slice D1 d1 d2,.slice (some ⟨B,o,none⟩) n cap]) ?_ rfl hQ
 rw[ztA rfl]
 go_simp
end
section
open Go
def sg0 (ps:List Int) (r:Int):PM:=⟨ps,r,0,0,[]⟩
theorem zgd (ps:List Int) (r:Int):zbN [.cell (.sl 1 (zab ps)),.cell (.int r)]=some (.v (.agg [.sl 1 (zab ps),.int r,.int 0,.int 0,.sl 3 []])):=ztM rfl
def oneL:List PM:=[sg0 [1] 0,sg0 [1,1] 1,sg0 [1] 1,sg0 [1,0] 1,sg0 [2,1] 1,sg0 [1,1] 0]
def twoL:List PM:=[sg0 [3] 0,sg0 [0] 1,sg0 [0,1] 1,sg0 [3,0] 3,sg0 [3] 1,sg0 [1,3,0] 0]
def thrL:List PM:=[sg0 [0] 0,sg0 [0,0] 0,sg0 [1,0] 0,sg0 [0] 1]
def zkc (i j k:Nat):List PM:=[sg0 [] 0,oneL.getD i default,twoL.getD j default,thrL.getD k default]
theorem zwC:∀i<6,∀j<6,∀k<4,((zkc i j k).all fun x=>sigL.contains (x.ps,x.r)&&x.kids.isEmpty&&x.o==0&&x.n==0)=true:=by decide
theorem zzZ:∀i<6,(zaC oneL).getD i []=pmC (oneL.getD i default):=fun i h=>by
 rcases(by omega:i=0∨i=1∨i=2∨i=3∨i=4∨i=5) with rfl|rfl|rfl|rfl|rfl|rfl <;> rfl
theorem zzn:∀i<6,(zaC twoL).getD i []=pmC (twoL.getD i default):=fun i h=>by
 rcases(by omega:i=0∨i=1∨i=2∨i=3∨i=4∨i=5) with rfl|rfl|rfl|rfl|rfl|rfl <;> rfl
theorem zzu:∀i<4,(zaC thrL).getD i []=pmC (thrL.getD i default):=fun i h=>by
 rcases(by omega:i=0∨i=1∨i=2∨i=3) with rfl|rfl|rfl|rfl <;> rfl
section
variable {ns:List Nat} (hns:ns.length≤2000)
include hns
set_option maxRecDepth 8000 in
theorem zzm {p:Nat} (hp:p+10≤1000000):∃D∈zb9,∃i j k n:Nat,i<6∧j<6∧k<4∧2≤n∧n≤4 ∧
  evT zxZ 100000 (.run (zif zqs .skip)) [] [(0,.und)] (Qr ns p)=some (.tup [.agg [.sl 3 [],.sl 5 []],.agg [.sl 3 (zah D),.sl 5 (zaC (zkc i j k))],.cell (.int (n:Int))],Qr ns (p+5)):=by
 obtain⟨D,hD,h0⟩:=zn0 hns (p:=p) (by omega)
 obtain⟨i,hi,h1⟩:=zbq hns (p:=p+1) (by omega) (m:=6) (by omega)
 obtain⟨j,hj,h2⟩:=zbq hns (p:=p+2) (by omega) (m:=6) (by omega)
 obtain⟨k,hk,h3⟩:=zbq hns (p:=p+3) (by omega) (m:=4) (by omega)
 obtain⟨x,hx,h4⟩:=zjU hns (p:=p+4) (by omega) (xs:=[4,4,3,2,4]) (by simp) (by simp)
 have hx':2≤x∧x≤4:=by
  simp only[List.mem_cons,List.not_mem_nil,or_false] at hx;omega
 obtain⟨n,rfl⟩:∃n:Nat,x=(n:Int):=⟨x.toNat,by omega⟩
 refine⟨D,hD,i,j,k,n,hi,hj,hk,by omega,by omega,zCd (zi0 h0 ?_)⟩
 refine callFunc (zgd [1] 0) (callFunc (zgd [1,1] 1) (callFunc (zgd [1] 1) ?_))
 refine callFunc (zgd [1,0] 1) (callFunc (zgd [2,1] 1) (callFunc (zgd [1,1] 0) ?_))
 refine callFunc (zgd [3] 0) (callFunc (zgd [0] 1) (callFunc (zgd [0,1] 1) ?_))
 refine callFunc (zgd [3,0] 3) (callFunc (zgd [3] 1) (callFunc (zgd [1,3,0] 0) ?_))
 refine callFunc (zgd [0] 0) (callFunc (zgd [0,0] 0) (callFunc (zgd [1,0] 0) ?_))
 refine callFunc (zgd [0] 1) (callFunc (zgd [] 0) ?_)
 refine zam h1 (zsk (rows:=zaC oneL) (k:=i) hi (zzZ i hi) ?_)
 refine zam h2 (zsk (rows:=zaC twoL) (k:=j) hj (zzn j hj) ?_)
 exact zam h3 (zsk (rows:=zaC thrL) (k:=k) hk (zzu k hk) (zam h4 rfl))
end
end
section
open Go Go.RowKit
theorem vok:za4 Try.prog sig (V Try.prog lay sig.has ext):=zCn zeY zso zss (fun _ hC=>zp8 zdI zeY hC)
theorem tok:zcR Try.prog sig tt (TV Try.prog lay tt (V Try.prog lay sig.has ext) zfg):=zC3 zdI zeY vok zuy
structure GP (w0:World) (p0:Stb) (b c2 c3 B o cap:Nat) (D:List DM) (R:List PM) (q:List AC) (p:Stb) (w:World) (m:Array Value):Prop where
 size:m.size=110
 m0:m.getD 0 undef=zaU b
 m2:m.getD 2 undef=.pointer (some ⟨c2,0,none⟩)
 m3:m.getD 3 undef=.pointer (some ⟨c3,0,none⟩)
 x2:∃z0 z1 T,w.heap[c2]?=some (.cells #[z0,z1] T (0,0))
 x3:∃D1 d1 d2 T,w.heap[c3]?=some (.cells #[.slice D1 d1 d2,.slice (some ⟨B,o,none⟩) R.length cap] T (0,0))∧Rep p w (.slice D1 d1 d2) (.sl 3 (zah D))
 xB:∃a T,w.heap[B]?=some (.cells a T (0,0))∧o+R.length*5≤a.size∧o+cap*5≤a.size
 rep:Rep p w (.slice (some ⟨B,o,none⟩) R.length cap) (.sl 5 (zaC R))
 z2:p c2=0
 z3:p c3=0
 n23:c2≠c3
 n2B:c2≠B
 n3B:c3≠B
 n2b:c2≠b
 n3b:c3≠b
 g2:w0.heap.size≤c2
 g3:w0.heap.size≤c3
 gB:w0.heap.size≤B
 gb:b<w0.heap.size
 uq:∀j,p.ok B j→j=5
 okB:p.ok B 5
 tk:TK p w (fun _=>False) b q
 zp:Zp p w
 evo:Evo (·=b) p0 w0 p w
 hD:D∈zb9
 hR:GR R
 fit:∀x∈R,Fit .expr [.int x.o,.int x.n,.sl 3 x.kids]
section
variable {w0 w w':World}{p0 p p':Stb}{b c2 c3 B o cap:Nat}{D:List DM}{R:List PM}{q q':List AC}{m m':Array Value}
theorem GP.slots (h:GP w0 p0 b c2 c3 B o cap D R q p w m) (hs:m'.size=110) (h0:m'.getD 0 undef=m.getD 0 undef) (h2:m'.getD 2 undef=m.getD 2 undef) (h3:m'.getD 3 undef=.pointer (some ⟨c3,0,none⟩)):GP w0 p0 b c2 c3 B o cap D R q p w m' :=
 {h with size:=hs,m0:=h0.trans h.m0,m2:=h2.trans h.m2,m3:=h3}
theorem zaD {w:World}{c:Nat}{x:Obj} (h:w.heap[c]?=some x):c<w.heap.size:=(Array.getElem?_eq_some_iff.1 h).1
theorem GP.lt2 (h:GP w0 p0 b c2 c3 B o cap D R q p w m):c2<w.heap.size:=by obtain⟨_,_,_,h⟩:=h.x2;exact zaD h
theorem GP.lt3 (h:GP w0 p0 b c2 c3 B o cap D R q p w m):c3<w.heap.size:=by obtain⟨_,_,_,_,h,_⟩:=h.x3;exact zaD h
theorem GP.ltB (h:GP w0 p0 b c2 c3 B o cap D R q p w m):B<w.heap.size:=by obtain⟨_,_,h,_⟩:=h.xB;exact zaD h
theorem GP.on (h:GP w0 p0 b c2 c3 B o cap D R q p w m) (hev:Evo (·=b) p w p' w') (hz:Zp p' w') (ht:TK p' w' (fun _=>False) b q'):GP w0 p0 b c2 c3 B o cap D R q' p' w' m:=by
 have nBb:B≠b:=fun e=>by have:=h.gB;have:=h.gb;omega
 refine {h with x2:=?_,x3:=?_,xB:=?_,rep:=h.rep.evo hev,z2:=(hev.same c2 h.lt2 h.n2b).trans h.z2,z3:=(hev.same c3 h.lt3 h.n3b).trans h.z3,uq:=fun j hj=>h.uq j (by rw[←hev.okk B h.ltB];exact hj),okB:=by rw[hev.okk B h.ltB];exact h.okB,tk:=ht,zp:=hz,evo:=h.evo.trans hev (fun _ _ e=>e) (fun _ _ e=>e)}
 ·rw[hev.block c2 h.lt2 h.n2b];exact h.x2
 ·rw[hev.block c3 h.lt3 h.n3b]
  obtain⟨D1,d1,d2,T,h1,h2⟩:=h.x3;exact⟨D1,d1,d2,T,h1,h2.evo hev⟩
 ·rw[hev.block B h.ltB nBb];exact h.xB
theorem zrF {x:PM} (h:Fit .expr [.int x.o,.int x.n,.sl 3 x.kids]):apL 5 (pmC x)=true:=by
 have h1:=zr8 h
 simp only[apL,apC,Bool.and_true,Bool.true_and] at h1;simp only[pmC,apL,apC,Bool.and_true,Bool.true_and,zmo];exact h1
theorem zuY:∀D∈zb9,apC 5 (.sl 3 (zah D))=true:=by decide
theorem GP.cells3 (h:GP w0 p0 b c2 c3 B o cap D R q p w m):∃D1 d1 d2,w.cell? ⟨c3,0,none⟩=some (.slice D1 d1 d2)∧w.cell? ⟨c3,1,none⟩=some (.slice (some ⟨B,o,none⟩) R.length cap)∧Rep p w (.slice D1 d1 d2) (.sl 3 (zah D)):=by
 obtain⟨D1,d1,d2,T,h1,h2⟩:=h.x3;exact⟨D1,d1,d2,by simp[World.cell?,h1],by simp[World.cell?,h1],h2⟩
theorem GP.put (h:GP w0 p0 b c2 c3 B o cap D R q p w m) {ns:List Nat}{pos:Nat} (hq:q=Qr ns pos) {k:Nat} (hk:k<R.length) {A0 A3:Option Addr}{l0 k0 l3 k3:Nat}{e0 e1:Int}{kids:List (List AC)}
  (hps:Rep p w (.slice A0 l0 k0) (.sl 1 (zab (gP R k).ps))) (hkids:Rep p w (.slice A3 l3 k3) (.sl 3 kids)) (hf:Fit .expr [.int e0,.int e1,.sl 3 kids]) :
  GP w0 p0 b c2 c3 B o cap D (R.set k ⟨(gP R k).ps,(gP R k).r,e0,e1,kids⟩) q p (zfb w B (o+k*5) (.slice A0 l0 k0) (.int .i64 (gP R k).r) (.int .i64 e0) (.int .i64 e1) (.slice A3 l3 k3)) m:=by
 subst hq;obtain⟨a,T,hB,hs,hsc⟩:=h.xB;have nBb:B≠b:=fun e=>by have:=h.gB;have:=h.gb;omega
 have hlen:(R.set k ⟨(gP R k).ps,(gP R k).r,e0,e1,kids⟩).length=R.length:=by simp
 have hev:=zmk (w:=w) (B:=B) (o:=o+k*5) (x0:=.slice A0 l0 k0) (x1:=.int .i64 (gP R k).r) (x2:=.int .i64 e0) (x3:=.int .i64 e1) (x4:=.slice A3 l3 k3) (raP p B 0) (by rw[zep,if_pos rfl])
 have hex:=zr8 hf
 have hrow:=zqv (o:=o) (k:=k) hB hs h.uq h.rep (fun r hr=>by
  simp only[zaC,List.mem_map] at hr;obtain⟨x,hx,rfl⟩:=hr;exact zrF (h.fit x hx)) (by simpa [zaC] using hk) (x0:=.slice A0 l0 k0) (x1:=.int .i64 (gP R k).r) (x2:=.int .i64 e0) (x3:=.int .i64 e1) (x4:=.slice A3 l3 k3) (c0:=.sl 1 (zab (gP R k).ps)) (c1:=.int (gP R k).r) (c2:=.int e0) (c3:=.int e1) (c4:=.sl 3 kids) ⟨hps,.int _,.int _,.int _,hkids,trivial⟩
  (by
   simp only[apL,apC,Bool.and_true,Bool.true_and] at hex;simp only[apL,apC,Bool.and_true,Bool.true_and,zmo];exact hex)
 refine {h with x2:=?_,x3:=?_,xB:=?_,rep:=?_,tk:=?_,zp:=⟨fun c hc=>h.zp.1 c (by rw[zcb] at hc;exact hc),fun c hc=>h.zp.2 c (by rw[zcb] at hc;exact hc)⟩,evo:=?_,hR:=?_,fit:=?_}
 ·rw[zbM h.n2B];exact h.x2
 ·rw[zbM h.n3B,hlen]
  obtain⟨D1,d1,d2,T,h1,h2⟩:=h.x3;exact⟨D1,d1,d2,T,h1,zhh h.uq hev h2 (zuY D h.hD)⟩
 ·rw[hlen]
  exact⟨_,T,znG hB,by simpa using hs,by simpa using hsc⟩
 ·rw[hlen]
  have e:zaC (R.set k ⟨(gP R k).ps,(gP R k).r,e0,e1,kids⟩)=(zaC R).set k [.sl 1 (zab (gP R k).ps),.int (gP R k).r,.int e0,.int e1,.sl 3 kids]:=by
   simp[zaC,List.map_set,pmC]
  rw[e];exact hrow
 ·obtain⟨a1,T1,g1,g2⟩:=h.tk.cells
  refine⟨h.tk.not,by rw[zcb];exact h.tk.lt,h.tk.pz,a1,T1,by rw[zbM (fun e=>nBb e.symm)];exact g1,?_⟩
  match hl:a1.toList,g2 with
  | [v0,v1],⟨r0,r1,_⟩ =>
   refine⟨zpE h.uq h.okB (by omega) hev r0,?_,trivial⟩
   rcases r1 with r1|⟨_,_,_,_,_,_,_,e,_⟩
   ·exact .inl (zhh h.uq hev r1 rfl)
   ·cases e
 ·have he:=h.evo
  refine⟨by simpa [zfb,World.setCell] using he.os,by simpa [zfb,World.setCell] using he.tape,by simpa [zfb,World.setCell] using he.output,by rw[zcb];exact he.size,fun c hc hn=>?_,he.keepP,he.same,fun c x hc hx=>?_,he.okk,fun c h1 h2=>he.uq c h1 (by rw[zcb] at h2;exact h2)⟩
  ·exact(zbM (Nat.ne_of_lt (Nat.lt_of_lt_of_le hc h.gB))).trans (he.block c hc hn)
  ·exact(World.cell?_of_block (w:=w) (zbM (Nat.ne_of_lt (Nat.lt_of_lt_of_le hc h.gB)))).trans (he.stable c x hc hx)
 ·refine⟨by rw[hlen];exact h.hR.len,fun x hx=>?_⟩
  rcases List.mem_or_eq_of_mem_set hx with hx|rfl
  ·exact h.hR.sg x hx
  ·exact h.hR.at hk
 ·intro x hx
  rcases List.mem_or_eq_of_mem_set hx with hx|rfl
  ·exact h.fit x hx
  ·exact hf
end
end
section
open Go Go.RowKit
theorem heap_alloc_new (w:World) (o:Obj):(w.alloc o).heap[w.heap.size]?=some o:=by
 have:(w.alloc o).heap=w.heap.push o:=rfl
 rw[this];simp
theorem zaj {w:World}{c j:Nat}{a:Array Value}{T:TypeId}{v:Value} (h:w.heap[c]?=some (.cells a T (0,0))) (hj:a[j]?=some v):w.cell? ⟨c,j,none⟩=some v:=by simp[World.cell?,h,hj]
theorem zbd {p:Stb}{w:World}{v:Value}{k:Nat}{rows:List (List AC)} (h:Rep p w v (.sl k rows)):∃a l c,v=.slice a l c:=by
 generalize hc:AC.sl k rows=c at h
 cases h with
 | int n=>cases hc
 | bool b=>cases hc
 | nil a k=>exact⟨_,_,_,rfl⟩
 | sl=>exact⟨_,_,_,rfl⟩
def ziG (x:PM):Prop:=Fit .expr [.int x.o,.int x.n,.sl 3 x.kids]∧1+x.kids.length+rsS x.kids≤900
structure LP (ns:List Nat) (pos0:Nat) (w0:World) (p0:Stb) (b:Nat) (N:Nat) (k:Nat) (m:Array Value) (w:World):Prop where
 ex:∃c2 c3 B o cap D R pos p,GP w0 p0 b c2 c3 B o cap D R (Qr ns pos) p w m∧R.length=N∧pos+k*13000≤pos0+N*13000∧∀j,k≤j→j<N→ziG (gP R j)
section
variable {ns:List Nat} (hns:ns.length≤2000) {w0:World}{p0:Stb}{b:Nat}
include hns
theorem zwW {pos0 N k:Nat} (hpos:pos0+100000≤800000) (hN:N≤4) (hk:k<N) {m:Array Value}{w:World} (h:LP ns pos0 w0 p0 b N (k+1) m w) (h8:m.getD 8 undef=.int .i64 (k:Int)) (Q:Exit→Act→World→Prop)
  (hQ:∀a' w',a'.defers=[]→a'.tmps.getD 8 undef=.int .i64 (k:Int)→LP ns pos0 w0 p0 b N k a'.tmps w'→Q .normal a' w') :
  (Code.seq R11 R12).wp Try.prog Q {tmps:=m,defers:=[]} w:=by
 obtain⟨c2,c3,B,o,cap,D,R,pos,p,g,hRN,hps,hok⟩:=h.ex;obtain⟨D1,d1,d2,hc0,hc1,hD⟩:=g.cells3;have hkR:k<R.length:=by omega
 obtain⟨e0,e1,kids,pos',hb,hp1,hfit,hsz⟩:=zwU hns g.hD g.hR hkR (p:=pos) (by omega)
 have hcall:=(tok 69 (by kernel_rfl)).2 (Qr ns pos) [pgC D R,.cell (.int (k:Int))] _ hb
 refine wp_seq (zA2 (post:=fun e0' e1' A3 l3 k3 w'=>e0'=e0∧e1'=e1∧∃p',Rep p' w' (.slice A3 l3 k3) (.sl 3 kids)∧Evo (·=b) p w p' w'∧Zp p' w'∧TK p' w' (fun _=>False) b (Qr ns pos')) hc0 hc1 ?_ g.size g.m3 h8 _ ?_)
 ·rw[g.m0]
  refine(hcall.2 p w b [.agg #[.slice D1 d1 d2,.slice (some ⟨B,o,none⟩) R.length cap],.int .i64 (k:Int)] ⟨⟨_,rfl,hD,g.rep,trivial⟩,.int _,trivial⟩ g.zp g.tk).mono ?_
  rintro e w' ⟨v,rfl,p',hsr,_,_,hev,hz,ht,_⟩
  obtain⟨arr,rfl,hl⟩:∃arr,v=.agg arr∧RepL p' w' arr.toList [.int e0,.int e1,.sl 3 kids]:=hsr;obtain⟨l⟩:=arr
  match l,hl with
  | [x0,x1,x2],⟨r0,r1,r2,_⟩ =>
   cases r0;cases r1;obtain⟨A3,l3,k3,rfl⟩:∃A3 l3 k3,x2=.slice A3 l3 k3:=by
    cases r2 with
    | nil a=>exact⟨_,_,_,rfl⟩
    | sl=>exact⟨_,_,_,rfl⟩
   exact⟨_,_,_,_,_,rfl,rfl,rfl,p',r2,hev,hz,ht⟩
 ·rintro e0' e1' A3 l3 k3 w' ⟨rfl,rfl,p',hkids,hev,hz,ht⟩ a1 hd1 hs1 hm0 hm2 hm3 hm8 hm9
  -- behind the call
  have g1:=g.on hev hz ht
  have hea:=zav (p:=p') (w:=w') (.cells #[.int .i64 e0',.int .i64 e1',.slice A3 l3 k3] 32) 0 (·=b)
  have hz1:Zp (upP p' w'.heap.size 0) (w'.alloc (.cells #[.int .i64 e0',.int .i64 e1',.slice A3 l3 k3] 32)):=⟨fun c hc=>by
   rw[za0];split
   ·rfl
   ·exact hz.1 c (by simp at hc;omega),fun _ _ _=>trivial⟩
  have g2:=(g1.on hea hz1 (ht.evo (zav _ 0 _))).slots hs1 hm0 hm2 hm3
  have hkids2:=hkids.evo hea
  have hn9:(w'.alloc (.cells #[.int .i64 e0',.int .i64 e1',.slice A3 l3 k3] 32)).heap[w'.heap.size]?=some (.cells #[.int .i64 e0',.int .i64 e1',.slice A3 l3 k3] 32):=heap_alloc_new _ _
  generalize hW:w'.alloc (.cells #[.int .i64 e0',.int .i64 e1',.slice A3 l3 k3] 32)=W at *
  generalize upP p' w'.heap.size 0=P2 at *
  obtain⟨E1,E2,E3,hE0,hE1,_⟩:=g2.cells3;obtain⟨aB,TB,hB,hsB,_⟩:=g2.xB;obtain⟨_,_,_,_,_,_,_,f,hcc,hrr⟩:=zcU g2.rep (by
   intro e;have h0:(zaC R).length=0:=by rw[e];rfl
   rw[zaC,List.length_map] at h0;omega)
  have hrow:(zaC R).getD k []=pmC (gP R k):=by simp[zaC,gP,List.getD,hkR]
  have hget:∀(j:Nat) (c:AC),(pmC (gP R k))[j]?=some c→W.cell? ⟨B,o+k*5+j,none⟩=some (f k j)∧Rep P2 W (f k j) c:=fun j c hc=>⟨hcc k j c (by rw[hrow];exact hc),hrr k j c (by rw[hrow];exact hc)⟩
  obtain⟨b0,r0⟩:=hget 0 _ rfl;obtain⟨b1,r1⟩:=hget 1 _ rfl;obtain⟨b2,_⟩:=hget 2 _ rfl;obtain⟨b3,_⟩:=hget 3 _ rfl;obtain⟨b4,_⟩:=hget 4 _ rfl;have fz:∀j,W.frozen? ⟨B,j,none⟩=false:=fun j=>frozen_of_row W B j aB TB hB
  obtain⟨A0,l0,k0,h0⟩:=zbd r0;have h1:f k 1=.int .i64 (gP R k).r:=by
   generalize f k 1=v at r1
   cases r1;rfl
  rw[h0] at b0 r0;rw[h1] at b1;have hmx:R.length≤1048576:=by omega
  obtain⟨m1,dd⟩:=a1;have hd1:dd=[]:=hd1
  subst hd1;show R12.wp _ Q ⟨m1,[]⟩ W
  refine zBr hkR hmx hE0 hE1 b0 b1 b2 b3 b4 (zaj hn9 rfl) (zaj hn9 rfl) (zaj hn9 rfl) (fz _) (fz _) (fz _) (fz _) (fz _) hs1 hm3 hm8 hm9 _ ?_
  intro a' hd' hs' hm0' hm2' hm3' hm8';have hdr:Evo (·=b) P2 W P2 W.drew:=(Evo.refl _ _ _).drew
  have g3:=(g2.on hdr g2.zp (g2.tk.evo ((Evo.refl _ _ _).drew))).put rfl hkR (r0.evo hdr) (hkids2.evo hdr) hfit
  refine hQ a' _ hd' hm8' ⟨c2,c3,B,o,cap,D,_,pos',P2,g3.slots hs' hm0' hm2' hm3',by simpa using hRN,by omega,fun j hj hjN=>?_⟩
  by_cases hjk:j=k
  ·subst hjk
   rw[show gP (R.set j ⟨(gP R j).ps,(gP R j).r,e0',e1',kids⟩) j=⟨(gP R j).ps,(gP R j).r,e0',e1',kids⟩ by simp[gP,List.getD,hkR]]
   exact⟨hfit,hsz⟩
  ·rw[show gP (R.set k ⟨(gP R k).ps,(gP R k).r,e0',e1',kids⟩) j=gP R j by simp[gP,List.getD,List.getElem?_set_ne (fun e=>hjk e.symm)]]
   exact hok j (by omega) hjN
end
end
section
open Go Go.RowKit
theorem LP.slots {ns:List Nat}{pos0 N k b:Nat}{w0 w:World}{p0:Stb}{m m':Array Value} (h:LP ns pos0 w0 p0 b N k m w) (hs:m'.size=110) (h0:m'.getD 0 undef=m.getD 0 undef) (h2:m'.getD 2 undef=m.getD 2 undef) (h3:m'.getD 3 undef=m.getD 3 undef):LP ns pos0 w0 p0 b N k m' w:=by
 obtain⟨c2,c3,B,o,cap,D,R,pos,p,g,h1⟩:=h.ex;exact⟨c2,c3,B,o,cap,D,R,pos,p,g.slots hs h0 h2 (h3.trans g.m3),h1⟩
theorem LP.size {ns:List Nat}{pos0 N k b:Nat}{w0 w:World}{p0:Stb}{m:Array Value} (h:LP ns pos0 w0 p0 b N k m w):m.size=110:=by
 obtain⟨c2,c3,B,o,cap,D,R,pos,p,g,h1⟩:=h.ex;exact g.size
def blkGP:Code:=.block 0 (.loop (.seq (.seq R9 (.cond (.tmp 84) .skip (.exit 0))) (.seq (.block 1 (.seq R11 R12)) R10)))
section
variable {ns:List Nat} (hns:ns.length≤2000) {w0:World}{p0:Stb}{b:Nat}
include hns
theorem zz4 {pos0 N:Nat} (hpos:pos0+100000≤800000) (hN:N≤4) {m:Array Value}{w:World} (h:LP ns pos0 w0 p0 b N N m w) (h8:m.getD 8 undef=.int .i64 ((N:Int)-1)) (Q:Exit→Act→World→Prop)
  (hQ:∀a' w',a'.defers=[]→LP ns pos0 w0 p0 b N 0 a'.tmps w'→Q .normal a' w'):blkGP.wp Try.prog Q {tmps:=m,defers:=[]} w:=by
 refine wp_block (wp_loop (fun a w=>a.defers=[]∧∃k:Nat,k≤N∧a.tmps.getD 8 undef=.int .i64 ((k:Int)-1)∧LP ns pos0 w0 p0 b N k a.tmps w) (fun a w=>match a.tmps.getD 8 undef with
  | .int _ z=>(z+1).toNat
  | _=>0) ⟨rfl,N,Nat.le_refl _,h8,h⟩ ?_)
 rintro⟨m1,dd⟩ w1 ⟨hd,k,hk,h8,hL⟩
 have hd:dd=[]:=hd
 subst hd;have h8:m1.getD 8 undef=.int .i64 ((k:Int)-1):=h8
 refine wp_seq (wp_seq (zCt (by omega) (by omega) hL.size h8 _ fun a1 hd1 hs1 hm0 hm2 hm3 hm8 hm84=>?_))
 have hL1:=hL.slots hs1 hm0 hm2 hm3
 obtain⟨m2,dd⟩:=a1;have hd1:dd=[]:=hd1
 subst hd1;show Code.wp _ (.cond (.tmp 84) .skip (.exit 0)) _ ⟨m2,[]⟩ w1
 refine wp_cond (t:=decide (0≤(k:Int)-1)) hm84 ?_
 cases k with
 | zero =>
  rw[decide_eq_false (by omega)]
  simp only[Bool.false_eq_true,if_false];exact wp_exit (by
   show Exit.inBlock 0 Q (.exit 0) _ _
   simp only[Exit.inBlock,if_true];exact hQ _ _ rfl hL1)
 | succ j =>
  rw[decide_eq_true (by omega)]
  simp only[if_true];refine wp_skip ?_
  have e:(((j+1:Nat):Int)-1)=(j:Int):=by omega
  rw[e] at hm8 h8;show Code.wp _ (.seq (.block 1 (.seq R11 R12)) R10) _ ⟨m2,[]⟩ w1
  refine wp_seq (wp_block (zwW hns hpos hN (by omega) hL1 hm8 _ fun a' w' hd' h8' hL'=>?_))
  obtain⟨m3,dd⟩:=a';have hd':dd=[]:=hd'
  subst hd';show Code.wp _ R10 _ ⟨m3,[]⟩ w'
  refine zA5 (by omega) (by omega) hL'.size h8' _ fun a2 hd2 hs2 hm0 hm2 hm3 hm8'=>?_
  show(_∧_)∧_
  refine⟨⟨hd2,j,by omega,hm8',hL'.slots hs2 hm0 hm2 hm3⟩,?_⟩
  simp only[hm8',h8,e];omega
end
end
section
open Go Go.RowKit
def gvs (st:Option Out) (d j k:Nat):Bool:=match st with
 | some o=>match o.norm with
  | some s=>match s.pid.lookup (d,j) with
   | some id=>match s.alive.lookup id with
    | some k'=>Nat.beq k k'&&Nat.beq s.len 110
    | none=>false
   | none=>false
  | none=>false
 | none=>false
theorem zA1 {O:Out}{st:Stt}{d j k:Nat} (h:gvs (some O) d j k=true) (hn:O.norm=some st):st.len=110∧∃id,((d,j),id)∈st.pid∧(id,k)∈st.alive:=by
 unfold gvs at h;simp only[hn] at h;split at h
 ·rename_i id h1
  split at h
  ·rename_i k' h2
   rw[Bool.and_eq_true] at h;have h3:=Nat.eq_of_beq_eq_true h.1
   subst h3;exact⟨Nat.eq_of_beq_eq_true h.2,id,zau h1,za2 h2⟩
  ·cases h
 ·cases h
theorem zDc:gvs (zb2 (zbu tt) lay sig (zif zqs .skip) ⟨[],[],[],110,[],[]⟩) 3 1 5=true:=by kernel_rfl
theorem zwS {p:Stb}{w:World}{b o n cap k:Nat}{rows:List (List AC)} (h:Rep p w (.slice (some ⟨b,o,none⟩) n cap) (.sl k rows)) (j:Nat) (hj:j≤rows.length) (hn:rows≠[]):Rep p w (.slice (some ⟨b,o,none⟩) j cap) (.sl k (rows.take j)):=by
 obtain⟨_,hk,hrows,hb,hp,hok,hcap,f,hcc,hrr⟩:=zcU h hn;have hl:(rows.take j).length=j:=by simp;omega
 have hget:∀(i x:Nat) (c:AC),((rows.take j).getD i [])[x]?=some c→(rows.getD i [])[x]?=some c:=fun i x c h=>by
  simp only[List.getD,List.getElem?_take] at h ⊢;split at h
  ·exact h
  ·simp at h
 rw[show Value.slice (some ⟨b,o,none⟩) j cap=Value.slice (some ⟨b,o,none⟩) (rows.take j).length cap by rw[hl]]
 refine .sl b o cap k _ f hk (fun r hr=>hrows r (List.mem_of_mem_take hr)) hb ?_ hok (by rw[hl];omega) (fun i x c h=>hcc i x c (hget i x c h)) (fun i x c h=>hrr i x c (hget i x c h))
 rw[hl];have:=Nat.mul_le_mul_right k hj
 omega
section
variable {ns:List Nat} (hns:ns.length≤2000) {w0:World}{p0:Stb}{b:Nat}
include hns
theorem zn8 {pos:Nat} (hpos:pos+101000≤800000) (hz:Zp p0 w0) (ht:TK p0 w0 (fun _=>False) b (Qr ns pos)):Calls Try.prog 41 #[zaU b] w0 fun e w'=>∃v p' D R pos',e=.returned v∧D∈zb9∧GR R∧2≤R.length∧(∀x∈R,ziG x)∧RepS p' w' v (pgC D R) ∧
  Evo (·=b) p0 w0 p' w'∧Zp p' w'∧TK p' w' (fun _=>False) b (Qr ns pos')∧pos'≤pos+53000∧∃D1 d1 d2 B o cap,v=.agg #[.slice D1 d1 d2,.slice (some ⟨B,o,none⟩) R.length cap]∧w0.heap.size≤B∧p'.ok B 5∧(∀j,p'.ok B j→j=5)∧∃a T,w'.heap[B]?=some (.cells a T (0,0))∧o+R.length*5≤a.size∧o+cap*5≤a.size:=by
 refine calls_of_wp Try.func41 (c:=cOf Try.f41) (by kernel_rfl) ?_
 rw[zyE];have hs0:(#[zaU b]++Array.replicate (Try.f41.ntmps-(#[zaU b]:Array Value).size) undef).size=110:=by simp[Try.ntmps41]
 have h0:(#[zaU b]++Array.replicate (Try.f41.ntmps-(#[zaU b]:Array Value).size) undef).getD 0 undef=zaU b:=by simp[Array.getD]
 generalize (#[zaU b]++Array.replicate (Try.f41.ntmps-(#[zaU b]:Array Value).size) undef)=m0 at hs0 h0
 have hbl:=ht.lt
 have hI:=zrs (p:=p0) (w:=w0) (m:=m0) (n:=110) (o:=[]) (Own:=fun c=>w0.heap.size≤c) (b:=b) (q:=Qr ns pos) hs0 ⟨fun t x h=>(by cases h),fun t x h=>(by cases h),fun t t' cs cs' c _ h=>(by cases h)⟩ hz (fun c h=>h) h0 (ht.own (by omega))
 obtain⟨D,hD,i,j,k,n,hi,hj,hk,hn2,hn4,hev⟩:=zzm hns (p:=pos) (by omega)
 obtain⟨O,hO⟩:=Option.isSome_iff_exists.1 zBf;refine zxh (Y:=zxZ) (a:={tmps:=m0,defers:=[]}) zdI zeY vok zuy hev (zds _ _ _) (ztn (n:=110) (o:=[]) h0 (by omega) (fun t x h=>by cases h) rfl) hO hI rfl _ _ fun st' a' w1 p1 σ' q' hn hout hI1 hevo hd'=>?_
 obtain⟨rfl,hres⟩:=zzK hout;have s2:=zuW (zk3 hres 0 (.cell 2 26) _ rfl rfl)
 have s3:=zuW (zk3 hres 1 (.cell 3 26) _ rfl rfl)
 have s7:=zzP (zk3 hres 2 (.tmp 7) _ rfl rfl)
 obtain⟨c2,a2,T2,m2,x2,l2,z2,o2,lt2,nb2⟩:=hI1.box s2;obtain⟨c3,a3,T3,m3,x3,l3,z3,o3,lt3,nb3⟩:=hI1.box s3;have m7:=hI1.int s7
 have n23:c2≠c3:=fun e=>hI1.1.boxd 2 3 _ _ c2 (by omega) s2 s3 m2 (by rw[m3,e])
 have hgv:=zDc
 rw[hO] at hgv;obtain⟨hlen110,id,hid,hal⟩:=zA1 hgv hn;obtain⟨val,hR⟩:=hI1.1.rooms;have hpl:=(hR.place (3,1) id hid).1
 have hrt:=hR.alive id 5 hal
 have hown:=hR.own id 5
 obtain⟨l2'⟩:=a2;obtain⟨l3'⟩:=a3
 match l2',l2 with
 | [u0,u1],_ =>
 match l3',l3 with
 | [dv,fv],⟨rd,rf,_⟩ =>
 have hfv:val id=fv:=by
  rw[show(3,1).1=3 from rfl,m3] at hpl;have:w1.cell? ⟨c3,1,none⟩=some (val id):=hpl
  rw[zaj x3 rfl] at this;exact(Option.some.inj this).symm
 rw[hfv] at hrt;rcases hrt with e|⟨B,o,len,cap,aB,TB,efv,hB,hlc,hsz,hpB,hokB⟩
 ·rw[e] at rf
  exfalso
  generalize hc:AC.sl 5 (zaC (zkc i j k))=c at rf
  generalize hv:Value.slice none 0 0=v at rf
  cases rf with
  | int n=>cases hc
  | bool b=>cases hc
  | nil a k=>simp[zaC,zkc] at hc
  | sl=>cases hv
 subst efv;have hoB:w0.heap.size≤B:=(hown B hal (by rw[hfv];rfl)).1
 have hgl:(zkc i j k).length=4:=rfl
 have hne:zaC (zkc i j k)≠[]:=by simp[zaC,zkc]
 obtain⟨hlen,_,_,hBlt,hpB2,_,hcap,_⟩:=zcU rf hne;have hpl4:(zaC (zkc i j k)).length=4:=by simp[zaC,hgl]
 rw[hpl4] at hlen hpB2 hcap;subst hlen;have n2B:c2≠B:=fun e=>by rw[e] at z2;omega
 have n3B:c3≠B:=fun e=>by rw[e] at z3;omega
 have hevb:Evo (·=b) p0 w0 p1 w1:=hevo.weaken fun c hc h=>by
  rcases h with h|h
  ·exact absurd h (by omega)
  ·exact h
 obtain⟨D1,d1,d2,rfl⟩:=zbd rd;have hs1:=hI1.1.size.trans (hI1.1.len.symm.trans hlen110)
 obtain⟨m1,dd⟩:=a';have hd':dd=[]:=hd'
 subst hd';refine wp_seq (zCw (k:=n) (n:=4) hn4 hcap (zaj x3 rfl) (zaj x3 rfl) (frozen_of_row w1 c3 1 _ T3 x3) hs1 m3 m7 _ fun a2 hd2 hs2 hm0 hm2 hm3 hm7=>?_)
 have hevs:Evo (·=c3) p1 w1 p1 (w1.setCell ⟨c3,1,none⟩ (.slice (some ⟨B,o,none⟩) n cap)):=zbw z3 (by simp[World.setCell]) (fun y hy=>heap_setCell_other _ _ _ _ hy) rfl rfl rfl
 have hx3:(w1.setCell ⟨c3,1,none⟩ (.slice (some ⟨B,o,none⟩) n cap)).heap[c3]?=some (.cells #[.slice D1 d1 d2,.slice (some ⟨B,o,none⟩) n cap] T3 (0,0)):=heap_setCell_same _ _ _ _ _ _ x3
 have hx2:=heap_setCell_other w1 ⟨c3,1,none⟩ c2 (.slice (some ⟨B,o,none⟩) n cap) n23
 have hxB:=heap_setCell_other w1 ⟨c3,1,none⟩ B (.slice (some ⟨B,o,none⟩) n cap) (fun e=>n3B e.symm)
 have hsz1:(w1.setCell ⟨c3,1,none⟩ (.slice (some ⟨B,o,none⟩) n cap)).heap.size=w1.heap.size:=by simp[World.setCell]
 generalize w1.setCell ⟨c3,1,none⟩ (.slice (some ⟨B,o,none⟩) n cap)=W at *
 have hall:=zwC i hi j hj k hk
 rw[List.all_eq_true] at hall;have hin:∀x∈(zkc i j k).take n,(x.ps,x.r)∈sigL∧Fit .expr [.int x.o,.int x.n,.sl 3 x.kids]:=fun x hx=>by
  have:=hall x (List.mem_of_mem_take hx)
  simp only[Bool.and_eq_true,List.contains_iff_mem,List.isEmpty_iff,beq_iff_eq] at this;obtain⟨⟨⟨h1,h2⟩,h3⟩,h4⟩:=this;rw[h2,h3,h4];exact⟨h1,zak (by omega) (by omega) (by simp) (fun c hc=>by cases hc)⟩
 have htl:((zkc i j k).take n).length=n:=by simp[hgl];omega
 have hG:GP w0 p0 b c2 c3 B o cap D ((zkc i j k).take n) (Qr ns (pos+5)) p1 W a2.tmps :=
  {size:=hs2,m0:=hm0.trans hI1.2.1,m2:=hm2.trans m2,m3:=hm3,x2:=⟨u0,u1,T2,hx2.trans x2⟩,x3:=⟨D1,d1,d2,T3,by rw[htl];exact hx3,rd.evo hevs⟩,xB:=⟨aB,TB,hxB.trans hB,by rw[htl];omega,hsz⟩,
   rep:=by
    rw[htl];have:=(zwS rf n (by rw[hpl4];exact hn4) hne).evo hevs
    simpa [zaC,List.map_take] using this
   z2:=z2,z3:=z3,n23:=n23,n2B:=n2B,n3B:=n3B,n2b:=nb2,n3b:=nb3,g2:=o2,g3:=o3,gB:=hoB,gb:=hbl,
   uq:=fun x hx=>hevo.uq B hoB hBlt x 5 hx hokB,okB:=hokB,tk:=((hI1.2.2.own (Own':=(·=c3)) (fun e=>nb3 e.symm)).evo hevs).own (fun h=>h),
   zp:=⟨fun c hc=>hI1.1.zp.1 c (by omega),fun _ _ _=>trivial⟩,evo:=hevb.trans hevs (fun _ _ e=>e) (fun c hc e=>absurd hc (by have:c=c3:=e;omega)),hD:=hD,
   hR:=⟨by omega,fun x hx=>(hin x hx).1⟩,fit:=fun x hx=>(hin x hx).2}
 obtain⟨m2',dd⟩:=a2;have hd2:dd=[]:=hd2
 subst hd2;show Code.wp _ (.seq (.seq R8 blkGP) (.seq R13 .ret)) _ ⟨m2',[]⟩ W
 refine wp_seq (wp_seq (zC8 (k:=n) (by omega) hs2 hm7 _ fun a3 hd3 hs3 hm0' hm2' hm3' hm8'=>?_))
 have hL:LP ns (pos+5) w0 p0 b n n a3.tmps W:=⟨c2,c3,B,o,cap,D,_,pos+5,p1,hG.slots hs3 hm0' hm2' (hm3'.trans hm3),htl,by omega,fun j h1 h2=>absurd h2 (by omega)⟩
 obtain⟨m3',dd⟩:=a3;have hd3:dd=[]:=hd3
 subst hd3;show blkGP.wp _ _ ⟨m3',[]⟩ W
 refine zz4 hns (by omega) hn4 hL hm8' _ fun a4 w4 hd4 hL4=>?_
 obtain⟨m4,dd⟩:=a4;have hd4:dd=[]:=hd4
 subst hd4;show Code.wp _ (.seq R13 .ret) _ ⟨m4,[]⟩ w4
 clear hG hL;obtain⟨c2,c3,B,o,cap,D,R,pos',p4,g,hRN,hp4,hok⟩:=hL4.ex;obtain⟨E1,e1,e2,hE0,hE1,hrd⟩:=g.cells3;obtain⟨y0,y1,TT,hy⟩:=g.x2;refine zyk hE0 hE1 (zaj hy rfl) (zaj hy rfl) (frozen_of_row w4 c2 0 _ TT hy) (frozen_of_row w4 c2 1 _ TT hy) (fun e=>g.n23 e.symm) g.size g.m2 g.m3 _ ?_
 have hev1:Evo (·=c2) p4 w4 p4 (w4.setCell ⟨c2,0,none⟩ (.slice E1 e1 e2)):=zbw g.z2 (by simp[World.setCell]) (fun y hy=>heap_setCell_other _ _ _ _ hy) rfl rfl rfl
 have hev2:Evo (·=c2) p4 (w4.setCell ⟨c2,0,none⟩ (.slice E1 e1 e2)) p4 ((w4.setCell ⟨c2,0,none⟩ (.slice E1 e1 e2)).setCell ⟨c2,1,none⟩ (.slice (some ⟨B,o,none⟩) R.length cap)):=zbw g.z2 (by simp[World.setCell]) (fun y hy=>heap_setCell_other _ _ _ _ hy) rfl rfl rfl
 have hev3:=hev1.trans hev2 (C:=(·=c2)) (fun _ _ e=>e) (fun _ _ e=>e)
 refine⟨_,p4,D,R,pos',rfl,g.hD,g.hR,by omega,fun x hx=>?_,⟨_,rfl,hrd.evo hev3,g.rep.evo hev3,trivial⟩,g.evo.trans hev3 (fun _ _ e=>e) (fun c hc e=>absurd hc (by have:c=c2:=e;have:=g.g2;omega)),⟨fun c hc=>g.zp.1 c (Nat.le_trans hev3.size hc),fun _ _ _=>trivial⟩,((g.tk.own (Own':=(·=c2)) (fun e=>g.n2b e.symm)).evo hev3).own (fun h=>h),by omega,_,_,_,_,_,_,rfl,g.gB,g.okB,g.uq,?_⟩
 rotate_left
 ·obtain⟨a,T,hB,hs⟩:=g.xB
  exact⟨a,T,(hev3.block B g.ltB (fun e=>g.n2B e.symm)).trans hB,hs⟩
 obtain⟨j,hj,rfl⟩:=List.mem_iff_getElem.1 hx;have:=hok j (by omega) (by omega)
 rwa [show gP R j=R[j] by simp[gP,List.getD,hj]] at this
end
end
end Go.Proofs.Ytcpcagdialnbeaa

/- Generic texts and models for the proofs of this seat: part 34. -/
import Derived.Test.YtcpcagdialnbeaaY33
import Derived.StillTailTactics
import Derived.Deep.RegionHeld3
import Derived.WalkKit
set_option linter.unusedVariables false
set_option linter.unusedSimpArgs false
namespace Go.Proofs.Ytcpcagdialnbeaa
section
open Go Go.RowKit
def D0_:Code:=.region 0 #[⟨some 2,.assign (.const (.slice none 0 0)),23,"l30_generate.go:79",#[],none⟩] false
def D1_:Code:=.region 1 #[⟨some 5,.move (.tmp 0),47,"l30_generate.go:80",#[],none⟩,⟨some 6,.call ⟨.value (.func 67),#[.tmp 5],#[47]⟩,23,"l30_generate.go:80",#[⟨0,.data⟩],none⟩,⟨some 3,.assign (.tmp 6),23,"l30_generate.go:80",#[⟨1,.data⟩,⟨1,.chain⟩,⟨0,.phase⟩,⟨1,.phase⟩],none⟩] false
def D2_:Code:=.region 2 #[⟨some 7,.move (.tmp 0),47,"l30_generate.go:81",#[],none⟩,⟨some 8,.move (.tmp 3),23,"l30_generate.go:81",#[],none⟩,⟨some 9,.call ⟨.builtin .len,#[.tmp 8],#[23]⟩,3,"l30_generate.go:81",#[⟨1,.data⟩],none⟩,⟨some 10,.call ⟨.value (.func 27),#[.tmp 7,.tmp 9],#[47,3]⟩,3,"l30_generate.go:81",#[⟨0,.data⟩,⟨2,.data⟩],none⟩,⟨some 4,.assign (.tmp 10),3,"l30_generate.go:81",#[⟨3,.data⟩,⟨3,.chain⟩,⟨0,.phase⟩,⟨1,.phase⟩,⟨2,.phase⟩,⟨3,.phase⟩],none⟩] false
def D3_:Code:=.region 3 #[⟨some 11,.move (.tmp 0),47,"l30_generate.go:82",#[],none⟩,⟨some 12,.call ⟨.value (.func 27),#[.tmp 11,.const (.int .i64 14)],#[47,3]⟩,3,"l30_generate.go:82",#[⟨0,.data⟩],none⟩] false
def D4_:Code:=.region 4 #[⟨some 14,.binOp .eql 3 (.tmp 12) (.const (.int .i64 0)) 3,4,"l30_generate.go:83",#[],none⟩,⟨some 13,.assign (.tmp 14),4,"l30_generate.go:83",#[⟨0,.data⟩],none⟩] false
def D5_:Code:=.region 5 #[⟨some 15,.move (.tmp 3),23,"l30_generate.go:84",#[],none⟩,⟨some 16,.move (.tmp 4),3,"l30_generate.go:84",#[],none⟩,⟨some 17,.move (.tmp 0),47,"l30_generate.go:84",#[],none⟩,⟨some 18,.buildSlice 33 4 #[(0,.const (.int .i64 (-1))),(1,.const (.int .i64 5)),(2,.const (.int .i64 0)),(3,.const (.int .i64 2))],33,"l30_generate.go:84",#[],none⟩,⟨some 19,.call ⟨.value (.func 29),#[.tmp 17,.tmp 18],#[47,33]⟩,3,"l30_generate.go:84",#[⟨2,.data⟩,⟨3,.data⟩],none⟩,⟨some 20,.move (.tmp 0),47,"l30_generate.go:84",#[],none⟩,⟨some 21,.buildSlice 33 3 #[(0,.const (.int .i64 0)),(1,.const (.int .i64 1)),(2,.const (.int .i64 5))],33,"l30_generate.go:84",#[],none⟩,⟨some 22,.call ⟨.value (.func 29),#[.tmp 20,.tmp 21],#[47,33]⟩,3,"l30_generate.go:84",#[⟨5,.data⟩,⟨6,.data⟩,⟨4,.chain⟩],none⟩,⟨some 23,.build 83 #[(0,.tmp 19),(1,.tmp 22)],83,"l30_generate.go:84",#[⟨4,.data⟩,⟨7,.data⟩],none⟩,⟨some 24,.indexAddr 23 (.tmp 15) (.tmp 16),0,"l30_generate.go:84",#[⟨0,.data⟩,⟨1,.data⟩,⟨0,.phase⟩,⟨1,.phase⟩,⟨2,.phase⟩,⟨3,.phase⟩,⟨4,.phase⟩,⟨5,.phase⟩,⟨6,.phase⟩,⟨7,.phase⟩,⟨8,.phase⟩],none⟩,⟨none,.store 83 (.tmp 24) (.tmp 23),0,"l30_generate.go:84",#[⟨9,.data⟩,⟨8,.data⟩,⟨7,.chain⟩,⟨0,.phase⟩,⟨1,.phase⟩,⟨2,.phase⟩,⟨3,.phase⟩,⟨4,.phase⟩,⟨5,.phase⟩,⟨6,.phase⟩,⟨7,.phase⟩,⟨8,.phase⟩],none⟩] false
def D6_:Code:=.region 6 #[⟨some 26,.binOp .eql 3 (.tmp 12) (.const (.int .i64 1)) 3,4,"l30_generate.go:85",#[],none⟩,⟨some 25,.assign (.tmp 26),4,"l30_generate.go:85",#[⟨0,.data⟩],none⟩] false
def D7_:Code:=.region 7 #[⟨some 27,.move (.tmp 3),23,"l30_generate.go:86",#[],none⟩,⟨some 28,.move (.tmp 4),3,"l30_generate.go:86",#[],none⟩,⟨some 29,.move (.tmp 0),47,"l30_generate.go:86",#[],none⟩,⟨some 30,.buildSlice 33 4 #[(0,.const (.int .i64 (-1))),(1,.const (.int .i64 0)),(2,.const (.int .i64 4)),(3,.const (.int .i64 5))],33,"l30_generate.go:86",#[],none⟩,⟨some 31,.call ⟨.value (.func 29),#[.tmp 29,.tmp 30],#[47,33]⟩,3,"l30_generate.go:86",#[⟨2,.data⟩,⟨3,.data⟩],none⟩,⟨some 32,.buildSlice 33 1 #[(0,.tmp 31)],33,"l30_generate.go:86",#[⟨4,.data⟩],none⟩,⟨some 33,.call ⟨.value (.func 80),#[.tmp 32],#[33]⟩,94,"l30_generate.go:86",#[⟨5,.data⟩,⟨4,.chain⟩],none⟩,⟨some 34,.buildSlice 33 4 #[(0,.const (.int .i64 0)),(1,.const (.int .i64 0)),(2,.const (.int .i64 0)),(3,.const (.int .i64 0))],33,"l30_generate.go:86",#[],none⟩,⟨some 35,.call ⟨.value (.func 80),#[.tmp 34],#[33]⟩,94,"l30_generate.go:86",#[⟨7,.data⟩,⟨6,.chain⟩],none⟩,⟨some 36,.buildSlice 33 0 #[],33,"l30_generate.go:86",#[],none⟩,⟨some 37,.call ⟨.value (.func 80),#[.tmp 36],#[33]⟩,94,"l30_generate.go:86",#[⟨9,.data⟩,⟨8,.chain⟩],none⟩,⟨some 38,.buildSlice 81 3 #[(0,.tmp 33),(1,.tmp 35),(2,.tmp 37)],81,"l30_generate.go:86",#[⟨6,.data⟩,⟨8,.data⟩,⟨10,.data⟩],none⟩,⟨some 39,.build 83 #[(2,.tmp 38)],83,"l30_generate.go:86",#[⟨11,.data⟩],none⟩,⟨some 40,.indexAddr 23 (.tmp 27) (.tmp 28),0,"l30_generate.go:86",#[⟨0,.data⟩,⟨1,.data⟩,⟨0,.phase⟩,⟨1,.phase⟩,⟨2,.phase⟩,⟨3,.phase⟩,⟨4,.phase⟩,⟨5,.phase⟩,⟨6,.phase⟩,⟨7,.phase⟩,⟨8,.phase⟩,⟨9,.phase⟩,⟨10,.phase⟩,⟨11,.phase⟩,⟨12,.phase⟩],none⟩,⟨none,.store 83 (.tmp 40) (.tmp 39),0,"l30_generate.go:86",#[⟨13,.data⟩,⟨12,.data⟩,⟨10,.chain⟩,⟨0,.phase⟩,⟨1,.phase⟩,⟨2,.phase⟩,⟨3,.phase⟩,⟨4,.phase⟩,⟨5,.phase⟩,⟨6,.phase⟩,⟨7,.phase⟩,⟨8,.phase⟩,⟨9,.phase⟩,⟨10,.phase⟩,⟨11,.phase⟩,⟨12,.phase⟩],none⟩] false
def D8_:Code:=.region 8 #[⟨some 42,.binOp .eql 3 (.tmp 12) (.const (.int .i64 2)) 3,4,"l30_generate.go:87",#[],none⟩,⟨some 41,.assign (.tmp 42),4,"l30_generate.go:87",#[⟨0,.data⟩],none⟩] false
def D9_:Code:=.region 9 #[⟨some 43,.move (.tmp 3),23,"l30_generate.go:88",#[],none⟩,⟨some 44,.move (.tmp 4),3,"l30_generate.go:88",#[],none⟩,⟨some 45,.move (.tmp 4),3,"l30_generate.go:88",#[],none⟩,⟨some 46,.binOp .add 3 (.tmp 45) (.const (.int .i64 1)) 3,3,"l30_generate.go:88",#[⟨2,.data⟩],none⟩,⟨some 47,.buildSlice 33 1 #[(0,.tmp 46)],33,"l30_generate.go:88",#[⟨3,.data⟩],none⟩,⟨some 48,.call ⟨.value (.func 80),#[.tmp 47],#[33]⟩,94,"l30_generate.go:88",#[⟨4,.data⟩],none⟩,⟨some 49,.buildSlice 81 1 #[(0,.tmp 48)],81,"l30_generate.go:88",#[⟨5,.data⟩],none⟩,⟨some 50,.build 83 #[(2,.tmp 49)],83,"l30_generate.go:88",#[⟨6,.data⟩],none⟩,⟨some 51,.indexAddr 23 (.tmp 43) (.tmp 44),0,"l30_generate.go:88",#[⟨0,.data⟩,⟨1,.data⟩,⟨0,.phase⟩,⟨1,.phase⟩,⟨2,.phase⟩,⟨3,.phase⟩,⟨4,.phase⟩,⟨5,.phase⟩,⟨6,.phase⟩,⟨7,.phase⟩],none⟩,⟨none,.store 83 (.tmp 51) (.tmp 50),0,"l30_generate.go:88",#[⟨8,.data⟩,⟨7,.data⟩,⟨5,.chain⟩,⟨0,.phase⟩,⟨1,.phase⟩,⟨2,.phase⟩,⟨3,.phase⟩,⟨4,.phase⟩,⟨5,.phase⟩,⟨6,.phase⟩,⟨7,.phase⟩],none⟩] false
def D10_:Code:=.region 10 #[⟨some 53,.binOp .eql 3 (.tmp 12) (.const (.int .i64 3)) 3,4,"l30_generate.go:89",#[],none⟩,⟨some 52,.assign (.tmp 53),4,"l30_generate.go:89",#[⟨0,.data⟩],none⟩] false
def D11_:Code:=.region 11 #[⟨some 54,.move (.tmp 3),23,"l30_generate.go:90",#[],none⟩,⟨some 55,.move (.tmp 0),47,"l30_generate.go:90",#[],none⟩,⟨some 56,.buildSlice 33 3 #[(0,.const (.int .i64 0)),(1,.const (.int .i64 2)),(2,.const (.int .i64 1))],33,"l30_generate.go:90",#[],none⟩,⟨some 57,.call ⟨.value (.func 29),#[.tmp 55,.tmp 56],#[47,33]⟩,3,"l30_generate.go:90",#[⟨1,.data⟩,⟨2,.data⟩],none⟩,⟨some 58,.build 83 #[(0,.const (.int .i64 2)),(1,.tmp 57)],83,"l30_generate.go:90",#[⟨3,.data⟩],none⟩,⟨some 59,.buildSlice 23 1 #[(0,.tmp 58)],23,"l30_generate.go:90",#[⟨4,.data⟩],none⟩,⟨some 60,.call ⟨.builtin .append,#[.tmp 54,.tmp 59],#[23,23]⟩,23,"l30_generate.go:90",#[⟨0,.data⟩,⟨5,.data⟩,⟨3,.chain⟩],none⟩,⟨some 3,.assign (.tmp 60),23,"l30_generate.go:90",#[⟨6,.data⟩,⟨6,.chain⟩,⟨0,.phase⟩,⟨1,.phase⟩,⟨2,.phase⟩,⟨3,.phase⟩,⟨4,.phase⟩,⟨5,.phase⟩,⟨6,.phase⟩],none⟩] false
def D12_:Code:=.region 12 #[⟨some 62,.binOp .eql 3 (.tmp 12) (.const (.int .i64 4)) 3,4,"l30_generate.go:91",#[],none⟩,⟨some 61,.assign (.tmp 62),4,"l30_generate.go:91",#[⟨0,.data⟩],none⟩] false
def D13_:Code:=.region 13 #[⟨some 63,.move (.tmp 3),23,"l30_generate.go:92",#[],none⟩,⟨some 64,.move (.tmp 4),3,"l30_generate.go:92",#[],none⟩,⟨some 65,.move (.tmp 0),47,"l30_generate.go:92",#[],none⟩,⟨some 66,.call ⟨.value (.func 27),#[.tmp 65,.const (.int .i64 2)],#[47,3]⟩,3,"l30_generate.go:92",#[⟨2,.data⟩],none⟩,⟨some 67,.buildSlice 33 0 #[],33,"l30_generate.go:92",#[],none⟩,⟨some 68,.call ⟨.value (.func 80),#[.tmp 67],#[33]⟩,94,"l30_generate.go:92",#[⟨4,.data⟩,⟨3,.chain⟩],none⟩,⟨some 69,.buildSlice 33 1 #[(0,.const (.int .i64 2))],33,"l30_generate.go:92",#[],none⟩,⟨some 70,.call ⟨.value (.func 80),#[.tmp 69],#[33]⟩,94,"l30_generate.go:92",#[⟨6,.data⟩,⟨5,.chain⟩],none⟩,⟨some 71,.buildSlice 33 0 #[],33,"l30_generate.go:92",#[],none⟩,⟨some 72,.call ⟨.value (.func 80),#[.tmp 71],#[33]⟩,94,"l30_generate.go:92",#[⟨8,.data⟩,⟨7,.chain⟩],none⟩,⟨some 73,.buildSlice 33 0 #[],33,"l30_generate.go:92",#[],none⟩,⟨some 74,.call ⟨.value (.func 80),#[.tmp 73],#[33]⟩,94,"l30_generate.go:92",#[⟨10,.data⟩,⟨9,.chain⟩],none⟩,⟨some 75,.buildSlice 81 4 #[(0,.tmp 68),(1,.tmp 70),(2,.tmp 72),(3,.tmp 74)],81,"l30_generate.go:92",#[⟨5,.data⟩,⟨7,.data⟩,⟨9,.data⟩,⟨11,.data⟩],none⟩,⟨some 76,.move (.tmp 0),47,"l30_generate.go:92",#[],none⟩,⟨some 77,.call ⟨.value (.func 27),#[.tmp 76,.const (.int .i64 3)],#[47,3]⟩,3,"l30_generate.go:92",#[⟨13,.data⟩,⟨11,.chain⟩],none⟩,⟨some 78,.slice 81 (.tmp 75) (some (.tmp 77)) none none,81,"l30_generate.go:92",#[⟨12,.data⟩,⟨14,.data⟩],none⟩,⟨some 79,.build 83 #[(0,.tmp 66),(2,.tmp 78)],83,"l30_generate.go:92",#[⟨3,.data⟩,⟨15,.data⟩],none⟩,⟨some 80,.indexAddr 23 (.tmp 63) (.tmp 64),0,"l30_generate.go:92",#[⟨0,.data⟩,⟨1,.data⟩,⟨0,.phase⟩,⟨1,.phase⟩,⟨2,.phase⟩,⟨3,.phase⟩,⟨4,.phase⟩,⟨5,.phase⟩,⟨6,.phase⟩,⟨7,.phase⟩,⟨8,.phase⟩,⟨9,.phase⟩,⟨10,.phase⟩,⟨11,.phase⟩,⟨12,.phase⟩,⟨13,.phase⟩,⟨14,.phase⟩,⟨15,.phase⟩,⟨16,.phase⟩],none⟩,⟨none,.store 83 (.tmp 80) (.tmp 79),0,"l30_generate.go:92",#[⟨17,.data⟩,⟨16,.data⟩,⟨14,.chain⟩,⟨0,.phase⟩,⟨1,.phase⟩,⟨2,.phase⟩,⟨3,.phase⟩,⟨4,.phase⟩,⟨5,.phase⟩,⟨6,.phase⟩,⟨7,.phase⟩,⟨8,.phase⟩,⟨9,.phase⟩,⟨10,.phase⟩,⟨11,.phase⟩,⟨12,.phase⟩,⟨13,.phase⟩,⟨14,.phase⟩,⟨15,.phase⟩,⟨16,.phase⟩],none⟩] false
def D14_:Code:=.region 14 #[⟨some 82,.binOp .eql 3 (.tmp 12) (.const (.int .i64 5)) 3,4,"l30_generate.go:93",#[],none⟩,⟨some 81,.assign (.tmp 82),4,"l30_generate.go:93",#[⟨0,.data⟩],none⟩] false
def D15_:Code:=.region 15 #[⟨some 83,.move (.tmp 3),23,"l30_generate.go:94",#[],none⟩,⟨some 84,.build 83 #[],83,"l30_generate.go:94",#[],none⟩,⟨some 85,.build 83 #[(0,.const (.int .i64 3))],83,"l30_generate.go:94",#[],none⟩,⟨some 86,.buildSlice 23 2 #[(0,.tmp 84),(1,.tmp 85)],23,"l30_generate.go:94",#[⟨1,.data⟩,⟨2,.data⟩],none⟩,⟨some 87,.call ⟨.builtin .append,#[.tmp 83,.tmp 86],#[23,23]⟩,23,"l30_generate.go:94",#[⟨0,.data⟩,⟨3,.data⟩],none⟩,⟨some 3,.assign (.tmp 87),23,"l30_generate.go:94",#[⟨4,.data⟩,⟨4,.chain⟩,⟨0,.phase⟩,⟨1,.phase⟩,⟨2,.phase⟩,⟨3,.phase⟩,⟨4,.phase⟩],none⟩] false
def zwm:Code:=.region 16 #[⟨some 88,.move (.tmp 3),23,"l30_generate.go:96",#[],none⟩,⟨some 2,.assign (.tmp 88),23,"l30_generate.go:96",#[⟨0,.data⟩,⟨0,.phase⟩],none⟩] false
set_option maxRecDepth 100000 in
theorem zd5 {m:Array Value} (h:m.size=89):m=List.toArray (sM m 0::sM m 1::sM m 2::sM m 3::sM m 4::sM m 5::sM m 6::sM m 7::sM m 8::sM m 9::sM m 10::sM m 11::sM m 12::sM m 13::sM m 14::sM m 15::sM m 16::sM m 17::sM m 18::sM m 19::sM m 20::sM m 21::sM m 22::sM m 23::sM m 24::sM m 25::sM m 26::sM m 27::sM m 28::sM m 29::sM m 30::sM m 31::sM m 32::sM m 33::sM m 34::sM m 35::sM m 36::sM m 37::sM m 38::sM m 39::sM m 40::sM m 41::sM m 42::sM m 43::sM m 44::sM m 45::sM m 46::sM m 47::sM m 48::sM m 49::sM m 50::sM m 51::sM m 52::sM m 53::sM m 54::sM m 55::sM m 56::sM m 57::sM m 58::sM m 59::sM m 60::sM m 61::sM m 62::sM m 63::sM m 64::sM m 65::sM m 66::sM m 67::sM m 68::sM m 69::sM m 70::sM m 71::sM m 72::sM m 73::sM m 74::sM m 75::sM m 76::sM m 77::sM m 78::sM m 79::sM m 80::sM m 81::sM m 82::sM m 83::sM m 84::sM m 85::sM m 86::sM m 87::sM m 88::[]):=by
 apply Array.ext'
 have h1:m.toList=(List.range 89).map (fun i=>m.getD i undef):=by
  apply List.ext_getElem
  ·simp[h]
  ·intro i h1 h2
   simp only[Array.length_toList] at h1;simp[Array.getD,h1]
 exact h1.trans rfl
theorem znd (A:Option Addr) (n c:Nat) (w:World):Calls Try.prog 80 #[.slice A n c] w fun e w'=>e=.returned (.agg #[.slice A n c])∧w'=w.alloc (.cells #[.slice A n c] 94):=by
 have k0:(w.alloc (.cells #[.slice A n c] 94)).cell? ⟨w.heap.size,0,none⟩=some (.slice A n c):=zaj (j:=0) (heap_alloc_new w _) rfl
 go_enter Try.func80,Try.ntmps80
 go_wp2_with fail
 refine bodyPost_ret (v:=.agg #[.slice A n c]) ?_ rfl ⟨rfl,rfl⟩
 simp[results,Try.results80,go_sem,k0]
set_option maxRecDepth 100000 in
set_option maxHeartbeats 4000000 in
theorem zCC {m:Array Value}{w:World}{post:Option Addr→Nat→Nat→World→Prop} (hcall:Calls Try.prog 67 #[(m.getD 0 undef)] w fun e w'=>∃A n c,e=.returned (.slice A n c)∧post A n c w') (hs:m.size=89)  (Q:Exit→Act→World→Prop) (hQ:∀A n c (w':World),post A n c w'→∀a':Act,a'.defers=[]→a'.tmps.size=89→a'.tmps.getD 0 undef=m.getD 0 undef→a'.tmps.getD 3 undef=.slice A n c→Q .normal a' (w')) :
 D1_.wp Try.prog Q {tmps:=m,defers:=[]} w:=by
 have e:=zd5 hs
 rw[e];clear e;unfold D1_
 go_wp2_with fail
 refine hcall.mono ?_
 rintro e w' ⟨A,n,c,rfl,hp⟩
 go_wp2
 exact hQ _ _ _ _ hp _ rfl rfl rfl rfl
set_option maxRecDepth 100000 in
set_option maxHeartbeats 4000000 in
theorem zCB {m:Array Value}{B o n cap:Nat}{w:World}{post:Nat→World→Prop} (hn:n≤1048576) (hcall:Calls Try.prog 27 #[(m.getD 0 undef),.int .i64 (n:Int)] w fun e w'=>∃x:Nat,e=.returned (.int .i64 (x:Int))∧post x w') (hs:m.size=89) (m3:m.getD 3 undef=.slice (some ⟨B,o,none⟩) n cap) (Q:Exit→Act→World→Prop) (hQ:∀(x:Nat) (w':World),post x w'→∀a':Act,a'.defers=[]→a'.tmps.size=89→a'.tmps.getD 0 undef=m.getD 0 undef→a'.tmps.getD 3 undef=.slice (some ⟨B,o,none⟩) n cap→a'.tmps.getD 4 undef=.int .i64 (x:Int)→Q .normal a' (w')) :
 D2_.wp Try.prog Q {tmps:=m,defers:=[]} w:=by
 have e:=zd5 hs
 rw[show sM m 3=_ from m3] at e;rw[e];clear e;unfold D2_
 go_wp2_with fail
 refine hcall.mono ?_
 rintro e w' ⟨x,rfl,hp⟩
 go_wp2
 exact hQ _ _ hp _ rfl rfl rfl rfl rfl
set_option maxRecDepth 100000 in
set_option maxHeartbeats 4000000 in
theorem zCP {m:Array Value}{w:World}{post:Nat→World→Prop} (hcall:Calls Try.prog 27 #[(m.getD 0 undef),.int .i64 14] w fun e w'=>∃x:Nat,e=.returned (.int .i64 (x:Int))∧post x w') (hs:m.size=89)  (Q:Exit→Act→World→Prop) (hQ:∀(x:Nat) (w':World),post x w'→∀a':Act,a'.defers=[]→a'.tmps.size=89→a'.tmps.getD 0 undef=m.getD 0 undef→a'.tmps.getD 3 undef=m.getD 3 undef→a'.tmps.getD 4 undef=m.getD 4 undef→a'.tmps.getD 12 undef=.int .i64 (x:Int)→Q .normal a' (w')) :
 D3_.wp Try.prog Q {tmps:=m,defers:=[]} w:=by
 have e:=zd5 hs
 rw[e];clear e;unfold D3_
 go_wp2_with fail
 refine hcall.mono ?_
 rintro e w' ⟨x,rfl,hp⟩
 go_wp2
 exact hQ _ _ hp _ rfl rfl rfl rfl rfl rfl
set_option maxRecDepth 100000 in
set_option maxHeartbeats 4000000 in
theorem zCl {m:Array Value}{y:Int}{w:World}  (hs:m.size=89) (m12:m.getD 12 undef=.int .i64 y) (Q:Exit→Act→World→Prop) (hQ:∀a':Act,a'.defers=[]→a'.tmps.size=89→a'.tmps.getD 0 undef=m.getD 0 undef→a'.tmps.getD 3 undef=m.getD 3 undef→a'.tmps.getD 4 undef=m.getD 4 undef→a'.tmps.getD 12 undef=.int .i64 y→a'.tmps.getD 13 undef=.bool (y==0)→Q .normal a' (w)) :
 D4_.wp Try.prog Q {tmps:=m,defers:=[]} w:=by
 have e:=zd5 hs
 rw[show sM m 12=_ from m12] at e;rw[e];clear e;unfold D4_
 go_wp2
 exact hQ _ rfl rfl rfl rfl rfl rfl rfl
set_option maxRecDepth 100000 in
set_option maxHeartbeats 4000000 in
theorem zC5 {m:Array Value}{y:Int}{w:World}  (hs:m.size=89) (m12:m.getD 12 undef=.int .i64 y) (Q:Exit→Act→World→Prop) (hQ:∀a':Act,a'.defers=[]→a'.tmps.size=89→a'.tmps.getD 0 undef=m.getD 0 undef→a'.tmps.getD 3 undef=m.getD 3 undef→a'.tmps.getD 4 undef=m.getD 4 undef→a'.tmps.getD 12 undef=.int .i64 y→a'.tmps.getD 25 undef=.bool (y==1)→Q .normal a' (w)) :
 D6_.wp Try.prog Q {tmps:=m,defers:=[]} w:=by
 have e:=zd5 hs
 rw[show sM m 12=_ from m12] at e;rw[e];clear e;unfold D6_
 go_wp2
 exact hQ _ rfl rfl rfl rfl rfl rfl rfl
set_option maxRecDepth 100000 in
set_option maxHeartbeats 4000000 in
theorem zCG {m:Array Value}{y:Int}{w:World}  (hs:m.size=89) (m12:m.getD 12 undef=.int .i64 y) (Q:Exit→Act→World→Prop) (hQ:∀a':Act,a'.defers=[]→a'.tmps.size=89→a'.tmps.getD 0 undef=m.getD 0 undef→a'.tmps.getD 3 undef=m.getD 3 undef→a'.tmps.getD 4 undef=m.getD 4 undef→a'.tmps.getD 12 undef=.int .i64 y→a'.tmps.getD 41 undef=.bool (y==2)→Q .normal a' (w)) :
 D8_.wp Try.prog Q {tmps:=m,defers:=[]} w:=by
 have e:=zd5 hs
 rw[show sM m 12=_ from m12] at e;rw[e];clear e;unfold D8_
 go_wp2
 exact hQ _ rfl rfl rfl rfl rfl rfl rfl
set_option maxRecDepth 100000 in
set_option maxHeartbeats 4000000 in
theorem zBd {m:Array Value}{y:Int}{w:World}  (hs:m.size=89) (m12:m.getD 12 undef=.int .i64 y) (Q:Exit→Act→World→Prop) (hQ:∀a':Act,a'.defers=[]→a'.tmps.size=89→a'.tmps.getD 0 undef=m.getD 0 undef→a'.tmps.getD 3 undef=m.getD 3 undef→a'.tmps.getD 4 undef=m.getD 4 undef→a'.tmps.getD 12 undef=.int .i64 y→a'.tmps.getD 52 undef=.bool (y==3)→Q .normal a' (w)) :
 D10_.wp Try.prog Q {tmps:=m,defers:=[]} w:=by
 have e:=zd5 hs
 rw[show sM m 12=_ from m12] at e;rw[e];clear e;unfold D10_
 go_wp2
 exact hQ _ rfl rfl rfl rfl rfl rfl rfl
set_option maxRecDepth 100000 in
set_option maxHeartbeats 4000000 in
theorem zBi {m:Array Value}{y:Int}{w:World}  (hs:m.size=89) (m12:m.getD 12 undef=.int .i64 y) (Q:Exit→Act→World→Prop) (hQ:∀a':Act,a'.defers=[]→a'.tmps.size=89→a'.tmps.getD 0 undef=m.getD 0 undef→a'.tmps.getD 3 undef=m.getD 3 undef→a'.tmps.getD 4 undef=m.getD 4 undef→a'.tmps.getD 12 undef=.int .i64 y→a'.tmps.getD 61 undef=.bool (y==4)→Q .normal a' (w)) :
 D12_.wp Try.prog Q {tmps:=m,defers:=[]} w:=by
 have e:=zd5 hs
 rw[show sM m 12=_ from m12] at e;rw[e];clear e;unfold D12_
 go_wp2
 exact hQ _ rfl rfl rfl rfl rfl rfl rfl
set_option maxRecDepth 100000 in
set_option maxHeartbeats 4000000 in
theorem zBy {m:Array Value}{y:Int}{w:World}  (hs:m.size=89) (m12:m.getD 12 undef=.int .i64 y) (Q:Exit→Act→World→Prop) (hQ:∀a':Act,a'.defers=[]→a'.tmps.size=89→a'.tmps.getD 0 undef=m.getD 0 undef→a'.tmps.getD 3 undef=m.getD 3 undef→a'.tmps.getD 4 undef=m.getD 4 undef→a'.tmps.getD 12 undef=.int .i64 y→a'.tmps.getD 81 undef=.bool (y==5)→Q .normal a' (w)) :
 D14_.wp Try.prog Q {tmps:=m,defers:=[]} w:=by
 have e:=zd5 hs
 rw[show sM m 12=_ from m12] at e;rw[e];clear e;unfold D14_
 go_wp2
 exact hQ _ rfl rfl rfl rfl rfl rfl rfl
set_option maxRecDepth 100000 in
set_option maxHeartbeats 4000000 in
theorem zCK {m:Array Value}{B o n cap k:Nat}{w:World}{post:Int→Int→World→Prop} (hk:k<n) (hn:n≤1048576) (hcall:Calls Try.prog 29 #[(m.getD 0 undef),.slice (some ⟨w.heap.size,0,none⟩) 4 4] (w.alloc (.cells #[.int .i64 (-1),.int .i64 5,.int .i64 0,.int .i64 2] 3)) fun e w1=>∃y,e=.returned (.int .i64 y)∧Calls Try.prog 29 #[(m.getD 0 undef),.slice (some ⟨w1.heap.size,0,none⟩) 3 3] (w1.alloc (.cells #[.int .i64 0,.int .i64 1,.int .i64 5] 3)) fun e w'=>∃z,e=.returned (.int .i64 z)∧post y z w'∧∃u0 u1 u2,w'.cell? ⟨B,o+k*3,none⟩=some u0∧w'.cell? ⟨B,o+k*3+1,none⟩=some u1∧w'.cell? ⟨B,o+k*3+2,none⟩=some u2∧w'.frozen? ⟨B,o+k*3,none⟩=false∧w'.frozen? ⟨B,o+k*3+1,none⟩=false∧w'.frozen? ⟨B,o+k*3+2,none⟩=false) (hs:m.size=89) (m3:m.getD 3 undef=.slice (some ⟨B,o,none⟩) n cap) (m4:m.getD 4 undef=.int .i64 (k:Int)) (Q:Exit→Act→World→Prop) (hQ:∀y z (w':World),post y z w'→∀a':Act,a'.defers=[]→a'.tmps.size=89→a'.tmps.getD 0 undef=m.getD 0 undef→a'.tmps.getD 3 undef=.slice (some ⟨B,o,none⟩) n cap→Q .normal a' ((((w').setCell ⟨B,o+k*3,none⟩ (.int .i64 y)).setCell ⟨B,o+k*3+1,none⟩ (.int .i64 z)).setCell ⟨B,o+k*3+2,none⟩ (.slice none 0 0))) :
 D5_.wp Try.prog Q {tmps:=m,defers:=[]} w:=by
 have e:=zd5 hs
 rw[show sM m 3=_ from m3,show sM m 4=_ from m4] at e;rw[e];clear e;unfold D5_
 go_wp2_with fail
 refine hcall.mono ?_
 rintro e w1 ⟨y,rfl,hc2⟩
 clear hcall
 go_wp2_with fail
 refine hc2.mono ?_
 rintro e w' ⟨z,rfl,hp,u0,u1,u2,hu0,hu1,hu2,hf0,hf1,hf2⟩
 clear hc2
 go_wp2
 exact hQ _ _ _ hp _ rfl rfl rfl rfl
set_option maxRecDepth 100000 in
set_option maxHeartbeats 4000000 in
theorem zC4 {m:Array Value}{B o n cap k:Nat}{w:World}{aB:Array Value}{TB:TypeId} (hk:k<n) (hn:n≤1048576) (hB:w.heap[B]?=some (.cells aB TB (0,0))) (hsB:o+n*3≤aB.size) (hs:m.size=89) (m3:m.getD 3 undef=.slice (some ⟨B,o,none⟩) n cap) (m4:m.getD 4 undef=.int .i64 (k:Int)) (Q:Exit→Act→World→Prop) (hQ:∀a':Act,a'.defers=[]→a'.tmps.size=89→a'.tmps.getD 0 undef=m.getD 0 undef→a'.tmps.getD 3 undef=.slice (some ⟨B,o,none⟩) n cap→Q .normal a' (((((((w).alloc (.cells #[.int .i64 ((k:Int)+1)] 3)).alloc (.cells #[.slice (some ⟨w.heap.size,0,none⟩) 1 1] 94)).alloc (.cells #[.slice (some ⟨w.heap.size,0,none⟩) 1 1] 94)).setCell ⟨B,o+k*3,none⟩ (.int .i64 0)).setCell ⟨B,o+k*3+1,none⟩ (.int .i64 0)).setCell ⟨B,o+k*3+2,none⟩ (.slice (some ⟨w.heap.size+1+1,0,none⟩) 1 1))) :
 D9_.wp Try.prog Q {tmps:=m,defers:=[]} w:=by
 have e:=zd5 hs
 rw[show sM m 3=_ from m3,show sM m 4=_ from m4] at e;rw[e];clear e;unfold D9_;have hBB:∀O0 O1 O2:Obj,((((w).alloc O0).alloc O1).alloc O2).heap[B]?=some (.cells aB TB (0,0)):=fun O0 O1 O2=>by
  have hlt:B<(w).heap.size:=zaD hB
  refine(Below.heap_alloc _ _ _ (by(try simp only[World.size_alloc]);omega)).trans ?_;refine(Below.heap_alloc _ _ _ (by(try simp only[World.size_alloc]);omega)).trans ?_;refine(Below.heap_alloc _ _ _ (by(try simp only[World.size_alloc]);omega)).trans ?_
  exact hB
 have E0:∀O0 O1 O2:Obj,((((w).alloc O0).alloc O1).alloc O2).cell? ⟨B,o+k*3,none⟩=some (aB.getD (o+k*3) undef):=fun O0 O1 O2=>by
  simp only[World.cell?,hBB O0 O1 O2];rw[Array.getD_eq_getD_getElem?,Array.getElem?_eq_getElem (by omega)]
  rfl
 have F0:∀O0 O1 O2:Obj,((((w).alloc O0).alloc O1).alloc O2).frozen? ⟨B,o+k*3,none⟩=false:=fun O0 O1 O2=>frozen_of_row _ B _ _ _ (hBB O0 O1 O2)
 have E1:∀O0 O1 O2:Obj,((((w).alloc O0).alloc O1).alloc O2).cell? ⟨B,o+k*3+1,none⟩=some (aB.getD (o+k*3+1) undef):=fun O0 O1 O2=>by
  simp only[World.cell?,hBB O0 O1 O2];rw[Array.getD_eq_getD_getElem?,Array.getElem?_eq_getElem (by omega)]
  rfl
 have F1:∀O0 O1 O2:Obj,((((w).alloc O0).alloc O1).alloc O2).frozen? ⟨B,o+k*3+1,none⟩=false:=fun O0 O1 O2=>frozen_of_row _ B _ _ _ (hBB O0 O1 O2)
 have E2:∀O0 O1 O2:Obj,((((w).alloc O0).alloc O1).alloc O2).cell? ⟨B,o+k*3+2,none⟩=some (aB.getD (o+k*3+2) undef):=fun O0 O1 O2=>by
  simp only[World.cell?,hBB O0 O1 O2];rw[Array.getD_eq_getD_getElem?,Array.getElem?_eq_getElem (by omega)]
  rfl
 have F2:∀O0 O1 O2:Obj,((((w).alloc O0).alloc O1).alloc O2).frozen? ⟨B,o+k*3+2,none⟩=false:=fun O0 O1 O2=>frozen_of_row _ B _ _ _ (hBB O0 O1 O2)
 clear hBB hB;have s1:IntKind.i64.wrap ((k:Int)+1)=(k:Int)+1:=IntWalk.i64_in _ (by omega)
 go_wp2_with (go_at_call 80;refine(znd _ _ _ _).mono ?_;rintro e w2 ⟨rfl,rfl⟩)
 exact hQ _ rfl rfl rfl rfl
set_option maxRecDepth 100000 in
set_option maxHeartbeats 4000000 in
theorem zCT {m:Array Value}{B o n cap k:Nat}{w:World}{post:Int→World→Prop} (hk:k<n) (hn:n≤1048576) (hcall:Calls Try.prog 29 #[(m.getD 0 undef),.slice (some ⟨w.heap.size,0,none⟩) 4 4] (w.alloc (.cells #[.int .i64 (-1),.int .i64 0,.int .i64 4,.int .i64 5] 3)) fun e w1=>∃y,e=.returned (.int .i64 y)∧post y w1∧∃aB TB,w1.heap[B]?=some (.cells aB TB (0,0))∧o+n*3≤aB.size) (hs:m.size=89) (m3:m.getD 3 undef=.slice (some ⟨B,o,none⟩) n cap) (m4:m.getD 4 undef=.int .i64 (k:Int)) (Q:Exit→Act→World→Prop) (hQ:∀y (w1:World),post y w1→∀a':Act,a'.defers=[]→a'.tmps.size=89→a'.tmps.getD 0 undef=m.getD 0 undef→a'.tmps.getD 3 undef=.slice (some ⟨B,o,none⟩) n cap→Q .normal a' (((((((((((w1).alloc (.cells #[.int .i64 y] 3)).alloc (.cells #[.slice (some ⟨w1.heap.size,0,none⟩) 1 1] 94)).alloc (.cells #[.int .i64 0,.int .i64 0,.int .i64 0,.int .i64 0] 3)).alloc (.cells #[.slice (some ⟨w1.heap.size+1+1,0,none⟩) 4 4] 94)).alloc (.cells #[] 3)).alloc (.cells #[.slice (some ⟨w1.heap.size+1+1+1+1,0,none⟩) 0 0] 94)).alloc (.cells #[.slice (some ⟨w1.heap.size,0,none⟩) 1 1,.slice (some ⟨w1.heap.size+1+1,0,none⟩) 4 4,.slice (some ⟨w1.heap.size+1+1+1+1,0,none⟩) 0 0] 94)).setCell ⟨B,o+k*3,none⟩ (.int .i64 0)).setCell ⟨B,o+k*3+1,none⟩ (.int .i64 0)).setCell ⟨B,o+k*3+2,none⟩ (.slice (some ⟨w1.heap.size+1+1+1+1+1+1,0,none⟩) 3 3))) :
 D7_.wp Try.prog Q {tmps:=m,defers:=[]} w:=by
 have e:=zd5 hs
 rw[show sM m 3=_ from m3,show sM m 4=_ from m4] at e;rw[e];clear e;unfold D7_
 go_wp2_with fail
 refine hcall.mono ?_
 rintro e w1 ⟨y,rfl,hp,aB,TB,hB,hsB⟩
 clear hcall;have hBB:∀O0 O1 O2 O3 O4 O5 O6:Obj,((((((((w1).alloc O0).alloc O1).alloc O2).alloc O3).alloc O4).alloc O5).alloc O6).heap[B]?=some (.cells aB TB (0,0)):=fun O0 O1 O2 O3 O4 O5 O6=>by
  have hlt:B<(w1).heap.size:=zaD hB
  refine(Below.heap_alloc _ _ _ (by(try simp only[World.size_alloc]);omega)).trans ?_;refine(Below.heap_alloc _ _ _ (by(try simp only[World.size_alloc]);omega)).trans ?_;refine(Below.heap_alloc _ _ _ (by(try simp only[World.size_alloc]);omega)).trans ?_;refine(Below.heap_alloc _ _ _ (by(try simp only[World.size_alloc]);omega)).trans ?_;refine(Below.heap_alloc _ _ _ (by(try simp only[World.size_alloc]);omega)).trans ?_;refine(Below.heap_alloc _ _ _ (by(try simp only[World.size_alloc]);omega)).trans ?_;refine(Below.heap_alloc _ _ _ (by(try simp only[World.size_alloc]);omega)).trans ?_
  exact hB
 have E0:∀O0 O1 O2 O3 O4 O5 O6:Obj,((((((((w1).alloc O0).alloc O1).alloc O2).alloc O3).alloc O4).alloc O5).alloc O6).cell? ⟨B,o+k*3,none⟩=some (aB.getD (o+k*3) undef):=fun O0 O1 O2 O3 O4 O5 O6=>by
  simp only[World.cell?,hBB O0 O1 O2 O3 O4 O5 O6];rw[Array.getD_eq_getD_getElem?,Array.getElem?_eq_getElem (by omega)]
  rfl
 have F0:∀O0 O1 O2 O3 O4 O5 O6:Obj,((((((((w1).alloc O0).alloc O1).alloc O2).alloc O3).alloc O4).alloc O5).alloc O6).frozen? ⟨B,o+k*3,none⟩=false:=fun O0 O1 O2 O3 O4 O5 O6=>frozen_of_row _ B _ _ _ (hBB O0 O1 O2 O3 O4 O5 O6)
 have E1:∀O0 O1 O2 O3 O4 O5 O6:Obj,((((((((w1).alloc O0).alloc O1).alloc O2).alloc O3).alloc O4).alloc O5).alloc O6).cell? ⟨B,o+k*3+1,none⟩=some (aB.getD (o+k*3+1) undef):=fun O0 O1 O2 O3 O4 O5 O6=>by
  simp only[World.cell?,hBB O0 O1 O2 O3 O4 O5 O6];rw[Array.getD_eq_getD_getElem?,Array.getElem?_eq_getElem (by omega)]
  rfl
 have F1:∀O0 O1 O2 O3 O4 O5 O6:Obj,((((((((w1).alloc O0).alloc O1).alloc O2).alloc O3).alloc O4).alloc O5).alloc O6).frozen? ⟨B,o+k*3+1,none⟩=false:=fun O0 O1 O2 O3 O4 O5 O6=>frozen_of_row _ B _ _ _ (hBB O0 O1 O2 O3 O4 O5 O6)
 have E2:∀O0 O1 O2 O3 O4 O5 O6:Obj,((((((((w1).alloc O0).alloc O1).alloc O2).alloc O3).alloc O4).alloc O5).alloc O6).cell? ⟨B,o+k*3+2,none⟩=some (aB.getD (o+k*3+2) undef):=fun O0 O1 O2 O3 O4 O5 O6=>by
  simp only[World.cell?,hBB O0 O1 O2 O3 O4 O5 O6];rw[Array.getD_eq_getD_getElem?,Array.getElem?_eq_getElem (by omega)]
  rfl
 have F2:∀O0 O1 O2 O3 O4 O5 O6:Obj,((((((((w1).alloc O0).alloc O1).alloc O2).alloc O3).alloc O4).alloc O5).alloc O6).frozen? ⟨B,o+k*3+2,none⟩=false:=fun O0 O1 O2 O3 O4 O5 O6=>frozen_of_row _ B _ _ _ (hBB O0 O1 O2 O3 O4 O5 O6)
 clear hBB hB
 go_wp2_with (go_at_call 80;refine(znd _ _ _ _).mono ?_;rintro e w2 ⟨rfl,rfl⟩)
 exact hQ _ _ hp _ rfl rfl rfl rfl
set_option maxRecDepth 100000 in
set_option maxHeartbeats 4000000 in
theorem zBl {m:Array Value}{B o n cap k:Nat}{w:World}{post2:Nat→World→Nat→World→Prop} (hk:k<n) (hn:n≤1048576) (hcall:Calls Try.prog 27 #[(m.getD 0 undef),.int .i64 2] w fun e w1=>∃x:Nat,e=.returned (.int .i64 (x:Int))∧Calls Try.prog 27 #[(m.getD 0 undef),.int .i64 3] ((((((((((w1).alloc (.cells #[] 3)).alloc (.cells #[.slice (some ⟨w1.heap.size,0,none⟩) 0 0] 94)).alloc (.cells #[.int .i64 2] 3)).alloc (.cells #[.slice (some ⟨w1.heap.size+1+1,0,none⟩) 1 1] 94)).alloc (.cells #[] 3)).alloc (.cells #[.slice (some ⟨w1.heap.size+1+1+1+1,0,none⟩) 0 0] 94)).alloc (.cells #[] 3)).alloc (.cells #[.slice (some ⟨w1.heap.size+1+1+1+1+1+1,0,none⟩) 0 0] 94)).alloc (.cells #[.slice (some ⟨w1.heap.size,0,none⟩) 0 0,.slice (some ⟨w1.heap.size+1+1,0,none⟩) 1 1,.slice (some ⟨w1.heap.size+1+1+1+1,0,none⟩) 0 0,.slice (some ⟨w1.heap.size+1+1+1+1+1+1,0,none⟩) 0 0] 94)) fun e w2=>∃y:Nat,e=.returned (.int .i64 (y:Int))∧y<3∧post2 x w1 y w2∧∃u0 u1 u2,w2.cell? ⟨B,o+k*3,none⟩=some u0∧w2.cell? ⟨B,o+k*3+1,none⟩=some u1∧w2.cell? ⟨B,o+k*3+2,none⟩=some u2∧w2.frozen? ⟨B,o+k*3,none⟩=false∧w2.frozen? ⟨B,o+k*3+1,none⟩=false∧w2.frozen? ⟨B,o+k*3+2,none⟩=false) (hs:m.size=89) (m3:m.getD 3 undef=.slice (some ⟨B,o,none⟩) n cap) (m4:m.getD 4 undef=.int .i64 (k:Int)) (Q:Exit→Act→World→Prop) (hQ:∀(x:Nat) (w1:World) (y:Nat) (w2:World),y<3→post2 x w1 y w2→∀a':Act,a'.defers=[]→a'.tmps.size=89→a'.tmps.getD 0 undef=m.getD 0 undef→a'.tmps.getD 3 undef=.slice (some ⟨B,o,none⟩) n cap→Q .normal a' ((((w2).setCell ⟨B,o+k*3,none⟩ (.int .i64 (x:Int))).setCell ⟨B,o+k*3+1,none⟩ (.int .i64 0)).setCell ⟨B,o+k*3+2,none⟩ (.slice (some ⟨w1.heap.size+1+1+1+1+1+1+1+1,y,none⟩) (4-y) (4-y)))) :
 D13_.wp Try.prog Q {tmps:=m,defers:=[]} w:=by
 have e:=zd5 hs
 rw[show sM m 3=_ from m3,show sM m 4=_ from m4] at e;rw[e];clear e;unfold D13_
 go_wp2_with fail
 refine hcall.mono ?_
 rintro e w1 ⟨x,rfl,hc2⟩
 clear hcall
 go_wp2_with (go_at_call 80;refine(znd _ _ _ _).mono ?_;rintro e w2 ⟨rfl,rfl⟩)
 refine hc2.mono ?_
 rintro e w2 ⟨y,rfl,hy,hp,u0,u1,u2,hu0,hu1,hu2,hf0,hf1,hf2⟩
 clear hc2
 go_wp2
 exact hQ _ _ _ _ hy hp _ rfl rfl rfl rfl
set_option maxRecDepth 100000 in
set_option maxHeartbeats 4000000 in
theorem zBa {m:Array Value}{B o n cap:Nat}{w:World}{post:Int→Option Addr→Nat→Nat→World→Prop} (hcall:Calls Try.prog 29 #[(m.getD 0 undef),.slice (some ⟨w.heap.size,0,none⟩) 3 3] (w.alloc (.cells #[.int .i64 0,.int .i64 2,.int .i64 1] 3)) fun e w1=>∃y,e=.returned (.int .i64 y)∧∃G g1 g2 w',(Builtin.append_ #[23,23] 23 #[.slice (some ⟨B,o,none⟩) n cap,.slice (some ⟨w1.heap.size,0,none⟩) 1 1]).run Try.prog (w1.alloc (.cells #[.int .i64 2,.int .i64 y,.slice none 0 0] 83))=.ok (.slice G g1 g2) w'∧post y G g1 g2 w') (hs:m.size=89) (m3:m.getD 3 undef=.slice (some ⟨B,o,none⟩) n cap) (Q:Exit→Act→World→Prop) (hQ:∀y G g1 g2 (w':World),post y G g1 g2 w'→∀a':Act,a'.defers=[]→a'.tmps.size=89→a'.tmps.getD 0 undef=m.getD 0 undef→a'.tmps.getD 3 undef=.slice G g1 g2→Q .normal a' (w')) :
 D11_.wp Try.prog Q {tmps:=m,defers:=[]} w:=by
 have e:=zd5 hs
 rw[show sM m 3=_ from m3] at e;rw[e];clear e;unfold D11_
 go_wp2_with fail
 refine hcall.mono ?_
 rintro e w1 ⟨y,rfl,G,g1,g2,w',hrun,hp⟩
 clear hcall;have HR:=Lib.hid hrun
 clear hrun
 go_wp2_with (at_builtin;refine zfl rfl _ _ 23 rfl HR.out ?_)
 exact hQ _ _ _ _ _ hp _ rfl rfl rfl rfl
set_option maxRecDepth 100000 in
set_option maxHeartbeats 4000000 in
theorem zBO {m:Array Value}{B o n cap:Nat}{w:World}{post:Option Addr→Nat→Nat→World→Prop} (happ:∃G g1 g2 w',(Builtin.append_ #[23,23] 23 #[.slice (some ⟨B,o,none⟩) n cap,.slice (some ⟨w.heap.size,0,none⟩) 2 2]).run Try.prog (w.alloc (.cells #[.int .i64 0,.int .i64 0,.slice none 0 0,.int .i64 3,.int .i64 0,.slice none 0 0] 83))=.ok (.slice G g1 g2) w'∧post G g1 g2 w') (hs:m.size=89) (m3:m.getD 3 undef=.slice (some ⟨B,o,none⟩) n cap) (Q:Exit→Act→World→Prop) (hQ:∀G g1 g2 (w':World),post G g1 g2 w'→∀a':Act,a'.defers=[]→a'.tmps.size=89→a'.tmps.getD 0 undef=m.getD 0 undef→a'.tmps.getD 3 undef=.slice G g1 g2→Q .normal a' (w')) :
 D15_.wp Try.prog Q {tmps:=m,defers:=[]} w:=by
 have e:=zd5 hs
 rw[show sM m 3=_ from m3] at e;rw[e];clear e;unfold D15_;obtain⟨G,g1,g2,w',hrun,hp⟩:=happ;have HR:=Lib.hid hrun
 clear hrun
 go_wp2_with (at_builtin;refine zfl rfl _ _ 23 rfl HR.out ?_)
 exact hQ _ _ _ _ hp _ rfl rfl rfl rfl
set_option maxRecDepth 100000 in
set_option maxHeartbeats 4000000 in
theorem zBV {m:Array Value}{A:Option Addr}{n c:Nat}{w:World} (hs:m.size=89) (m3:m.getD 3 undef=.slice A n c) (Q:Exit→Act→World→Prop) (hQ:∀a':Act,a'.defers=[]→(results Try.f52 a'.tmps).run Try.prog w=.ok (.slice A n c) w→Q .ret a' w):(Code.seq zwm .ret).wp Try.prog Q {tmps:=m,defers:=[]} w:=by
 have e:=zd5 hs
 rw[show sM m 3=_ from m3] at e;rw[e];clear e;unfold zwm
 go_wp2
 refine hQ _ rfl ?_
 simp[results,Try.results52,go_sem]
set_option maxRecDepth 100000 in
theorem zzw:cOf Try.f52=.seq D0_ (.seq D1_ (.seq D2_ (.seq (.seq D3_ (.block 0 (.seq D4_ (.cond (.tmp 13) D5_ (.seq D6_ (.cond (.tmp 25) D7_ (.seq D8_ (.cond (.tmp 41) D9_ (.seq D10_ (.cond (.tmp 52) D11_ (.seq D12_ (.cond (.tmp 61) D13_ (.seq D14_ (.cond (.tmp 81) D15_ .skip)))))))))))))) (.seq zwm .ret)))):=by kernel_rfl
set_option maxRecDepth 100000 in
set_option maxHeartbeats 4000000 in
theorem zCN {m:Array Value}{w:World}  (hs:m.size=89)  (Q:Exit→Act→World→Prop) (hQ:∀a':Act,a'.defers=[]→a'.tmps.size=89→a'.tmps.getD 0 undef=m.getD 0 undef→Q .normal a' (w)) :
 D0_.wp Try.prog Q {tmps:=m,defers:=[]} w:=by
 have e:=zd5 hs
 rw[e];clear e;unfold D0_
 go_wp2
 exact hQ _ rfl rfl rfl
end
end Go.Proofs.Ytcpcagdialnbeaa

/- Generic texts and models for the proofs of this seat: part 21. -/
import Derived.Test.YtcpcagdialnbeaaY20
import Derived.StillTailTactics
import Derived.WalkKit
import Derived.Lib.Hide
import Derived.Laws.BitsAllLaws
import Derived.Laws.BitsLemmas
set_option linter.unusedVariables false
set_option linter.unusedSimpArgs false
namespace Go.Proofs.Ytcpcagdialnbeaa
section
open Go Go.RowKit
def W0b:Code:=.region 0 #[⟨some 3,.box 26 (.tmp 0),0,"laws.go:277",#[],none⟩,⟨some 5,.box 32 (.tmp 2),0,"laws.go:277",#[],none⟩,⟨some 6,.alloc 26,0,"laws.go:277",#[],none⟩] false
def W1b:Code:=.region 1 #[⟨some 8,.buildSlice 24 0 #[],24,"laws.go:278",#[],none⟩,⟨some 9,.fieldAddr 26 (.tmp 3) 1,0,"laws.go:278",#[],none⟩,⟨some 10,.load 24 (.tmp 9),24,"laws.go:278",#[⟨1,.data⟩],none⟩,⟨some 11,.call ⟨.builtin .append,#[.tmp 8,.tmp 10],#[24,24]⟩,24,"laws.go:278",#[⟨0,.data⟩,⟨2,.data⟩],none⟩,⟨some 7,.assign (.tmp 11),24,"laws.go:278",#[⟨3,.data⟩,⟨3,.chain⟩,⟨0,.phase⟩,⟨1,.phase⟩,⟨2,.phase⟩,⟨3,.phase⟩],none⟩] false
def W2b:Code:=.region 2 #[⟨some 12,.move (.tmp 7),24,"laws.go:279",#[],none⟩,⟨some 13,.move (.tmp 1),3,"laws.go:279",#[],none⟩,⟨some 14,.fieldAddr 26 (.tmp 3) 1,0,"laws.go:279",#[],none⟩,⟨some 15,.load 24 (.tmp 14),24,"laws.go:279",#[⟨2,.data⟩],none⟩,⟨some 16,.move (.tmp 1),3,"laws.go:279",#[],none⟩,⟨some 17,.indexAddr 24 (.tmp 15) (.tmp 16),0,"laws.go:279",#[⟨3,.data⟩,⟨4,.data⟩],none⟩,⟨some 18,.fieldAddr 35 (.tmp 17) 0,0,"laws.go:279",#[⟨5,.data⟩],none⟩,⟨some 19,.load 33 (.tmp 18),33,"laws.go:279",#[⟨6,.data⟩],none⟩,⟨some 20,.fieldAddr 26 (.tmp 3) 1,0,"laws.go:279",#[],none⟩,⟨some 21,.load 24 (.tmp 20),24,"laws.go:279",#[⟨8,.data⟩],none⟩,⟨some 22,.move (.tmp 1),3,"laws.go:279",#[],none⟩,⟨some 23,.indexAddr 24 (.tmp 21) (.tmp 22),0,"laws.go:279",#[⟨9,.data⟩,⟨10,.data⟩],none⟩,⟨some 24,.fieldAddr 35 (.tmp 23) 1,0,"laws.go:279",#[⟨11,.data⟩],none⟩,⟨some 25,.load 3 (.tmp 24),3,"laws.go:279",#[⟨12,.data⟩],none⟩,⟨some 26,.load 32 (.tmp 5),32,"laws.go:279",#[],none⟩,⟨some 27,.build 35 #[(0,.tmp 19),(1,.tmp 25),(2,.tmp 26)],35,"laws.go:279",#[⟨7,.data⟩,⟨13,.data⟩,⟨14,.data⟩],none⟩,⟨some 28,.indexAddr 24 (.tmp 12) (.tmp 13),0,"laws.go:279",#[⟨0,.data⟩,⟨1,.data⟩,⟨0,.phase⟩,⟨1,.phase⟩,⟨2,.phase⟩,⟨3,.phase⟩,⟨4,.phase⟩,⟨5,.phase⟩,⟨6,.phase⟩,⟨7,.phase⟩,⟨8,.phase⟩,⟨9,.phase⟩,⟨10,.phase⟩,⟨11,.phase⟩,⟨12,.phase⟩,⟨13,.phase⟩,⟨14,.phase⟩,⟨15,.phase⟩],none⟩,⟨none,.store 35 (.tmp 28) (.tmp 27),0,"laws.go:279",#[⟨16,.data⟩,⟨15,.data⟩,⟨0,.phase⟩,⟨1,.phase⟩,⟨2,.phase⟩,⟨3,.phase⟩,⟨4,.phase⟩,⟨5,.phase⟩,⟨6,.phase⟩,⟨7,.phase⟩,⟨8,.phase⟩,⟨9,.phase⟩,⟨10,.phase⟩,⟨11,.phase⟩,⟨12,.phase⟩,⟨13,.phase⟩,⟨14,.phase⟩,⟨15,.phase⟩],none⟩] true
def W3b:Code:=.region 3 #[⟨some 29,.fieldAddr 26 (.tmp 3) 0,0,"laws.go:280",#[],none⟩,⟨some 30,.load 23 (.tmp 29),23,"laws.go:280",#[⟨0,.data⟩],none⟩,⟨some 31,.move (.tmp 7),24,"laws.go:280",#[],none⟩,⟨some 32,.build 26 #[(0,.tmp 30),(1,.tmp 31)],26,"laws.go:280",#[⟨1,.data⟩,⟨2,.data⟩],none⟩,⟨none,.store 26 (.tmp 6) (.tmp 32),0,"laws.go:280",#[⟨3,.data⟩,⟨0,.phase⟩,⟨1,.phase⟩,⟨2,.phase⟩,⟨3,.phase⟩],none⟩] false
set_option maxRecDepth 100000 in
theorem zAk:cOf Try.f11=.seq W0b (.seq W1b (.seq W2b (.seq W3b .ret))):=by kernel_rfl
def sM (m:Array Value) (i:Nat):Value:=m.getD i undef
set_option maxRecDepth 100000 in
theorem zrZ {m:Array Value} (h:m.size=33):m=List.toArray (sM m 0::sM m 1::sM m 2::sM m 3::sM m 4::sM m 5::sM m 6::sM m 7::sM m 8::sM m 9::sM m 10::sM m 11::sM m 12::sM m 13::sM m 14::sM m 15::sM m 16::sM m 17::sM m 18::sM m 19::sM m 20::sM m 21::sM m 22::sM m 23::sM m 24::sM m 25::sM m 26::sM m 27::sM m 28::sM m 29::sM m 30::sM m 31::sM m 32::[]):=by
 apply Array.ext'
 have h1:m.toList=(List.range 33).map (fun i=>m.getD i undef):=by
  apply List.ext_getElem
  ·simp[h]
  ·intro i h1 h2
   simp only[Array.length_toList] at h1;simp[Array.getD,h1]
 exact h1.trans rfl
set_option maxRecDepth 100000 in
set_option maxHeartbeats 4000000 in
theorem zBJ {m:Array Value}{D1 E1 A3:Option Addr}{d1 d2 e1 e2 l3 k3:Nat}{x0 x1:Int}{w:World}  (hs:m.size=33) (m0:m.getD 0 undef=.agg #[.slice D1 d1 d2,.slice E1 e1 e2]) (m2:m.getD 2 undef=.agg #[.int .i64 x0,.int .i64 x1,.slice A3 l3 k3]) (Q:Exit→Act→World→Prop) (hQ:∀a':Act,a'.defers=[]→a'.tmps.size=33→a'.tmps.getD 1 undef=m.getD 1 undef→a'.tmps.getD 3 undef=.pointer (some ⟨w.heap.size,0,none⟩)→a'.tmps.getD 5 undef=.pointer (some ⟨w.heap.size+1,0,none⟩)→a'.tmps.getD 6 undef=.pointer (some ⟨w.heap.size+2,0,none⟩)→Q .normal a' (((w.alloc (.cells #[.slice D1 d1 d2,.slice E1 e1 e2] 26)).alloc (.cells #[.int .i64 x0,.int .i64 x1,.slice A3 l3 k3] 32)).alloc (.cells #[.slice none 0 0,.slice none 0 0] 26))) :
 W0b.wp Try.prog Q {tmps:=m,defers:=[]} w:=by
 have e:=zrZ hs
 rw[show sM m 0=_ from m0,show sM m 2=_ from m2] at e;rw[e];clear e;unfold W0b
 go_wp2
 exact hQ _ rfl rfl rfl rfl rfl rfl
theorem zna {P:Program}{w w':World}{ops:Array Oper}{rest:List Oper}{o:Oper}{a:Act}{Q:Exit→Act→World→Prop} (hgd:o.guard=none) (s x:Operand) (t:TypeId)
  (ho:o.op=.call {callee:=.builtin .append,args:=#[s,x],argTypes:=#[t,t]}) {v:Value} (hrun:(Builtin.append_ #[t,t] o.type #[a.eval s,a.eval x]).run P w=.ok v w') (h:wpList P ops Q rest (a.put o.dst v) w'):wpList P ops Q (o::rest) a w :=
 wpList_plain hgd fun _ hK=>by
  unfold Oper.wp execOp;simp only[ho,resolve,invoke,builtin,Sem.run_bind,Sem.run_pure,Result.andThen_ok,List.map_toArray,List.map_cons,List.map_nil,hrun];exact hK _ _ h
set_option maxRecDepth 100000 in
set_option maxHeartbeats 4000000 in
theorem zCa {m:Array Value}{c3:Nat}{E1:Option Addr}{e1 e2:Nat}{w:World}{post:Option Addr→Nat→Nat→World→Prop} (h31:w.cell? ⟨c3,1,none⟩=some (.slice E1 e1 e2)) (lt3:c3<w.heap.size) (happ:∃G g1 g2 w',(Builtin.append_ #[24,24] 24 #[.slice (some ⟨w.heap.size,0,none⟩) 0 0,.slice E1 e1 e2]).run Try.prog (w.alloc (.cells #[] 35))=.ok (.slice G g1 g2) w'∧post G g1 g2 w') (hs:m.size=33) (m3:m.getD 3 undef=.pointer (some ⟨c3,0,none⟩)) (Q:Exit→Act→World→Prop) (hQ:∀G g1 g2 (w':World),post G g1 g2 w'→∀a':Act,a'.defers=[]→a'.tmps.size=33→a'.tmps.getD 1 undef=m.getD 1 undef→a'.tmps.getD 3 undef=.pointer (some ⟨c3,0,none⟩)→a'.tmps.getD 5 undef=m.getD 5 undef→a'.tmps.getD 6 undef=m.getD 6 undef→a'.tmps.getD 7 undef=.slice G g1 g2→Q .normal a' (w')) :
 W1b.wp Try.prog Q {tmps:=m,defers:=[]} w:=by
 have e:=zrZ hs
 rw[show sM m 3=_ from m3] at e;rw[e];clear e;unfold W1b;obtain⟨G,g1,g2,w',hrun,hp⟩:=happ;have HR:=Lib.hid hrun
 clear hrun
 go_wp2_with (at_builtin;refine zna rfl _ _ 24 rfl HR.out ?_)
 exact hQ _ _ _ _ hp _ rfl rfl rfl rfl rfl rfl rfl
set_option maxRecDepth 100000 in
set_option maxHeartbeats 4000000 in
theorem zBu {m:Array Value}{c3 c5 Bo oo B o n cap e2 f p1 p2 l3 k3:Nat}{P1 A3:Option Addr}{r x0 x1:Int}{u0 u1 u2 u3 u4:Value}{w:World} (hf:f<n) (hn:n≤1048576) (hg:n≤cap) (h31:w.cell? ⟨c3,1,none⟩=some (.slice (some ⟨Bo,oo,none⟩) n e2)) (hp0:w.cell? ⟨Bo,oo+f*5,none⟩=some (.slice P1 p1 p2)) (hp1:w.cell? ⟨Bo,oo+f*5+1,none⟩=some (.int .i64 r)) (h50:w.cell? ⟨c5,0,none⟩=some (.int .i64 x0)) (h51:w.cell? ⟨c5,1,none⟩=some (.int .i64 x1)) (h52:w.cell? ⟨c5,2,none⟩=some (.slice A3 l3 k3)) (b0:w.cell? ⟨B,o+f*5,none⟩=some u0) (z0:w.frozen? ⟨B,o+f*5,none⟩=false) (b1:w.cell? ⟨B,o+f*5+1,none⟩=some u1) (z1:w.frozen? ⟨B,o+f*5+1,none⟩=false) (b2:w.cell? ⟨B,o+f*5+2,none⟩=some u2) (z2:w.frozen? ⟨B,o+f*5+2,none⟩=false) (b3:w.cell? ⟨B,o+f*5+3,none⟩=some u3) (z3:w.frozen? ⟨B,o+f*5+3,none⟩=false) (b4:w.cell? ⟨B,o+f*5+4,none⟩=some u4) (z4:w.frozen? ⟨B,o+f*5+4,none⟩=false) (hs:m.size=33) (m1:m.getD 1 undef=.int .i64 ((f:Nat):Int)) (m3:m.getD 3 undef=.pointer (some ⟨c3,0,none⟩)) (m5:m.getD 5 undef=.pointer (some ⟨c5,0,none⟩)) (m7:m.getD 7 undef=.slice (some ⟨B,o,none⟩) n cap) (Q:Exit→Act→World→Prop) (hQ:∀a':Act,a'.defers=[]→a'.tmps.size=33→a'.tmps.getD 3 undef=.pointer (some ⟨c3,0,none⟩)→a'.tmps.getD 5 undef=.pointer (some ⟨c5,0,none⟩)→a'.tmps.getD 6 undef=m.getD 6 undef→a'.tmps.getD 7 undef=.slice (some ⟨B,o,none⟩) n cap→Q .normal a' (zfb w.drew B (o+f*5) (.slice P1 p1 p2) (.int .i64 r) (.int .i64 x0) (.int .i64 x1) (.slice A3 l3 k3))) :
 W2b.wp Try.prog Q {tmps:=m,defers:=[]} w:=by
 have e:=zrZ hs
 rw[show sM m 1=_ from m1,show sM m 3=_ from m3,show sM m 5=_ from m5,show sM m 7=_ from m7] at e;rw[e];clear e;unfold W2b
 go_still_tail 17,(by kernel_rfl)
 have q0:w.drew.cell? ⟨c3,1,none⟩=some (.slice (some ⟨Bo,oo,none⟩) n e2):=h31
 have q1:w.drew.cell? ⟨Bo,oo+f*5,none⟩=some (.slice P1 p1 p2):=hp0
 have q2:w.drew.cell? ⟨Bo,oo+f*5+1,none⟩=some (.int .i64 r):=hp1
 have q3:w.drew.cell? ⟨c5,0,none⟩=some (.int .i64 x0):=h50
 have q4:w.drew.cell? ⟨c5,1,none⟩=some (.int .i64 x1):=h51
 have q5:w.drew.cell? ⟨c5,2,none⟩=some (.slice A3 l3 k3):=h52
 have q6:w.drew.cell? ⟨B,o+f*5,none⟩=some (u0):=b0
 have q7:w.drew.cell? ⟨B,o+f*5+1,none⟩=some (u1):=b1
 have q8:w.drew.cell? ⟨B,o+f*5+2,none⟩=some (u2):=b2
 have q9:w.drew.cell? ⟨B,o+f*5+3,none⟩=some (u3):=b3
 have q10:w.drew.cell? ⟨B,o+f*5+4,none⟩=some (u4):=b4
 have y0:w.drew.frozen? ⟨B,o+f*5,none⟩=false:=z0
 have y1:w.drew.frozen? ⟨B,o+f*5+1,none⟩=false:=z1
 have y2:w.drew.frozen? ⟨B,o+f*5+2,none⟩=false:=z2
 have y3:w.drew.frozen? ⟨B,o+f*5+3,none⟩=false:=z3
 have y4:w.drew.frozen? ⟨B,o+f*5+4,none⟩=false:=z4
 change wpList _ _ _ _ _ w.drew
 generalize w.drew=w2 at *
 go_wp2
 exact hQ _ rfl rfl rfl rfl rfl rfl
set_option maxRecDepth 100000 in
set_option maxHeartbeats 4000000 in
theorem zBP {m:Array Value}{c3 c6:Nat}{D1 G:Option Addr}{d1 d2 g1 g2:Nat}{w:World} (h30:w.cell? ⟨c3,0,none⟩=some (.slice D1 d1 d2)) (h60:w.cell? ⟨c6,0,none⟩=some (.slice none 0 0)) (h61:w.cell? ⟨c6,1,none⟩=some (.slice none 0 0)) (z0:w.frozen? ⟨c6,0,none⟩=false) (z1:w.frozen? ⟨c6,1,none⟩=false) (hs:m.size=33) (m3:m.getD 3 undef=.pointer (some ⟨c3,0,none⟩)) (m6:m.getD 6 undef=.pointer (some ⟨c6,0,none⟩)) (m7:m.getD 7 undef=.slice G g1 g2) (Q:Exit→Act→World→Prop) (hQ:∀a':Act,a'.defers=[]→a'.tmps.size=33→a'.tmps.getD 6 undef=.pointer (some ⟨c6,0,none⟩)→Q .normal a' ((w.setCell ⟨c6,0,none⟩ (.slice D1 d1 d2)).setCell ⟨c6,1,none⟩ (.slice G g1 g2))) :
 W3b.wp Try.prog Q {tmps:=m,defers:=[]} w:=by
 have e:=zrZ hs
 rw[show sM m 3=_ from m3,show sM m 6=_ from m6,show sM m 7=_ from m7] at e;rw[e];clear e;unfold W3b
 go_wp2
 exact hQ _ rfl rfl rfl
end
section
open Go Go.RowKit
theorem zu7 {p:Stb}{w:World}{E:Option Addr}{l c:Nat}{rows:List (List AC)} (h:Rep p w (.slice E l c) (.sl 5 rows)) (hne:rows≠[]):∃B o,E=some ⟨B,o,none⟩∧l=rows.length:=by
 generalize hv:Value.slice E l c=v at h
 generalize hc:AC.sl 5 rows=y at h
 cases h with
 | int n=>cases hc
 | bool b=>cases hc
 | nil a k=>cases hc;exact absurd rfl hne
 | sl b' o' cap' k' rows' f hk hrows hb hp hok hcap hcc hrr =>
  cases hc;cases hv;exact⟨_,_,rfl,rfl⟩
theorem zkL {p:Stb}{w:World}{v:Value}{k:Nat}{rows:List (List AC)} (h:Rep p w v (.sl k rows)):∃A l c,v=.slice A l c:=by
 generalize hc:AC.sl k rows=y at h
 cases h with
 | int n=>cases hc
 | bool b=>cases hc
 | nil a k=>exact⟨_,_,_,rfl⟩
 | sl b' o' cap' k' rows' f hk hrows hb hp hok hcap hcc hrr=>exact⟨_,_,_,rfl⟩
theorem zeF {w:World}{b j:Nat}{a:Array Value}{T:TypeId}{v:Value} (h:w.heap[b]?=some (.cells a T (0,0))) (ha:a[j]?=some v):w.cell? ⟨b,j,none⟩=some v:=by
 simp only[World.cell?,h];exact ha
theorem zyb {C:Nat→Prop}{p0 p:Stb}{w0 w:World}{B o:Nat}{x0 x1 x2 x3 x4:Value} (he:Evo C p0 w0 p w) (hB:w0.heap.size≤B):Evo C p0 w0 p (zfb w B o x0 x1 x2 x3 x4):=by
 refine⟨by simpa [zfb,World.setCell] using he.os,by simpa [zfb,World.setCell] using he.tape,by simpa [zfb,World.setCell] using he.output,by rw[zcb];exact he.size,fun c hc hn=>?_,he.keepP,he.same,fun c x hc hx=>?_,he.okk,fun c h1 h2=>he.uq c h1 (by rw[zcb] at h2;exact h2)⟩
 ·exact(zbM (Nat.ne_of_lt (Nat.lt_of_lt_of_le hc hB))).trans (he.block c hc hn)
 ·exact(World.cell?_of_block (w:=w) (zbM (Nat.ne_of_lt (Nat.lt_of_lt_of_le hc hB)))).trans (he.stable c x hc hx)
set_option maxHeartbeats 4000000 in
theorem zqQ {p:Stb}{w:World}{D1 E1 A3:Option Addr}{d1 d2 e1 e2 l3 k3:Nat}{x0 x1:Int}{f:Nat}{ds fs kids:List (List AC)}{ps:List (List AC)}{r:Int}{c2 c3' c4:AC}
  (hf:f<fs.length) (hl:fs.length≤1048576) (hrow:fs.getD f []=[.sl 1 ps,.int r,c2,c3',c4]) (hD:Rep p w (.slice D1 d1 d2) (.sl 3 ds)) (hF:Rep p w (.slice E1 e1 e2) (.sl 5 fs)) (hK:Rep p w (.slice A3 l3 k3) (.sl 3 kids)) (hz:Zp p w)
  (hda:apC 5 (.sl 3 ds)=true) (hfa:∀r∈fs,apL 5 r=true) (hka:apC 5 (.sl 3 kids)=true) :
  Calls Try.prog 11 #[.agg #[.slice D1 d1 d2,.slice E1 e1 e2],.int .i64 ((f:Nat):Int),.agg #[.int .i64 x0,.int .i64 x1,.slice A3 l3 k3]] w fun e w'=>∃v p',e=.returned v ∧
   RepS p' w' v (.agg [.sl 3 ds,.sl 5 (fs.set f [.sl 1 ps,.int r,.int x0,.int x1,.sl 3 kids])])∧Evo (fun _=>False) p w p' w'∧Zp p' w':=by
 have hne:fs≠[]:=fun e=>by rw[e] at hf;simp at hf
 refine calls_of_wp Try.func11 (c:=cOf Try.f11) (by kernel_rfl) ?_
 rw[zAk];obtain⟨m0,hm0⟩:∃m0,(#[Value.agg #[.slice D1 d1 d2,.slice E1 e1 e2],.int .i64 ((f:Nat):Int),.agg #[.int .i64 x0,.int .i64 x1,.slice A3 l3 k3]]++Array.replicate (Try.f11.ntmps-(#[Value.agg #[.slice D1 d1 d2,.slice E1 e1 e2],.int .i64 ((f:Nat):Int),.agg #[.int .i64 x0,.int .i64 x1,.slice A3 l3 k3]]:Array Value).size) undef)=m0:=⟨_,rfl⟩;have hs0:m0.size=33:=by rw[←hm0];simp[Try.ntmps11]
 have h00:m0.getD 0 undef=.agg #[.slice D1 d1 d2,.slice E1 e1 e2]:=by rw[←hm0];simp[Array.getD]
 have h01:m0.getD 1 undef=.int .i64 ((f:Nat):Int):=by rw[←hm0];simp[Array.getD]
 have h02:m0.getD 2 undef=.agg #[.int .i64 x0,.int .i64 x1,.slice A3 l3 k3]:=by rw[←hm0];simp[Array.getD]
 rw[hm0];clear hm0;refine wp_seq (zBJ hs0 h00 h02 _ fun a1 hd1 hs1 h11 h13 h15 h16=>?_)
 obtain⟨m1,dd⟩:=a1;have hd1:dd=[]:=hd1
 subst hd1;have hs1:m1.size=33:=hs1
 have h11:m1.getD 1 undef=.int .i64 ((f:Nat):Int):=h11.trans h01
 have h13:m1.getD 3 undef=.pointer (some ⟨w.heap.size,0,none⟩):=h13
 have h15:m1.getD 5 undef=.pointer (some ⟨w.heap.size+1,0,none⟩):=h15
 have h16:m1.getD 6 undef=.pointer (some ⟨w.heap.size+2,0,none⟩):=h16
 have ev1:=zav (p:=p) (w:=w) (.cells #[.slice D1 d1 d2,.slice E1 e1 e2] 26) 0 (fun _=>False)
 have xa:=heap_alloc_new w (.cells #[.slice D1 d1 d2,.slice E1 e1 e2] 26)
 have za:(w.alloc (.cells #[.slice D1 d1 d2,.slice E1 e1 e2] 26)).heap.size=w.heap.size+1:=by simp
 have wa:(upP p w.heap.size 0) w.heap.size=0:=by rw[za0,if_pos rfl]
 have hz1:Zp (upP p w.heap.size 0) (w.alloc (.cells #[.slice D1 d1 d2,.slice E1 e1 e2] 26)):=⟨fun c hc=>by
  rw[za0];split
  ·rfl
  ·exact hz.1 c (by omega),fun _ _ _=>trivial⟩
 generalize w.alloc (.cells #[.slice D1 d1 d2,.slice E1 e1 e2] 26)=wA at *
 generalize upP p w.heap.size 0=pA at *
 have ev2:=zav (p:=pA) (w:=wA) (.cells #[.int .i64 x0,.int .i64 x1,.slice A3 l3 k3] 32) 0 (fun _=>False)
 have xb:=heap_alloc_new wA (.cells #[.int .i64 x0,.int .i64 x1,.slice A3 l3 k3] 32)
 have zb:(wA.alloc (.cells #[.int .i64 x0,.int .i64 x1,.slice A3 l3 k3] 32)).heap.size=w.heap.size+2:=by simp[za]
 have wb:(upP pA wA.heap.size 0) (w.heap.size+1)=0:=by rw[za0,if_pos za.symm]
 have hz2:Zp (upP pA wA.heap.size 0) (wA.alloc (.cells #[.int .i64 x0,.int .i64 x1,.slice A3 l3 k3] 32)):=⟨fun c hc=>by
  rw[za0];split
  ·rfl
  ·exact hz1.1 c (by omega),fun _ _ _=>trivial⟩
 have xab:=(ev2.block w.heap.size (by omega) (fun h=>h)).trans xa
 have wab:=(ev2.same w.heap.size (by omega) (fun h=>h)).trans wa
 rw[za] at xb;generalize wA.alloc (.cells #[.int .i64 x0,.int .i64 x1,.slice A3 l3 k3] 32)=wB at *
 generalize upP pA wA.heap.size 0=pB at *
 have ev3:=zav (p:=pB) (w:=wB) (.cells #[.slice none 0 0,.slice none 0 0] 26) 0 (fun _=>False)
 have xc:=heap_alloc_new wB (.cells #[.slice none 0 0,.slice none 0 0] 26)
 have zc:(wB.alloc (.cells #[.slice none 0 0,.slice none 0 0] 26)).heap.size=w.heap.size+3:=by simp[zb]
 have wc:(upP pB wB.heap.size 0) (w.heap.size+2)=0:=by rw[za0,if_pos zb.symm]
 have hz3:Zp (upP pB wB.heap.size 0) (wB.alloc (.cells #[.slice none 0 0,.slice none 0 0] 26)):=⟨fun c hc=>by
  rw[za0];split
  ·rfl
  ·exact hz2.1 c (by omega),fun _ _ _=>trivial⟩
 have xac:=(ev3.block w.heap.size (by omega) (fun h=>h)).trans xab
 have xbc:=(ev3.block (w.heap.size+1) (by omega) (fun h=>h)).trans xb
 rw[zb] at xc;have hE3:=(ev1.trans ev2 (C:=fun _=>False) (fun _ _ h=>h) (fun _ _ h=>h)).trans ev3 (C:=fun _=>False) (fun _ _ h=>h) (fun _ _ h=>h)
 generalize wB.alloc (.cells #[.slice none 0 0,.slice none 0 0] 26)=W3 at *
 generalize upP pB wB.heap.size 0=p3 at *
 clear ev1 ev2 ev3 hz1 hz2 xa xb xab wa wab;show Code.wp _ (.seq W1b (.seq W2b (.seq W3b .ret))) _ ⟨m1,[]⟩ W3
 -- the copy
 have hu:Try.prog.underlying 24=some (.slice 35):=Try.underlying24
 obtain⟨te,hte,hsz⟩:∃e,lay.ti 35=some e∧e.size=5:=⟨_,rfl,rfl⟩;have ev4:=zav (p:=p3) (w:=W3) (.cells #[] 35) 0 (fun _=>False) 5
 have x4:=heap_alloc_new W3 (.cells #[] 35)
 have z4:(W3.alloc (.cells #[] 35)).heap.size=w.heap.size+4:=by simp[zc]
 have hz4:Zp (upP p3 W3.heap.size 0 5) (W3.alloc (.cells #[] 35)):=⟨fun c hc=>by
  rw[za0];split
  ·rfl
  ·exact hz3.1 c (by omega),fun _ _ _=>trivial⟩
 have hrt:Rt (upP p3 W3.heap.size 0 5) (W3.alloc (.cells #[] 35)) (.slice (some ⟨W3.heap.size,0,none⟩) 0 0) te.size:=.inr ⟨W3.heap.size,0,0,0,#[],35,rfl,x4,Nat.le_refl _,by simp,by rw[za0,if_pos rfl];omega,by rw[hsz];exact zd2 _ _ _ _⟩
 have hE4:=hE3.trans ev4 (C:=fun _=>False) (fun _ _ h=>h) (fun _ _ h=>h)
 obtain⟨v,w',p',hrun,hrep,hrt',hev,hz',hblk⟩:=zd7 (P:=Try.prog) (p:=upP p3 W3.heap.size 0 5) (w:=W3.alloc (.cells #[] 35)) hu (zeY _ _ hte) (x:=.slice (some ⟨W3.heap.size,0,none⟩) 0 0) (y:=.slice E1 e1 e2) (r:=[]) (r':=fs) (by omega) (.nil _ _) (by rw[hsz];exact hF.evo hE4) hrt hz4 (by simp[zgY];omega) 24
 rw[hsz,List.nil_append] at hrep;rw[hsz] at hrt';obtain⟨G,g1,g2,rfl⟩:=zkL hrep;obtain⟨B,o,rfl,rfl⟩:=zu7 hrep hne;have hBge:w.heap.size+3≤B:=by
  rcases hblk B rfl with e|e
  ·have:some W3.heap.size=some B:=e
   have:=Option.some.inj this
   omega
  ·omega
 obtain⟨a,T,hB,hcap,hsize⟩:∃a T,w'.heap[B]?=some (.cells a T (0,0))∧fs.length≤g2∧o+g2*5≤a.size:=by
  rcases hrt' with e|⟨b',o',len',cap',a,T,e,h1,h2,h3,_⟩
  ·cases e
  ·cases e
   exact⟨a,T,h1,h2,h3⟩
 have hev':Evo (fun b=>b=W3.heap.size) (upP p3 W3.heap.size 0 5) (W3.alloc (.cells #[] 35)) p' w':=hev.weaken fun c _ e=>by
  have:some W3.heap.size=some c:=e
  exact(Option.some.inj this).symm
 have hEw:=hE4.trans hev' (C:=fun _=>False) (fun _ _ h=>h) (fun c hc e=>absurd hc (by have:c=W3.heap.size:=e;omega))
 have keep:∀c,c<w.heap.size+3→w'.heap[c]?=W3.heap[c]?:=fun c hc=>(hev'.block c (by omega) (by omega)).trans (ev4.block c (by omega) (fun h=>h))
 have ya:=(keep w.heap.size (by omega)).trans xac
 have yb:=(keep (w.heap.size+1) (by omega)).trans xbc
 have yc:=(keep (w.heap.size+2) (by omega)).trans xc
 have wc':p' (w.heap.size+2)=0:=by rw[hev'.same _ (by omega) (by omega),ev4.same _ (by omega) (fun h=>h)];exact wc
 refine wp_seq (zCa (post:=fun G' g1' g2q W'=>some ⟨B,o,none⟩=G'∧fs.length=g1'∧g2=g2q∧w'=W') (zeF xac rfl) (by omega) ⟨_,_,_,_,hrun,rfl,rfl,rfl,rfl⟩ hs1 h13 _ ?_)
 rintro G' g1' g2q W' ⟨rfl,rfl,rfl,rfl⟩ a2 hd2 hs2 h21 h23 h25 h26 h27
 obtain⟨m2,dd⟩:=a2;have hd2:dd=[]:=hd2
 subst hd2;have hs2:m2.size=33:=hs2
 have h21:m2.getD 1 undef=.int .i64 ((f:Nat):Int):=h21.trans h11
 have h23:m2.getD 3 undef=.pointer (some ⟨w.heap.size,0,none⟩):=h23
 have h25:m2.getD 5 undef=.pointer (some ⟨w.heap.size+1,0,none⟩):=h25.trans h15
 have h26:m2.getD 6 undef=.pointer (some ⟨w.heap.size+2,0,none⟩):=h26.trans h16
 have h27:m2.getD 7 undef=.slice (some ⟨B,o,none⟩) fs.length g2:=h27
 -- the row
 have hF':=hF.evo hEw
 obtain⟨Bo,oo,rfl,rfl⟩:=zu7 hF' hne;obtain⟨_,_,_,_,_,_,_,ff,hcc,hrr⟩:=zcU hF' hne;have r0:=hrr f 0 (.sl 1 ps) (by rw[hrow];rfl)
 have r1:=hrr f 1 (.int r) (by rw[hrow];rfl)
 have q0:=hcc f 0 (.sl 1 ps) (by rw[hrow];rfl)
 have q1:=hcc f 1 (.int r) (by rw[hrow];rfl)
 obtain⟨P1,p1,p2,e0⟩:=zkL r0;have e1':ff f 1=.int .i64 r:=by
  generalize ff f 1=v at r1
  cases r1;rfl
 rw[e0] at r0 q0;rw[e1'] at r1 q1;rw[Nat.add_zero] at q0;have hle:=Nat.mul_le_mul_right 5 hcap
 have hc5:∀j,j<5→w'.cell? ⟨B,o+f*5+j,none⟩=some (a.getD (o+f*5+j) undef):=fun j hj=>by
  simp only[World.cell?,hB];rw[Array.getD_eq_getD_getElem?,Array.getElem?_eq_getElem (by omega)]
  rfl
 have fz:=fun i=>frozen_of_row w' B i a T hB
 refine wp_seq (zBu hf hl hcap (zeF ya rfl) q0 q1 (zeF yb rfl) (zeF yb rfl) (zeF yb rfl) (hc5 0 (by omega)) (fz _) (hc5 1 (by omega)) (fz _) (hc5 2 (by omega)) (fz _) (hc5 3 (by omega)) (fz _) (hc5 4 (by omega)) (fz _) hs2 h21 h23 h25 h27 _ fun a3 hd3 hs3 h33 h35 h36 h37=>?_)
 obtain⟨m3,dd⟩:=a3;have hd3:dd=[]:=hd3
 subst hd3;have hs3:m3.size=33:=hs3
 have h33:m3.getD 3 undef=.pointer (some ⟨w.heap.size,0,none⟩):=h33
 have h36:m3.getD 6 undef=.pointer (some ⟨w.heap.size+2,0,none⟩):=h36.trans h26
 have h37:m3.getD 7 undef=.slice (some ⟨B,o,none⟩) fs.length g2:=h37
 have hdr:Evo (fun _=>False) p' w' p' w'.drew:=(Evo.refl _ _ _).drew
 have hBd:w'.drew.heap[B]?=some (.cells a T (0,0)):=hB
 have hEd:=hEw.trans hdr (C:=fun _=>False) (fun _ _ h=>h) (fun _ _ h=>h)
 have hrd:=hrep.evo hdr
 obtain⟨_,_,_,hBlt,_,hok5,_⟩:=zcU hrd hne;have huq:∀j,p'.ok B j→j=5:=fun j hj=>hEd.uq B (by omega) hBlt j 5 hj hok5
 have hpa:apC 5 (.sl 1 ps)=true:=by
  have:=hfa _ (zaZ hf [])
  rw[hrow] at this;simp only[apL,Bool.and_eq_true] at this;exact this.1
 have hrowa:apL 5 [.sl 1 ps,.int r,.int x0,.int x1,.sl 3 kids]=true:=by
  simp only[apL,hpa,hka,Bool.true_and,Bool.and_true];rfl
 have hnew:=zqv hBd (by omega) huq hrd hfa hf (x0:=.slice P1 p1 p2) (x1:=.int .i64 r) (x2:=.int .i64 x0) (x3:=.int .i64 x1) (x4:=.slice A3 l3 k3) ⟨r0.evo hdr,.int _,.int _,.int _,(hK.evo hEw).evo hdr,trivial⟩ hrowa
 have hev5:=zmk (w:=w'.drew) (B:=B) (o:=o+f*5) (x0:=.slice P1 p1 p2) (x1:=.int .i64 r) (x2:=.int .i64 x0) (x3:=.int .i64 x1) (x4:=.slice A3 l3 k3) (raP p' B 0) (by rw[zep,if_pos rfl])
 have hDn:=zhh huq hev5 ((hD.evo hEw).evo hdr) hda
 have hEn:=zyb (B:=B) (o:=o+f*5) (x0:=.slice P1 p1 p2) (x1:=.int .i64 r) (x2:=.int .i64 x0) (x3:=.int .i64 x1) (x4:=.slice A3 l3 k3) hEd (by omega)
 have zz:(zfb w'.drew B (o+f*5) (.slice P1 p1 p2) (.int .i64 r) (.int .i64 x0) (.int .i64 x1) (.slice A3 l3 k3)).heap.size=w'.heap.size:=zcb
 have oth:∀c,c<w.heap.size+3→(zfb w'.drew B (o+f*5) (.slice P1 p1 p2) (.int .i64 r) (.int .i64 x0) (.int .i64 x1) (.slice A3 l3 k3)).heap[c]?=w'.heap[c]?:=fun c hc=>zbM (by omega)
 have va:=(oth w.heap.size (by omega)).trans ya
 have vc:=(oth (w.heap.size+2) (by omega)).trans yc
 generalize zfb w'.drew B (o+f*5) (.slice P1 p1 p2) (.int .i64 r) (.int .i64 x0) (.int .i64 x1) (.slice A3 l3 k3)=W at *
 show Code.wp _ (.seq W3b .ret) _ ⟨m3,[]⟩ W
 refine wp_seq (zBP (zeF va rfl) (zeF vc rfl) (zeF vc rfl) (frozen_of_row W _ 0 _ _ vc) (frozen_of_row W _ 1 _ _ vc) hs3 h33 h36 h37 _ fun a4 hd4 hs4 h46=>?_)
 obtain⟨m4,dd⟩:=a4;have hd4:dd=[]:=hd4
 subst hd4;have h46:m4.getD 6 undef=.pointer (some ⟨w.heap.size+2,0,none⟩):=h46
 have u1:=heap_setCell_same W (w.heap.size+2) 0 _ _ (.slice D1 d1 d2) vc
 have u2:=heap_setCell_same _ (w.heap.size+2) 1 _ _ (.slice (some ⟨B,o,none⟩) fs.length g2) u1
 have y0:=zeF (j:=0) u2 rfl
 have y1:=zeF (j:=1) u2 rfl
 have hevs:Evo (·=w.heap.size+2) p' W p' ((W.setCell ⟨w.heap.size+2,0,none⟩ (.slice D1 d1 d2)).setCell ⟨w.heap.size+2,1,none⟩ (.slice (some ⟨B,o,none⟩) fs.length g2)) :=
  (zbw wc' (by simp[World.setCell]) (fun y hy=>heap_setCell_other _ _ _ _ hy) rfl rfl rfl:Evo (·=w.heap.size+2) p' W p' (W.setCell ⟨w.heap.size+2,0,none⟩ (.slice D1 d1 d2))).trans (zbw wc' (by simp[World.setCell]) (fun y hy=>heap_setCell_other _ _ _ _ hy) rfl rfl rfl) (fun _ _ e=>e) (fun _ _ e=>e)
 refine wp_ret ?_
 refine⟨rfl,.agg #[.slice D1 d1 d2,.slice (some ⟨B,o,none⟩) fs.length g2],?_,_,p',rfl,⟨_,rfl,hDn.evo hevs,hnew.evo hevs,trivial⟩,hEn.trans hevs (C:=fun _=>False) (fun _ _ h=>h) (fun c hc e=>absurd hc (by have:c=w.heap.size+2:=e;omega)),⟨fun c hc=>hz'.1 c (by have:=hevs.size;omega),fun _ _ _=>trivial⟩⟩
 have h46q:m4[6]?.getD undef=.pointer (some ⟨w.heap.size+2,0,none⟩):=by rw[←Array.getD_eq_getD_getElem?];exact h46
 simp[results,Try.results11,go_sem,h46q,y0,y1]
def zxM (ds fs:List (List AC)) (f:Nat) (x0 x1:Int) (kids:List (List AC)):List AC→Option AV
 | [.sl 1 ps,.int r,_,_,_]=>some (.v (.agg [.sl 3 ds,.sl 5 (fs.set f [.sl 1 ps,.int r,.int x0,.int x1,.sl 3 kids])]))
 | _=>none
def zBY (ds fs:List (List AC)) (n x0 x1:Int) (kids:List (List AC)):Option AV :=
 if(0≤n∧n<fs.length)∧fs.length≤1048576∧apC 5 (.sl 3 ds)=true∧apR 5 fs=true∧apC 5 (.sl 3 kids)=true then zxM ds fs n.toNat x0 x1 kids (fs.getD n.toNat []) else none
def zuT:List SV→Option AV
 | [.agg [.sl 3 ds,.sl 5 fs],.cell (.int n),.agg [.int x0,.int x1,.sl 3 kids]]=>zBY ds fs n x0 x1 kids
 | _=>none
theorem zvI {args:List SV}{r:AV} (h:zuT args=some r):∃ds fs n x0 x1 kids,args=[.agg [.sl 3 ds,.sl 5 fs],.cell (.int n),.agg [.int x0,.int x1,.sl 3 kids]]∧zBY ds fs n x0 x1 kids=some r:=by
 unfold zuT at h;split at h
 ·exact⟨_,_,_,_,_,_,rfl,h⟩
 ·cases h
theorem zvq {ds fs:List (List AC)}{f:Nat}{x0 x1:Int}{kids:List (List AC)}{row:List AC}{r:AV} (h:zxM ds fs f x0 x1 kids row=some r):∃ps r1 c2 c3 c4,row=[.sl 1 ps,.int r1,c2,c3,c4]∧r=.v (.agg [.sl 3 ds,.sl 5 (fs.set f [.sl 1 ps,.int r1,.int x0,.int x1,.sl 3 kids])]):=by
 unfold zxM at h;split at h
 ·exact⟨_,_,_,_,_,rfl,(Option.some.inj h).symm⟩
 ·cases h
theorem zBg {rows:List (List AC)} (h:apR 5 rows=true):∀r∈rows,apL 5 r=true:=by
 induction rows with
 | nil=>intro r hr;cases hr
 | cons x xs ih =>
  simp only[apR,Bool.and_eq_true] at h;intro r hr;rcases List.mem_cons.1 hr with rfl|hr
  ·exact h.1
  ·exact ih h.2 r hr
theorem zCH (call:Orc):zjm Try.prog sig 11 (ziT call (.fn zuT)):=by
 intro args r hr;obtain⟨ds,fs,n,x0,x1,kids,e,hg⟩:=zvI hr;subst e;clear hr;unfold zBY at hg;split at hg
 rotate_left
 ·cases hg
 rename_i hc;obtain⟨⟨hn0,hn1⟩,hl,hda,hfa,hka⟩:=hc;obtain⟨f,rfl⟩:∃f:Nat,n=(f:Int):=⟨n.toNat,by omega⟩
 rw[Int.toNat_natCast] at hg;obtain⟨ps,r1,c2,c3,c4,hrow,rfl⟩:=zvq hg;refine⟨⟨rfl,Try.f11,Try.func11,by kernel_rfl,by kernel_rfl⟩,fun p w vals hv hz ht hap=>?_⟩
 match vals,hv with
 | [v0,v1,v2],⟨⟨a0,h0,hl0⟩,h1,⟨a2,h2,hl2⟩,_⟩ =>
 subst h0;subst h2;have h1:Rep p w v1 (.int (f:Int)):=h1
 cases h1;obtain⟨a0⟩:=a0;obtain⟨a2⟩:=a2
 match a0,hl0 with
 | [u0,u1],⟨r0,r1',_⟩ =>
 match a2,hl2 with
 | [z0,z1,z2],⟨s0,s1,s2,_⟩ =>
 cases s0;cases s1;obtain⟨D1,d1,d2,rfl⟩:=zkL r0;obtain⟨E1,e1,e2,rfl⟩:=zkL r1';obtain⟨A3,l3,k3,rfl⟩:=zkL s2;refine(zqQ (x0:=x0) (x1:=x1) (f:=f) (by omega) hl hrow r0 r1' s2 hz hda (zBg hfa) hka).mono ?_
 rintro e w' ⟨v,p',rfl,hrs,hev,hz'⟩
 have hgv:(sig.sg 11).gives=[]:=by kernel_rfl
 exact⟨v,rfl,p',hrs,(fun cs h=>(by cases h)),(fun h=>(by cases h)),hev.weaken (fun _ _ h=>h.elim),hz',(fun e he=>(by rw[hgv] at he;cases he)),(fun e e' u u' b he=>(by rw[hgv] at he;cases he))⟩
end
set_option maxRecDepth 100000
section
open Go Go.RowKit
noncomputable def ext:zpI:=[(11,.fn zuT)]
theorem zso:∀f e,sig.has f=false→ext.lookup f=some e→∀call,za4 Try.prog sig call→zjm Try.prog sig f (ziT call e):=by
 intro f e _ he call hC;have hm:=za2 he
 simp only[ext,List.mem_cons,List.not_mem_nil,or_false,Prod.mk.injEq] at hm;obtain⟨rfl,rfl⟩:=hm;exact zCH call
end
section
open Go Go.RowKit Go.BigFrame
def ziy (ns:List Nat) (p:Nat) (m:Int):Int :=
 if m<1∨ns.length=0 then 0
 else if p<ns.length then((ns.getD p 0:Nat):Int) % m
 else bits .xor .i64 (((ns.getD (p % ns.length) 0:Nat):Int)*131+((ns.getD ((p*7+3) % ns.length) 0:Nat):Int)*1117+(p:Int)*29+((p / ns.length:Nat):Int)*53) ((((ns.getD (p % ns.length) 0:Nat):Int)*131+((ns.getD ((p*7+3) % ns.length) 0:Nat):Int)*1117+(p:Int)*29+((p / ns.length:Nat):Int)*53) / 64) % m
structure RdN (w:World) (g p:Nat) (ns:List Nat) (T:TypeId) (A:Option Addr) (c:Nat):Prop where
 made:∃n,n≤2000∧n≤c∧w.heap[g]?=some (.cells #[.slice A n c,.int .i64 p] T (0,0))∧ns.length=n∧(0<n→∃b o,A=some ⟨b,o,none⟩∧b≠g∧∀(i u:Nat),ns[i]?=some u→u≤255∧w.cell? ⟨b,o+i,none⟩=some (.int .u8 (u:Int)))
theorem RdN.keep {w w':World}{g p:Nat}{ns:List Nat}{T:TypeId}{A:Option Addr}{c:Nat} (h:RdN w g p ns T A c) (s:∀k:Nat,w'.heap[k]?=w.heap[k]?):RdN w' g p ns T A c:=by
 obtain⟨n,h1,h2,hh,hl,hb⟩:=h.made;refine⟨n,h1,h2,(s g).trans hh,hl,fun hn=>?_⟩
 obtain⟨b,o,e,hl,hc⟩:=hb hn;refine⟨b,o,e,hl,fun i u hi=>?_⟩
 obtain⟨hu,hx⟩:=hc i u hi;exact⟨hu,(World.cell?_of_block (w:=w) (s b)).trans hx⟩
theorem RdN.step {w:World}{g p:Nat}{ns:List Nat}{T:TypeId}{A:Option Addr}{c:Nat} (h:RdN w g p ns T A c) (q:Nat):RdN (w.setCell ⟨g,1,none⟩ (.int .i64 q)) g q ns T A c:=by
 obtain⟨n,h1,h2,hh,hl,hb⟩:=h.made;refine⟨n,h1,h2,?_,hl,fun hn=>?_⟩
 ·simp[World.setCell,Array.getElem?_modify,hh]
 ·obtain⟨b,o,e,hl,hc⟩:=hb hn
  refine⟨b,o,e,hl,fun i u hi=>?_⟩
  obtain⟨hu,hx⟩:=hc i u hi;exact⟨hu,(World.cell?_setCell_other w _ _ _ (by intro e;injection e;omega)).trans hx⟩
theorem zhd {w:World}{g i:Nat} (u:Value):w.grownBy (w.setCell ⟨g,i,none⟩ u) (some g) :=
 ⟨rfl,rfl,rfl,by simp,fun k _ hk=>Below.heap_setCell w _ _ _ (fun e=>hk (by simp[e]))⟩
theorem zub {a w:World}{row:Option Nat} (h:a.grownBy w row) (n:Nat):a.grownBy (w.drewN n) row:=⟨h.os,h.tape,h.output,h.size,h.block⟩
theorem zrf (a:Nat) (ha:a<9223372036854775808):(BitVec.ofInt 64 (a:Int)).toNat=a:=by
 rw[BitVec.ofInt_natCast,BitVec.toNat_ofNat];exact Nat.mod_eq_of_lt (by omega)
theorem zzf (a b:Nat) (ha:a<9223372036854775808) (hb:b<9223372036854775808):∃k:Nat,k<9223372036854775808∧bits .xor .i64 (a:Int) (b:Int)=(k:Int):=by
 have hx:a ^^^ b<2 ^ 63:=Nat.xor_lt_two_pow (by omega) (by omega)
 refine⟨a ^^^ b,by omega,?_⟩
 show IntKind.i64.wrap ((BitVec.ofInt 64 (a:Int) ^^^ BitVec.ofInt 64 (b:Int)).toNat:Int)=_
 rw[BitVec.toNat_xor,zrf a ha,zrf b hb,IntKind.wrap_i64];omega
set_option maxHeartbeats 400000 in
theorem zy4 (m:Int) (g p:Nat) (ns:List Nat) (T:TypeId) (A:Option Addr) (c:Nat) (w:World) (hr:RdN w g p ns T A c) (hp:p≤1000000) :
  Calls Try.prog 27 #[.pointer (some ⟨g,0,none⟩),.int .i64 m] w fun e w'=>e=.returned (.int .i64 (ziy ns p m))∧RdN w' g (p+1) ns T A c∧w.grownBy w' (some g):=by
 have hr':=hr.step (p+1)
 rw[show((p+1:Nat):Int)=(p:Int)+1 by omega] at hr'
 obtain⟨n,hn,hnc,hh,hln,hb⟩:=hr.made;have c0:w.cell? ⟨g,0,none⟩=some (.slice A n c):=by simp[World.cell?,hh]
 have c1:w.cell? ⟨g,1,none⟩=some (.int .i64 p):=by simp[World.cell?,hh]
 have f1:w.frozen? ⟨g,1,none⟩=false:=by simp[World.frozen?,hh]
 have hg:(⟨g,0,none⟩:Addr)≠⟨g,1,none⟩:=by simp
 have Hr:=Lib.hid hr'
 clear hr hr' hh;by_cases hm:m<1
 ·go_enter Try.func27,Try.ntmps27
  go_wp2_with fail
  go_ret
  have hv:ziy ns p m=0:=by unfold ziy;rw[if_pos (.inl hm)]
  exact⟨(by first|rfl|exact congrArg (fun x=>Ending.returned (Value.int .i64 x)) hv.symm),Hr.out,zhd _⟩
 ·by_cases hz:n=0
  ·have hzb:((n:Int)==0)=true:=by simp[hz]
   have hv:ziy ns p m=0:=by unfold ziy;rw[if_pos (.inr (by omega))]
   clear hz hb hln
   go_enter Try.func27,Try.ntmps27
   go_wp2_with fail
   go_ret
   exact⟨(by first|rfl|exact congrArg (fun x=>Ending.returned (Value.int .i64 x)) hv.symm),Hr.out,zhd _⟩
  ·have hzb:((n:Int)==0)=false:=by simp[hz]
   obtain⟨b,o,rfl,hl,hc⟩:=hb (by omega)
   have hc:∀i,i<n→∃u:Nat,ns.getD i 0=u∧u≤255∧w.cell? ⟨b,o+i,none⟩=some (.int .u8 (u:Int)):=fun i hi=>by
    have hlt:i<ns.length:=hln▸hi
    obtain⟨h1,h2⟩:=hc i (ns.getD i 0) (by rw[List.getD_eq_getElem?_getD,List.getElem?_eq_getElem hlt];rfl)
    exact⟨_,rfl,h1,h2⟩
   have hzn:¬(m<1∨ns.length=0):=fun h=>h.elim hm (fun h=>hz (hln.symm.trans h))
   by_cases hk:p<n
   ·obtain⟨u,hun,hu,hx⟩:=hc p hk
    have hv:ziy ns p m=(u:Int) % m:=by unfold ziy;rw[if_neg hzn,if_pos (by omega),hun]
    have hne:(⟨b,o+p,none⟩:Addr)≠⟨g,1,none⟩:=by intro e;injection e;omega
    have hne':(⟨g,1,none⟩:Addr)≠⟨b,o+p,none⟩:=fun e=>hne e.symm
    clear hc hz hln hzn hun
    go_enter Try.func27,Try.ntmps27
    go_wp2_with fail
    go_ret
    exact⟨(by first|rfl|exact congrArg (fun x=>Ending.returned (Value.int .i64 x)) hv.symm),Hr.out,zhd _⟩
   ·obtain⟨i1,hi1⟩:∃i:Nat,p % n=i:=⟨_,rfl⟩
    obtain⟨i2,hi2⟩:∃i:Nat,(p*7+3) % n=i:=⟨_,rfl⟩;have hi1n:i1<n:=by rw[←hi1];exact Nat.mod_lt _ (by omega)
    have hi2n:i2<n:=by rw[←hi2];exact Nat.mod_lt _ (by omega)
    obtain⟨q,hq⟩:∃q:Nat,p / n=q:=⟨_,rfl⟩;have hd:q≤1000000:=by rw[←hq];exact Nat.le_trans (Nat.div_le_self _ _) hp
    obtain⟨u1,hun1,hu1,hx1⟩:=hc i1 hi1n;obtain⟨u2,hun2,hu2,hx2⟩:=hc i2 hi2n;have hv:ziy ns p m=bits .xor .i64 ((u1:Int)*131+(u2:Int)*1117+(p:Int)*29+(q:Int)*53) (((u1:Int)*131+(u2:Int)*1117+(p:Int)*29+(q:Int)*53) / 64) % m:=by
     unfold ziy;rw[if_neg hzn,if_neg (by omega),hln,hi1,hi2,hq,hun1,hun2]
    have hne1:(⟨b,o+i1,none⟩:Addr)≠⟨g,1,none⟩:=by intro e;injection e;omega
    have hne1':(⟨g,1,none⟩:Addr)≠⟨b,o+i1,none⟩:=fun e=>hne1 e.symm
    have hne2:(⟨b,o+i2,none⟩:Addr)≠⟨g,1,none⟩:=by intro e;injection e;omega
    have hne2':(⟨g,1,none⟩:Addr)≠⟨b,o+i2,none⟩:=fun e=>hne2 e.symm
    have t1:((p:Int).tmod (n:Int))=(i1:Int):=by rw[←hi1];rfl
    have t2:(((p:Int)*7+3).tmod (n:Int))=(i2:Int):=by rw[←hi2];rfl
    have t6:(p:Int) / (n:Int)=(q:Int):=by rw[←hq];rfl
    have t4:(p:Int) % (n:Int)=(i1:Int):=by rw[←hi1];rfl
    have t5:((p:Int)*7+3) % (n:Int)=(i2:Int):=by rw[←hi2];rfl
    clear hc hz hi1 hi2 hq hln hzn hun1 hun2
    go_enter Try.func27,Try.ntmps27
    go_wp2_with fail
    go_quiet (fail)
    clear t1 t2 t4 t5 t6;obtain⟨x0,hx0⟩:∃x0:Nat,(u1:Int)*131+(u2:Int)*1117+(p:Int)*29+(q:Int)*53=x0:=⟨u1*131+u2*1117+p*29+q*53,by omega⟩
    have hxl:x0≤1000000000:=by omega
    rw[hx0] at hv;rw[hx0];clear hx0;obtain⟨y,hy,hy2⟩:=zzf x0 (x0 / 64) (by omega) (by omega)
    rw[show((x0 / 64:Nat):Int)=(x0:Int) / 64 from rfl] at hy2
    go_wp2_with fail
    go_ret
    exact⟨(by first|exact congrArg (fun x=>Ending.returned (Value.int .i64 x)) (hv.trans (congrArg (· % m) hy2)).symm|exact congrArg (fun x=>Ending.returned (Value.int .i64 (x % m))) hy2.symm|rfl),Hr.out.keep (fun _=>rfl),zub (zhd _) _⟩
def zju:List (List AC)→Option (List Nat)
 | []=>some []
 | [.bool true,.int u]::rs=>if 0≤u then(zju rs).map (u.toNat::·) else none
 | _=>none
theorem zku:∀ns:List Nat,zju (ns.map fun(u:Nat)=>[.bool true,.int (u:Int)])=some ns
 | []=>rfl
 | u::ns=>by simp[zju,zku ns]
def zmj:List AC→List SV→Option (AV×List AC)
 | [.sl 1 rows,.int p],[.cell (.int m)]=>(zju rows).bind fun ns=>if 0≤p∧p≤1000000∧ns.length≤2000 then some (.v (.cell (.int (ziy ns p.toNat m))),[.sl 1 rows,.int (p+1)]) else none
 | _,_=>none
def zu8:zzv:={run:=fun _=>zmj,mono:=fun _ _ _ _ _ _ h=>h,cont:=fun _ _ _ _ _ _ _ h=>⟨0,h⟩}
theorem zvp {p:Stb}{w:World}{b:Nat} (hpb:p b=0) {v:Value}{rows:List (List AC)}{ns:List Nat} (hr:RepQ p w v (.sl 1 rows)) (hb:zju rows=some ns) :
  ∃A c,v=.slice A ns.length c∧ns.length≤c∧(0<ns.length→∃d o,A=some ⟨d,o,none⟩∧d≠b∧∀(i u:Nat),ns[i]?=some u→u≤255∧w.cell? ⟨d,o+i,none⟩=some (.int .u8 (u:Int))):=by
 rcases hr with hr|⟨A,n,cap,e,hc,ms,hl,hq,hx⟩
 ·have hnil:rows=[]→ns=[]:=fun h=>by
   rw[h] at hb;simp only[zju,Option.some.injEq] at hb;exact hb.symm
  cases hr with
  | nil a k =>
   have:=hnil rfl
   subst this;exact⟨a,0,rfl,Nat.le_refl _,fun h=>absurd h (Nat.lt_irrefl 0)⟩
  | sl d o cap k rows f hk hrows hd hp hok hcap hcc hrr =>
   cases rows with
   | nil =>
    have:=hnil rfl
    subst this;exact⟨some ⟨d,o,none⟩,cap,rfl,Nat.zero_le _,fun h=>absurd h (Nat.lt_irrefl 0)⟩
   | cons x xs =>
    have h1:=hrows x List.mem_cons_self
    unfold zju at hb;split at hb
    ·rename_i heq;cases heq
    ·rename_i heq;cases heq;simp at h1
    ·cases hb
 ·injection hq with _ hq
  rw[hq,zku] at hb;cases hb;rw[hl,e];refine⟨A,cap,rfl,hc,fun hn=>?_⟩
  obtain⟨d,o,hA,hd,hp,_,hcell⟩:=hx hn;exact⟨d,o,hA,fun e=>by subst e;omega,hcell⟩
theorem zyC {S:Sig} (hgv:(S.sg 27).gives=[]):zpY Try.prog S 27 zmj:=by
 intro q args r h;unfold zmj at h;split at h
 case h_2=>cases h
 rename_i rows pos m;simp only[zzOb] at h;obtain⟨ns,hns,h⟩:=h;split at h
 case isFalse=>cases h
 rename_i hc;cases h;refine⟨⟨rfl,_,Try.func27,by kernel_rfl,by kernel_rfl⟩,fun p w b vals hreps hz hTK=>?_⟩
 have hv:vals=[.int .i64 m]:=by
  match vals,hreps with
  | [v],hh =>
   obtain⟨h1,_⟩:=hh;have h1:Rep p w v (.int m):=h1
   cases h1;rfl
  | [],hh=>exact hh.elim
  | _::_::_,hh=>exact hh.2.elim
 subst hv;obtain⟨pn,rfl⟩:∃pn:Nat,pos=pn:=⟨pos.toNat,by omega⟩
 obtain⟨arr,T,hh,hq⟩:=hTK.cells;have harr:∃v0,arr=#[v0,.int .i64 pn]∧RepQ p w v0 (.sl 1 rows):=by
  obtain⟨l⟩:=arr
  match l,hq with
  | [v0,v1],hh =>
   obtain⟨h0,h1,_⟩:=hh;rcases h1 with h1|⟨_,_,_,_,_,_,_,hc,_⟩
   ·cases h1
    exact⟨v0,rfl,h0⟩
   ·cases hc
  | [],hh=>exact hh.elim
  | [_],hh=>exact hh.2.elim
  | _::_::_::_,hh=>exact hh.2.2.elim
 obtain⟨v0,rfl,h0⟩:=harr;obtain⟨A,c,rfl,hlc,hby⟩:=zvp hTK.pz h0 hns;have hrd:RdN w b pn ns T A c:=⟨ns.length,hc.2.2,hlc,hh,rfl,hby⟩
 refine(zy4 m b pn ns T A c w hrd (by omega)).mono ?_
 rintro e w' ⟨rfl,hrd',hg⟩
 obtain⟨n',_,_,hh',hln',_⟩:=hrd'.made;have hev:Evo (·=b) p w (okP p w 0) w':=⟨hg.os,hg.tape,hg.output,hg.size,fun c hc hne=>hg.block c hc (by simpa using hne),fun _ _=>Nat.le_refl _,fun _ _ _=>rfl,fun c o hc ho=>by
  have hne:c≠b:=fun e=>by subst e;rw[hTK.pz] at ho;omega
  exact World.cell?_of_block (w:=w) (hg.block c hc (by simpa using hne)),fun c hc=>zuG hc,fun _ h1 _ _ _ hi hj=>zx6 h1 hi hj⟩
 have hcell0:RepQ (okP p w 0) w' (.slice A ns.length c) (.sl 1 rows):=h0.evo hev
 have hn:n'=ns.length:=hln'.symm
 subst hn;refine⟨.int .i64 (ziy ns pn m),rfl,okP p w 0,?_,?_,?_,hev,⟨fun c hc=>hz.1 c (Nat.le_trans hg.size hc),fun c hc=>hz.2 c (Nat.le_trans hg.size hc)⟩,?_,?_,?_⟩
 ·exact Rep.int _
 ·intro cs h;cases h
 ·intro h;cases h
 ·refine⟨fun h=>h,Nat.lt_of_lt_of_le hTK.lt hg.size,hTK.pz,_,_,hh',hcell0,.inl ?_,trivial⟩
  exact Rep.int _
 ·rw[hgv];intro e he;cases he
 ·rw[hgv];intro e e' u u' c he;cases he
end
end Go.Proofs.Ytcpcagdialnbeaa

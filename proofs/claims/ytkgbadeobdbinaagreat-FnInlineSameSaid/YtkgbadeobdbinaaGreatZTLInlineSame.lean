/- What this law needs beside: its draw, its rest over values, its models. -/
import Derived.Test.YtkgbadeobdbinaaGreatZ40
import Derived.WalkKit
set_option linter.unusedVariables false
set_option linter.unusedSimpArgs false
set_option maxRecDepth 100000
namespace Go.Proofs.YtkgbadeobdbinaaGreat
section
open Go Go.RowKit
noncomputable def zdq:Ctx:={P:=Tryz.prog,L:=lay,F:=sig.has,E:=ext,fn:=Tryz.f7,lv:=[],jv:=[],tp:=[(22,[(true,[.sl 3 [],.sl 5 []]),(false,[.bool false])]),(28,[(true,[.sl 3 [],.sl 5 []]),(false,[.bool false])]),(55,[(true,[.sl 3 [],.sl 5 []]),(false,[.bool false])])]}
theorem zgC {l1:List (List AC)}{l2:List (List AC)}{n3:Int}{r:AV} (h:( zaC (zeN [.agg [.sl 3 l1,.sl 5 l2],.cell (.int n3)]) true [(true,[.sl 3 [],.sl 5 []]),(false,[.bool false])] fun l4 l5 b6=>zaC (zge [.agg [.sl 3 l1,.sl 5 l2],.cell (.int n3)]) true [(true,[.sl 3 [],.sl 5 []]),(false,[.bool false])] fun l7 l8 b9=>zaC (zaJ [.agg [.sl 3 l4,.sl 5 l5],.agg [.sl 3 l7,.sl 5 l8]]) false [(false,[.bool false])] fun b10=>bif (!b10) then zaC (zaJ [.agg [.sl 3 l4,.sl 5 l5],.agg [.sl 3 l7,.sl 5 l8]]) false [(false,[.bool false])] fun b11=>bif b11 then some (.v (.cell (.bool (b6==b9)))) else some (.v (.cell (.bool false))) else bif (b6 != b9) then zaC (zaJ [.agg [.sl 3 l4,.sl 5 l5],.agg [.sl 3 l7,.sl 5 l8]]) false [(false,[.bool false])] fun b12=>bif b12 then some (.v (.cell (.bool (b6==b9)))) else some (.v (.cell (.bool false))) else bif (!b6) then zaC (zaJ [.agg [.sl 3 l4,.sl 5 l5],.agg [.sl 3 l7,.sl 5 l8]]) false [(false,[.bool false])] fun b13=>bif b13 then some (.v (.cell (.bool (b6==b9)))) else some (.v (.cell (.bool false))) else zaC (zeN [.agg [.sl 3 l4,.sl 5 l5],.cell (.int n3)]) true [(true,[.sl 3 [],.sl 5 []]),(false,[.bool false])] fun l14 l15 b16=>bif b16 then zaC (zaJ [.agg [.sl 3 l14,.sl 5 l15],.agg [.sl 3 l4,.sl 5 l5]]) false [(false,[.bool false])] fun b17=>bif b17 then zaC (zgJ [.agg [.sl 3 l1,.sl 5 l2],.cell (.int n3)]) false [(false,[.int 0])] fun n18=>bif (decide (n18>0)) then some (.v (.cell (.bool true))) else zaC (zaJ [.agg [.sl 3 l4,.sl 5 l5],.agg [.sl 3 l1,.sl 5 l2]]) false [(false,[.bool false])] fun b19=>some (.v (.cell (.bool b19))) else some (.v (.cell (.bool false))) else some (.v (.cell (.bool false))):Option AV)=some r):evM zdq 100000 (.run (zgo 3 (cOf Tryz.f7))) [] [(3,.box [.sl 3 l1,.sl 5 l2]),(4,.v (.cell (.int n3)))]=some r:=Eq.trans (by kernel_rfl) h
theorem zmu:(zcn zaj lay sig (zgo 3 (cOf Tryz.f7)) (stM 75)).isSome=true:=by kernel_rfl
def FnInlineSameR0:Code:=.region 0 #[⟨some 2,.assign (.const (.bool false)),4,"laws.go:3718",#[],none⟩] false
def FnInlineSameR1:Code:=.region 1 #[⟨some 11,.move (.tmp 0),22,"laws.go:3719",#[],none⟩,⟨some 12,.call ⟨.builtin .len,#[.tmp 11],#[22]⟩,3,"laws.go:3719",#[⟨0,.data⟩],none⟩,⟨some 13,.binOp .gtr 3 (.tmp 12) (.const (.int .i64 1048576)) 3,4,"laws.go:3719",#[⟨1,.data⟩],none⟩] false
def zsE:Code:=.region 2 #[⟨some 2,.assign (.const (.bool true)),4,"laws.go:3720",#[],none⟩] false
def FnInlineSameR3:Code:=.region 3 #[⟨some 15,.move (.tmp 0),22,"laws.go:3722",#[],none⟩,⟨some 16,.call ⟨.value (.func 18),#[.tmp 15],#[22]⟩,41,"laws.go:3722",#[⟨0,.data⟩],none⟩,⟨some 14,.move (.tmp 16),41,"laws.go:3722",#[⟨1,.data⟩],none⟩,⟨some 17,.extract (.tmp 14) 0,26,"laws.go:3722",#[⟨2,.data⟩],none⟩,⟨some 18,.extract (.tmp 14) 1,3,"laws.go:3722",#[⟨2,.data⟩,{on:=6,ground:=Go.Ground.gcOnly Go.Departure.lateStores}],none⟩,⟨some 3,.alloc 26,0,"laws.go:3722",#[],none⟩,⟨none,.store 26 (.tmp 3) (.tmp 17),0,"laws.go:3722",#[⟨5,.data⟩,⟨3,.data⟩,⟨1,.chain⟩,⟨0,.phase⟩,⟨1,.phase⟩,⟨2,.phase⟩,⟨3,.phase⟩,{on:=4,ground:=Go.Ground.textOnly Go.Departure.lateStores},⟨5,.phase⟩],none⟩,⟨some 4,.assign (.tmp 18),3,"laws.go:3722",#[⟨4,.data⟩,⟨6,.chain⟩,⟨0,.phase⟩,⟨1,.phase⟩,⟨2,.phase⟩,⟨3,.phase⟩,⟨4,.phase⟩,⟨5,.phase⟩,⟨6,.phase⟩],none⟩] false
theorem zph:cOf Tryz.f7=.seq FnInlineSameR0 (.seq (.seq FnInlineSameR1 (.cond (.tmp 13) (.seq zsE .ret) .skip)) (.seq FnInlineSameR3 (zgo 3 (cOf Tryz.f7)))):=by kernel_rfl
theorem zhu {m:Array Value} (h:m.size=75):m=List.toArray (m.getD 0 undef::m.getD 1 undef::m.getD 2 undef::m.getD 3 undef::m.getD 4 undef::m.getD 5 undef::m.getD 6 undef::m.getD 7 undef::m.getD 8 undef::m.getD 9 undef::m.getD 10 undef::m.getD 11 undef::m.getD 12 undef::m.getD 13 undef::m.getD 14 undef::m.getD 15 undef::m.getD 16 undef::m.getD 17 undef::m.getD 18 undef::m.getD 19 undef::m.getD 20 undef::m.getD 21 undef::m.getD 22 undef::m.getD 23 undef::m.getD 24 undef::m.getD 25 undef::m.getD 26 undef::m.getD 27 undef::m.getD 28 undef::m.getD 29 undef::m.getD 30 undef::m.getD 31 undef::m.getD 32 undef::m.getD 33 undef::m.getD 34 undef::m.getD 35 undef::m.getD 36 undef::m.getD 37 undef::m.getD 38 undef::m.getD 39 undef::m.getD 40 undef::m.getD 41 undef::m.getD 42 undef::m.getD 43 undef::m.getD 44 undef::m.getD 45 undef::m.getD 46 undef::m.getD 47 undef::m.getD 48 undef::m.getD 49 undef::m.getD 50 undef::m.getD 51 undef::m.getD 52 undef::m.getD 53 undef::m.getD 54 undef::m.getD 55 undef::m.getD 56 undef::m.getD 57 undef::m.getD 58 undef::m.getD 59 undef::m.getD 60 undef::m.getD 61 undef::m.getD 62 undef::m.getD 63 undef::m.getD 64 undef::m.getD 65 undef::m.getD 66 undef::m.getD 67 undef::m.getD 68 undef::m.getD 69 undef::m.getD 70 undef::m.getD 71 undef::m.getD 72 undef::m.getD 73 undef::m.getD 74 undef::[]):=by
 apply Array.ext'
 have h1:m.toList=(List.range 75).map (fun i=>m.getD i undef):=by
  apply List.ext_getElem
  ·simp[h]
  ·intro i h1 h2
   simp only[Array.length_toList] at h1;simp[Array.getD,h1]
 exact h1.trans rfl
set_option maxHeartbeats 4000000 in
theorem zqh {f:Nat→Value}{A:Option Addr}{n c:Nat}{w:World}  (Q:Exit→Act→World→Prop) (hQ:∀a':Act,a'.defers=[]→a'.tmps.size=75→a'.tmps.getD 0 undef=.slice A n c→Q .normal a' (w)) :
 FnInlineSameR0.wp Tryz.prog Q {tmps:=List.toArray (.slice A n c::f 1::f 2::f 3::f 4::f 5::f 6::f 7::f 8::f 9::f 10::f 11::f 12::f 13::f 14::f 15::f 16::f 17::f 18::f 19::f 20::f 21::f 22::f 23::f 24::f 25::f 26::f 27::f 28::f 29::f 30::f 31::f 32::f 33::f 34::f 35::f 36::f 37::f 38::f 39::f 40::f 41::f 42::f 43::f 44::f 45::f 46::f 47::f 48::f 49::f 50::f 51::f 52::f 53::f 54::f 55::f 56::f 57::f 58::f 59::f 60::f 61::f 62::f 63::f 64::f 65::f 66::f 67::f 68::f 69::f 70::f 71::f 72::f 73::f 74::[]),defers:=[]} w:=by
 unfold FnInlineSameR0
 go_wp2
 exact hQ _ rfl rfl rfl
theorem zp1 {m:Array Value}{A:Option Addr}{n c:Nat}{w:World}  (hs:m.size=75) (m0:m.getD 0 undef=.slice A n c) (Q:Exit→Act→World→Prop) (hQ:∀a':Act,a'.defers=[]→a'.tmps.size=75→a'.tmps.getD 0 undef=.slice A n c→Q .normal a' (w)) :
 FnInlineSameR0.wp Tryz.prog Q {tmps:=m,defers:=[]} w:=by
 have e:=zhu hs
 rw[m0] at e;rw[e];exact zqh (f:=fun i=>m.getD i undef)  Q hQ
set_option maxHeartbeats 4000000 in
theorem zpE {f:Nat→Value}{A:Option Addr}{n c:Nat}{w:World} (hn:¬(1048576:Int)<(n:Int)) (Q:Exit→Act→World→Prop) (hQ:∀a':Act,a'.defers=[]→a'.tmps.size=75→a'.tmps.getD 0 undef=.slice A n c→a'.tmps.getD 13 undef=.bool false→Q .normal a' (w)) :
 FnInlineSameR1.wp Tryz.prog Q {tmps:=List.toArray (.slice A n c::f 1::f 2::f 3::f 4::f 5::f 6::f 7::f 8::f 9::f 10::f 11::f 12::f 13::f 14::f 15::f 16::f 17::f 18::f 19::f 20::f 21::f 22::f 23::f 24::f 25::f 26::f 27::f 28::f 29::f 30::f 31::f 32::f 33::f 34::f 35::f 36::f 37::f 38::f 39::f 40::f 41::f 42::f 43::f 44::f 45::f 46::f 47::f 48::f 49::f 50::f 51::f 52::f 53::f 54::f 55::f 56::f 57::f 58::f 59::f 60::f 61::f 62::f 63::f 64::f 65::f 66::f 67::f 68::f 69::f 70::f 71::f 72::f 73::f 74::[]),defers:=[]} w:=by
 unfold FnInlineSameR1
 go_wp2
 exact hQ _ rfl rfl rfl rfl
theorem zpy {m:Array Value}{A:Option Addr}{n c:Nat}{w:World} (hn:¬(1048576:Int)<(n:Int)) (hs:m.size=75) (m0:m.getD 0 undef=.slice A n c) (Q:Exit→Act→World→Prop) (hQ:∀a':Act,a'.defers=[]→a'.tmps.size=75→a'.tmps.getD 0 undef=.slice A n c→a'.tmps.getD 13 undef=.bool false→Q .normal a' (w)) :
 FnInlineSameR1.wp Tryz.prog Q {tmps:=m,defers:=[]} w:=by
 have e:=zhu hs
 rw[m0] at e;rw[e];exact zpE (f:=fun i=>m.getD i undef) hn Q hQ
set_option maxHeartbeats 4000000 in
theorem zpT {f:Nat→Value}{A:Option Addr}{n c:Nat}{w:World}{post:Option Addr→Nat→Nat→Option Addr→Nat→Nat→Int→World→Prop} (hcall:Calls Tryz.prog 18 #[.slice A n c] w fun e w'=>∃D1 d1 d2 E1 e1 e2 y0,e=.returned (.tuple #[.agg #[.slice D1 d1 d2,.slice E1 e1 e2],.int .i64 y0])∧post D1 d1 d2 E1 e1 e2 y0 w') (Q:Exit→Act→World→Prop) (hQ:∀D1 d1 d2 E1 e1 e2 (y0:Int) (w':World),post D1 d1 d2 E1 e1 e2 y0 w'→∀a':Act,a'.defers=[]→a'.tmps.size=75→a'.tmps.getD 0 undef=.slice A n c→a'.tmps.getD 3 undef=.pointer (some ⟨w'.heap.size,0,none⟩)→a'.tmps.getD 4 undef=.int .i64 y0→Q .normal a' (w'.alloc (.cells #[.slice D1 d1 d2,.slice E1 e1 e2] 26))) :
 FnInlineSameR3.wp Tryz.prog Q {tmps:=List.toArray (.slice A n c::f 1::f 2::f 3::f 4::f 5::f 6::f 7::f 8::f 9::f 10::f 11::f 12::f 13::f 14::f 15::f 16::f 17::f 18::f 19::f 20::f 21::f 22::f 23::f 24::f 25::f 26::f 27::f 28::f 29::f 30::f 31::f 32::f 33::f 34::f 35::f 36::f 37::f 38::f 39::f 40::f 41::f 42::f 43::f 44::f 45::f 46::f 47::f 48::f 49::f 50::f 51::f 52::f 53::f 54::f 55::f 56::f 57::f 58::f 59::f 60::f 61::f 62::f 63::f 64::f 65::f 66::f 67::f 68::f 69::f 70::f 71::f 72::f 73::f 74::[]),defers:=[]} w:=by
 unfold FnInlineSameR3
 go_wp2_with fail
 refine hcall.mono ?_
 rintro e w' ⟨D1,d1,d2,E1,e1,e2,y0,rfl,hp⟩
 go_wp2
 exact hQ _ _ _ _ _ _ _ _ hp _ rfl rfl rfl rfl rfl
theorem zpC {m:Array Value}{A:Option Addr}{n c:Nat}{w:World}{post:Option Addr→Nat→Nat→Option Addr→Nat→Nat→Int→World→Prop} (hcall:Calls Tryz.prog 18 #[.slice A n c] w fun e w'=>∃D1 d1 d2 E1 e1 e2 y0,e=.returned (.tuple #[.agg #[.slice D1 d1 d2,.slice E1 e1 e2],.int .i64 y0])∧post D1 d1 d2 E1 e1 e2 y0 w') (hs:m.size=75) (m0:m.getD 0 undef=.slice A n c) (Q:Exit→Act→World→Prop) (hQ:∀D1 d1 d2 E1 e1 e2 (y0:Int) (w':World),post D1 d1 d2 E1 e1 e2 y0 w'→∀a':Act,a'.defers=[]→a'.tmps.size=75→a'.tmps.getD 0 undef=.slice A n c→a'.tmps.getD 3 undef=.pointer (some ⟨w'.heap.size,0,none⟩)→a'.tmps.getD 4 undef=.int .i64 y0→Q .normal a' (w'.alloc (.cells #[.slice D1 d1 d2,.slice E1 e1 e2] 26))) :
 FnInlineSameR3.wp Tryz.prog Q {tmps:=m,defers:=[]} w:=by
 have e:=zhu hs
 rw[m0] at e;rw[e];exact zpT (f:=fun i=>m.getD i undef) hcall Q hQ
set_option maxHeartbeats 4000000 in
theorem zmT (hval:∀(ds fs:List (List AC)) (y0:Int),zwx ds fs→(y0∈([1,2,3,1,3,0,-1,4]:List Int))→evM zdq 100000 (.run (zgo 3 (cOf Tryz.f7))) [] [(3,.box [.sl 3 ds,.sl 5 fs]),(4,.v (.cell (.int y0)))]=some (.v (.cell (.bool true))))
  (hdraw:∀(A:Option Addr) (n c:Nat) (w:World),znN w A n c→Calls Tryz.prog 18 #[.slice A n c] w fun e w'=>∃v y0,e=.returned (.tuple #[v,.int .i64 y0])∧(y0∈([1,2,3,1,3,0,-1,4]:List Int))∧zps w v w')
  (A:Option Addr) (n c:Nat) (w:World) (h:znN w A n c):Calls Tryz.prog 7 #[.slice A n c] w fun e w'=>e=.returned (.bool true)∧Below w.heap.size w w':=by
 by_cases hbig:1048576<n
 ·go_enter Tryz.func7,Tryz.ntmps7
  go_wp2_with fail
  go_ret
  exact⟨rfl,Below.refl _ _⟩
 ·refine calls_of_wp Tryz.func7 (c:=cOf Tryz.f7) (by kernel_rfl) ?_
  rw[zph];have hs0:(#[Value.slice A n c]++Array.replicate (Tryz.f7.ntmps-(#[.slice A n c]:Array Value).size) undef).size=75:=by simp[Tryz.ntmps7]
  have h0:(#[Value.slice A n c]++Array.replicate (Tryz.f7.ntmps-(#[.slice A n c]:Array Value).size) undef).getD 0 undef=Value.slice A n c:=by simp[Array.getD]
  generalize (#[Value.slice A n c]++Array.replicate (Tryz.f7.ntmps-(#[.slice A n c]:Array Value).size) undef)=m0 at hs0 h0
  refine wp_seq (zp1 hs0 h0 _ fun a1 hd1 hs1 h1=>?_)
  obtain⟨m1,dd⟩:=a1;have hd1:dd=[]:=hd1
  subst hd1;refine wp_seq (wp_seq (zpy (by omega) hs1 h1 _ fun a2 hd2 hs2 h2 h29=>?_))
  obtain⟨m2,dd⟩:=a2;have hd2:dd=[]:=hd2
  subst hd2;refine wp_cond (t:=false) h29 ?_
  simp only[Bool.false_eq_true,if_false];refine wp_skip ?_
  show Code.wp _ (.seq FnInlineSameR3 (zgo 3 (cOf Tryz.f7))) _ ⟨m2,[]⟩ w
  refine wp_seq (zpC (post:=fun D1 d1 d2 E1 e1 e2 y0 w'=>(y0∈([1,2,3,1,3,0,-1,4]:List Int))∧zps w (.agg #[.slice D1 d1 d2,.slice E1 e1 e2]) w') ?_ hs2 h2 _ ?_)
  ·refine(hdraw A n c w h).mono ?_
   rintro e w' ⟨v,y0,rfl,hy,N,p',D1,d1,d2,E1,e1,e2,ds,fs,rfl,hd⟩
   exact⟨_,_,_,_,_,_,_,rfl,hy,N,p',D1,d1,d2,E1,e1,e2,ds,fs,rfl,hd⟩
  rintro D1 d1 d2 E1 e1 e2 y0 w1 ⟨hy,N,p1,D1',d1',d2',E1',e1',e2',ds,fs,hv,hrep,hrep2,hf,hev,hz⟩ a3 hd3 hs3 h3 h33 h34
  injection hv with hv
  have hv:=congrArg Array.toList hv
  obtain⟨⟨rfl,rfl,rfl⟩,rfl,rfl,rfl⟩:(D1=D1'∧d1=d1'∧d2=d2')∧E1=E1'∧e1=e1'∧e2=e2':=by simpa using hv
  obtain⟨m3,dd⟩:=a3;have hd3:dd=[]:=hd3
  subst hd3;have hs3:m3.size=75:=hs3
  have h33:m3.getD 3 undef=.pointer (some ⟨w1.heap.size,0,none⟩):=h33
  have h34:m3.getD 4 undef=.int .i64 y0:=h34
  have hea:=zba (p:=p1) (w:=w1) (.cells #[.slice D1 d1 d2,.slice E1 e1 e2] 26) 0 (fun _=>False)
  have hx:=heap_alloc_new w1 (.cells #[.slice D1 d1 d2,.slice E1 e1 e2] 26)
  have hz1:Zp (upP p1 w1.heap.size 0) (w1.alloc (.cells #[.slice D1 d1 d2,.slice E1 e1 e2] 26)):=⟨fun c hc=>by
   rw[zb5];split
   ·rfl
   ·exact hz.1 c (by simp at hc;omega),fun _ _ _=>trivial⟩
  have hE:=hev.trans hea (C:=fun _=>False) (fun _ _ h=>h) (fun _ _ h=>h)
  have hr1:=hrep.evo hea
  have hr2:=hrep2.evo hea
  have hK:zv8 (upP p1 w1.heap.size 0) (w1.alloc (.cells #[.slice D1 d1 d2,.slice E1 e1 e2] 26)) m3 75 [(3,.box [.sl 3 ds,.sl 5 fs]),(4,.v (.cell (.int y0)))] (fun x=>w.heap.size≤x):=by
   have look:∀t x,List.lookup t [(3,.box [.sl 3 ds,.sl 5 fs]),(4,.v (.cell (.int y0)))]=some x→(t=3∧x=AV.box [.sl 3 ds,.sl 5 fs])∨(t=4∧x=AV.v (.cell (.int y0)))∨False:=fun t x hx=>by
    simp only[List.lookup_cons] at hx;by_cases h3:t=3
    ·subst h3;simp at hx;exact .inl ⟨rfl,hx.symm⟩
    rw[show(t==3)=false by simpa using h3] at hx
    by_cases h4:t=4
    ·subst h4;simp at hx;exact .inr (.inl ⟨rfl,hx.symm⟩)
    rw[show(t==4)=false by simpa using h4] at hx
    simp at hx
   refine⟨fun t x hx'=>?_,fun t x hx'=>?_,fun t t' cs cs' x ht h1 h2 h3 h4=>?_⟩
   ·rcases look t x hx' with ⟨rfl,rfl⟩|⟨rfl,rfl⟩|h
    ·exact⟨by omega,_,_,_,h33,hx,hr1,hr2,trivial⟩
    ·exact⟨by omega,by rw[h34];exact .int _⟩
    ·exact h.elim
   ·rcases look t x hx' with ⟨rfl,rfl⟩|⟨rfl,rfl⟩|h
    ·exact .inr ⟨_,_,rfl,h33,by rw[zb5,if_pos rfl],hev.size⟩
    ·exact .inl ⟨_,rfl⟩
    ·exact h.elim
   ·rcases look _ _ h1 with ⟨rfl,_⟩|⟨_,h⟩|h
    ·rcases look _ _ h2 with ⟨rfl,_⟩|⟨_,h⟩|h
     ·exact ht rfl
     ·cases h
     ·exact h.elim
    ·cases h
    ·exact h.elim
  obtain⟨O,hO⟩:=Option.isSome_iff_exists.1 zmu;have hI:=zr4 hs3 hK hz1 (fun x hx=>Nat.le_trans hE.size hx)
  refine zhC (zv0 (X:=zdq) (a:={tmps:=m3,defers:=[]}) ze0 ziL vok (hval ds fs y0 hf hy) (zeX _ _ _) (ztV fun t x hx=>(hK.lt t x hx).1) hO hI rfl hE) ?_
  rintro e w' ⟨v,rfl,p',hsr,_,_,hev',hz'⟩
  have hsr:Rep p' w' v (.bool true):=hsr
  cases hsr;exact⟨rfl,hev'.os,hev'.tape,hev'.output,hev'.size,fun b hb=>hev'.block b hb (fun h=>h)⟩
end
section
open Go Go.RowKit
theorem zBY {D:List DM}{R:List PM} (h:VP D R):TP D R:=⟨h.cp,fun k hk=>⟨h.small k hk,h.ht k hk⟩⟩
end
section
open Go Go.RowKit
section
variable {D:List DM}{R:List PM}
def inP (D:List DM) (R:List PM) (f:Nat) (x:PM):List AC:=inl D R f 30 x.ps.length (zaH x)
theorem zoY (h:TP D R) {f:Nat} (hf:f<R.length) {k:Nat} (hk:k<R.length):HT D R (gP R k).ps (inP D R f (gP R k)) (gP R k).r∧cS (inP D R f (gP R k))≤33+34*cS (zaH (gP R k)) :=
 zje h hf (h.b k hk).2 (h.cp.ps k hk).2 30 (by have:=(h.b k hk).1;omega) (h.b k hk).1
theorem zFV (h:TP D R) {F:PM→List AC} (hF:∀k,k<R.length→HT D R (gP R k).ps (F (gP R k)) (gP R k).r∧cS (F (gP R k))≤30000) (hok:okB (zc2 R F)=true):TP D (zc2 R F):=by
 have hs:zlY R (zc2 R F):=znu
 have hl:=hs.1
 refine⟨⟨h.cp.dv,by rw[hl];exact h.cp.rl,fun x hx=>?_,fun k hk=>?_,fun k hk=>?_⟩,fun k hk=>?_⟩
 ·obtain⟨k,hk,rfl⟩:=List.getElem_of_mem hx
  have hk':k<R.length:=by omega
  obtain⟨g1,g2⟩:=hF k hk';have h3:=(h.cp.ps k hk').1
  have hx:=h.cp.rok _ (zf2 hk')
  have hf:=zyd h.cp g1 (by omega)
  rw[←zjC hk' g1] at hf;rw[zl7 hk];exact⟨by rw[(hs.2 k).1];exact hx.ps,by rw[(hs.2 k).2];exact hx.r,hf⟩
 ·rw[(hs.2 k).1];exact h.cp.ps k (by omega)
 ·rw[(hs.2 k).2];exact h.cp.r k (by omega)
 ·have hk':k<R.length:=by omega
  obtain⟨g1,g2⟩:=hF k hk';refine⟨okB_iff.1 hok k hk,?_⟩
  rw[(hs.2 k).1,(hs.2 k).2,zjC hk' g1];exact zEO hs g1
theorem zzf (h:TP D R) {f:Nat} (hf:f<R.length) {k:Nat} (hk:k<R.length):HT D R (gP R k).ps (inP D R f (gP R k)) (gP R k).r∧cS (inP D R f (gP R k))≤30000:=by
 obtain⟨g1,g2⟩:=zoY h hf hk;have:=(h.b k hk).1
 exact⟨g1,by omega⟩
theorem zyv (h:TP D R) {f:Nat} (hf:f<R.length):Wbs D R (zc2 R (inP D R f)):=by
 refine⟨h.cp,znu,fun k hk=>?_⟩
 obtain⟨g1,g2⟩:=zoY h hf hk;have h1:=(h.b k hk).1
 have h3:=(h.cp.ps k hk).1
 rw[zjC hk g1];exact⟨zyd h.cp g1 (by omega),by omega⟩
theorem zwf (h:TP D R) {f:Nat} (hf:f<R.length) (h1:zdz [.agg [.sl 3 (zaf D),.sl 5 (zak R)],.cell (.int (f:Int))]=rB true):zeN [.agg [.sl 3 (zaf D),.sl 5 (zak R)],.cell (.int (f:Int))]=some (wbR D (zc2 R (inP D R f)) (okB (zc2 R (inP D R f)))):=by
 have hR:=h.cp.rl
 have hw:=zvt (zyv h hf)
 have hwr:∃a0 a1 b,wbR D (zc2 R (inP D R f)) (okB (zc2 R (inP D R f)))=.tup [.agg [.sl 3 a0,.sl 5 a1],.cell (.bool b)]:=by
  cases okB (zc2 R (inP D R f)) <;> exact⟨_,_,_,rfl⟩
 obtain⟨a0,a1,b,ew⟩:=hwr;rw[ew] at hw ⊢;have key:∀q k:Nat,k+q=R.length→zgG (f:Int) (zaf D) (zak R) [] [] (((zc2 R (inP D R f)).take k).map zaH) (zak R) (((zak R).length:Nat):Int) (k:Int)=some (.tup [.agg [.sl 3 a0,.sl 5 a1],.cell (.bool b)]):=by
  intro q;induction q with
  | zero =>
   intro k hk;refine zkT (zaa (decide_eq_false (by rw[zaA];omega)) ?_)
   rw[List.take_of_length_le (by rw[zfw];omega)]
   exact zg5 hw rfl
  | succ q ih =>
   intro k hk;have hlt:k<R.length:=by omega
   obtain⟨hc,ht⟩:=h.b k hlt;obtain⟨g1,g2⟩:=zoY h hf hlt;have hps:=h.cp.ps k hlt
   have g:=(zwH h hf ht hps.2 30 (by omega) hc (by omega)).1
   rw[show inl D R f 30 (gP R k).ps.length (zaH (gP R k))=inP D R f (gP R k) from rfl,zfC g1] at g;have hn:=ih (k+1) (by omega)
   rw[zqp (by rw[zfw];exact hlt),zjC hlt g1,zfC g1] at hn
   refine zkT (zac (decide_eq_true (by rw[zaA];omega)) (zaB (k:=k) rfl hlt ?_))
   rw[zab];refine zag g (zbs (by simp;omega) ?_)
   rw[wrk (by unfold zaI;omega)]
   exact hn
 exact zgH (zan h1 (zaa rfl (key R.length 0 (by omega))))
theorem zBr (h:TP D R) {f:Nat} (hf:f<R.length) (h2:zdg [.agg [.sl 3 (zaf D),.sl 5 (zak R)]]=rB true) (h1:zeQ [.agg [.sl 3 (zaf D),.sl 5 (zak R)],.cell (.int (f:Int))]=rB true):zge [.agg [.sl 3 (zaf D),.sl 5 (zak R)],.cell (.int (f:Int))]=some (wbR D (zc2 R (inP D R f)) (okB (zc2 R (inP D R f)))):=by
 have hR:=h.cp.rl
 have hw:=zvb (zyv h hf)
 have hwr:∃a0 a1 b,wbR D (zc2 R (inP D R f)) (okB (zc2 R (inP D R f)))=.tup [.agg [.sl 3 a0,.sl 5 a1],.cell (.bool b)]:=by
  cases okB (zc2 R (inP D R f)) <;> exact⟨_,_,_,rfl⟩
 obtain⟨a0,a1,b,ew⟩:=hwr;rw[ew] at hw ⊢;have key:∀q k:Nat,k+q=R.length→zgy (f:Int) (zaf D) (zak R) [] [] (((zc2 R (inP D R f)).take k).map zaH) (k:Int)=some (.tup [.agg [.sl 3 a0,.sl 5 a1],.cell (.bool b)]):=by
  intro q;induction q with
  | zero =>
   intro k hk;refine zkK (zaa (decide_eq_false (by rw[zaA];omega)) ?_)
   rw[List.take_of_length_le (by rw[zfw];omega)]
   exact zg5 hw rfl
  | succ q ih =>
   intro k hk;have hlt:k<R.length:=by omega
   obtain⟨hc,ht⟩:=h.b k hlt;obtain⟨g1,g2⟩:=zoY h hf hlt;have hps:=h.cp.ps k hlt
   have g:=(zwH h hf ht hps.2 30 (by omega) hc (by omega)).2
   rw[show inl D R f 30 (gP R k).ps.length (zaH (gP R k))=inP D R f (gP R k) from rfl,zfC g1] at g;have hn:=ih (k+1) (by omega)
   rw[zqp (by rw[zfw];exact hlt),zjC hlt g1,zfC g1] at hn
   refine zkK (zac (decide_eq_true (by rw[zaA];omega)) (zaB (k:=k) rfl hlt (zaB (k:=k) rfl hlt ?_)))
   rw[zab];refine zag g (zbs (by simp;omega) ?_)
   rw[wrk (by unfold zaI;omega)]
   exact hn
 exact zgZ (zan h2 (zaa rfl (zan h1 (zaa rfl (key R.length 0 (by omega))))))
theorem zub {F:PM→List AC} (h:∀k,k<R.length→F (gP R k)=zaH (gP R k)):zc2 R F=R:=by
 apply List.ext_getElem zfw
 intro k h1 h2;rw[zl7 h1,zl7 h2,zuX h2,h k h2];rfl
theorem zGO {C:Nat→Nat→Bool} (h:PV D R C) {f:Nat} (h0:1≤f) (hf:f<R.length):zdz [.agg [.sl 3 (zaf D),.sl 5 (zak R)],.cell (.int (f:Int))]=rB (!rcB C R.length f (za8 (C f) 0 R.length))∧zeQ [.agg [.sl 3 (zaf D),.sl 5 (zak R)],.cell (.int (f:Int))]=rB (!rcB C R.length f (za8 (C f) 0 R.length)):=by
 have hR:=h.r4
 obtain⟨b1,b2⟩:=zzt h hf _ 0 (Nat.zero_add _);rw[List.drop_zero] at b1 b2;have hw:zae ((((zak R).length:Nat):Int)-1)=R.length-1:=by rw[zaA];exact wr (by omega) (by omega)
 refine⟨zgz (zan h.h1 (zaa rfl (zan (zrC hf) (zaa rfl (zaa (eqf (by omega)) (zav (zGN h hf) b1)))))),zkV (zan (zdF _ _ _) (zaa ?_ (zaB (k:=f) rfl hf (zav (zuH h.nm hf) b2))))⟩
 rw[hw,decide_eq_true (by omega),decide_eq_true (by omega)]
 rfl
theorem zCS {C:Nat→Nat→Bool} (h:PV D R C) {n:Int} (hn:¬(1≤n∧n<R.length)):zdz [.agg [.sl 3 (zaf D),.sl 5 (zak R)],.cell (.int n)]=rB false∧zeQ [.agg [.sl 3 (zaf D),.sl 5 (zak R)],.cell (.int n)]=rB false:=by
 have hR:=h.r4
 have hw:zae ((((zak R).length:Nat):Int)-1)=R.length-1:=by rw[zaA];exact wr (by omega) (by omega)
 refine⟨zgz (zan h.h1 (zaa rfl (zan (zms n) ?_))),zkV (zan (zdF _ _ _) (zac ?_ rfl))⟩
 ·by_cases hc:0≤n∧n<R.length
  ·refine zaa (by rw[decide_eq_true hc];rfl) (zac (eqt (by omega)) rfl)
  ·exact zac (by rw[decide_eq_false hc];rfl) rfl
 ·rw[hw,Bool.not_eq_true',Bool.and_eq_false_iff,decide_eq_false_iff_not,decide_eq_false_iff_not]
  omega
theorem zyK {S:Nat→Bool}{m j:Nat} (hj:j<m) (h:S j=true):(j:Int)∈za8 S 0 m:=by
 unfold za8;exact List.mem_map.2 ⟨j,List.mem_filter.2 ⟨List.mem_range'_1.2 (by omega),h⟩,rfl⟩
theorem zDn {C C':Nat→Nat→Bool}{m f:Nat} (hf:f<m) (he:∀i x,i<m→x<m→C' i x=true→C i x=true∨(C i f=true∧C f x=true)) (h0:∀i,i<m→C' f i=true→C f i=true) (h:rcB C m f (za8 (C f) 0 m)=false):rcB C' m f (za8 (C' f) 0 m)=false:=by
 rcases hr:rcB C' m f (za8 (C' f) 0 m) with _|_
 ·rfl
 unfold rcB at hr;obtain⟨y,hy,hit⟩:=List.any_eq_true.1 hr;obtain⟨j,rfl,hj,hc⟩:=ztp hy;rw[Int.toNat_natCast] at hit;have h1:Rch C' m j f:=zpu m f hf hit
 have hrc:∀x,Rch C' m j x→Rch C m j x:=fun x hx'=>by
  induction hx' with
  | refl=>exact .refl
  | step _ hi hx hc' ih =>
   rcases he _ _ hi hx hc' with g|⟨g1,g2⟩
   ·exact .step ih hi hx g
   ·exact .step (.step ih hi hf g1) hf hx g2
 have h2:Rch C m j f:=hrc f h1
 have h3:itI C m j m f=true:=ztU (zsH hj) (zna j m) h2
 have h4:rcB C m f (za8 (C f) 0 m)=true:=by
  unfold rcB;exact List.any_eq_true.2 ⟨(j:Int),zyK hj (h0 j hj hc),by rw[Int.toNat_natCast];exact h3⟩
 rw[h4] at h;cases h
theorem zFw (h:TP D R) (hd:∀d∈D,DOk d) (hs:zhi D R=true):∃C,PV D R C∧∀k,k<R.length→∀i,C k i=true↔Mn i (zaH (gP R k)):=by
 have hl:=h.cp.dv.len
 have hr:=h.cp.rl
 have hi:PIn D R:=⟨hd,h.cp.rok,by unfold zaI;omega,by unfold zaI;omega⟩
 have hv:=zCh h hd hs
 obtain⟨b,h1,h2,h3⟩:=zyz hi;obtain⟨C,hN,hM⟩:=zy2 h;cases b with
 | true=>exact⟨C,⟨hi,h3 rfl,hN,h1,h2⟩,hM⟩
 | false =>
  rw[hv] at h1;injection h1 with h1
  injection h1 with h1
  injection h1 with h1
  injection h1 with h1
  cases h1
theorem zF2 {f:Nat}:∀s row,Fit .expr row→cS row<s→cS row≤1000→∃c:Nat,c≤1+cS row∧zeL [.agg row,.cell (.int 9),.cell (.int (f:Int))]=rI (c:Int)∧(c=0↔¬Mc f row) :=
 zvp (P:=fun s row=>cS row≤1000→∃c:Nat,c≤1+cS row∧zeL [.agg row,.cell (.int 9),.cell (.int (f:Int))]=rI (c:Int)∧(c=0↔¬Mc f row)) fun s o n kids hf hk hc=>by
  rw[zbv] at hc;obtain⟨_,_,hl,hkf⟩:=zd3 hf;have key:∀q k:Nat,k+q=kids.length→∃c:Nat,c≤q+rsS (kids.drop k)∧(c=0↔∀p,k≤p→p<kids.length→¬Mc f (kids.getD p []))∧∀a:Nat,a+q+rsS (kids.drop k)≤100000→zct 9 (f:Int) (a:Int) kids ((kids.length:Nat):Int) (k:Int)=rI ((a+c:Nat):Int):=by
   intro q;induction q with
   | zero =>
    intro k hkq;refine⟨0,by omega,⟨fun _ p h1 h2=>by omega,fun _=>rfl⟩,fun a ha=>?_⟩
    exact zio (zaa (decide_eq_false (by omega)) rfl)
   | succ q ih =>
    intro k hkq;have hlt:k<kids.length:=by omega
    obtain⟨o',n',ks,e,_⟩:=zcE hkf hlt;have hle:=zjo (zaE hlt [])
    obtain⟨c1,b1,g1,z1⟩:=(hk _ (zaE hlt [])).2.2 (by omega)
    obtain⟨c2,b2,z2,g2⟩:=ih (k+1) (by omega)
    have hd:=zvU (rs:=kids) (k:=k) hlt
    refine⟨c1+c2,by omega,?_,fun a ha=>?_⟩
    ·constructor
     ·intro h p hp hp2
      by_cases hpk:p=k
      ·subst hpk;exact z1.1 (by omega)
      ·exact z2.1 (by omega) p (by omega) hp2
     ·intro h
      have h1:=z1.2 (h k (Nat.le_refl _) hlt)
      have h2:=z2.2 fun p hp hp2=>h p (by omega) hp2
      omega
    ·rw[e] at g1
     refine zio (zac (decide_eq_true (by omega)) (zbu hlt e (zar g1 ?_)))
     rw[wrk (by unfold zaI at *;omega),wr (by omega) (by omega)]
     have:=g2 (a+c1) (by omega)
     rw[show((a+c1:Nat):Int)=(a:Int)+(c1:Int) by omega] at this
     rw[this,Nat.add_assoc]
  obtain⟨c,b,z,g⟩:=key kids.length 0 (by omega)
  rw[List.drop_zero] at b g;by_cases h9:o=9∧n=(f:Int)
  ·obtain⟨rfl,rfl⟩:=h9
   refine⟨1+c,by rw[zbv];omega,zgN (zac rfl (zac (eqt rfl) (g 1 (by omega)))),⟨fun h=>by omega,fun h=>absurd (.here _ _ _ rfl rfl) h⟩⟩
  ·have g0:=g 0 (by omega)
   rw[Nat.zero_add] at g0;refine⟨c,by rw[zbv];omega,?_,?_⟩
   ·by_cases h:o=9
    ·exact zgN (zac (eqt h) (zaa (eqf (fun h'=>h9 ⟨h,h'⟩)) g0))
    ·exact zgN (zaa (eqf h) g0)
   ·rw[z,mc_iff]
    constructor
    ·rintro h (h'|⟨p,hp,hm⟩)
     ·exact h9 h'
     ·exact h p (Nat.zero_le _) hp hm
    ·intro h p _ hp hm
     exact h (.inr ⟨p,hp,hm⟩)
theorem zt7 (h:TP D R) (h1:za6 [.agg [.sl 3 (zaf D),.sl 5 (zak R)]]=rB true) {f:Nat} (hf:f<R.length):∃c:Nat,zgJ [.agg [.sl 3 (zaf D),.sl 5 (zak R)],.cell (.int (f:Int))]=rI (c:Int)∧(c=0↔∀k,k<R.length→¬Mc f (zaH (gP R k))):=by
 have hR:=h.cp.rl
 have key:∀q k:Nat,k+q=R.length→∃c:Nat,c≤30*q∧(c=0↔∀p,k≤p→p<R.length→¬Mc f (zaH (gP R p)))∧∀a:Nat,a+30*q≤1000→zeu (f:Int) (a:Int) (zak R) (((zak R).length:Nat):Int) (k:Int)=rI ((a+c:Nat):Int):=by
  intro q;induction q with
  | zero =>
   intro k hk;refine⟨0,by omega,⟨fun _ p h1 h2=>by omega,fun _=>rfl⟩,fun a ha=>?_⟩
   exact zid (zaa (decide_eq_false (by rw[zaA];omega)) rfl)
  | succ q ih =>
   intro k hk;have hlt:k<R.length:=by omega
   have hb:=(h.b k hlt).1
   obtain⟨c1,b1,g1,z1⟩:=zF2 (f:=f) 30 _ (h.cp.rok _ (zf2 hlt)).b (show cS (zaH (gP R k))<30 by omega) (show cS (zaH (gP R k))≤1000 by omega)
   have b1:c1≤1+cS (zaH (gP R k)):=b1
   have z1:c1=0↔¬Mc f (zaH (gP R k)):=z1
   obtain⟨c2,b2,z2,g2⟩:=ih (k+1) (by omega)
   refine⟨c1+c2,by omega,?_,fun a ha=>?_⟩
   ·constructor
    ·intro h p hp hp2
     by_cases hpk:p=k
     ·subst hpk;exact z1.1 (by omega)
     ·exact z2.1 (by omega) p (by omega) hp2
    ·intro h
     have h1:=z1.2 (h k (Nat.le_refl _) hlt)
     have h2:=z2.2 fun p hp hp2=>h p (by omega) hp2
     omega
   ·refine zid (zac (decide_eq_true (by rw[zaA];omega)) (zaB (k:=k) rfl hlt (zar g1 ?_)))
    rw[wrk (by unfold zaI;omega),wr (by omega) (by omega)]
    have:=g2 (a+c1) (by omega)
    rw[show((a+c1:Nat):Int)=(a:Int)+(c1:Int) by omega] at this
    rw[this,Nat.add_assoc]
 obtain⟨c,_,z,g⟩:=key R.length 0 (by omega)
 have g0:=g 0 (by omega)
 rw[Nat.zero_add] at g0;exact⟨c,zoE (zan h1 (zaa rfl (zan (zrC hf) (zaa rfl g0)))),z.trans ⟨fun h p hp=>h p (Nat.zero_le _) hp,fun h p _ hp=>h p hp⟩⟩
end
theorem zoV {ds fs:List (List AC)} (hp:zwx ds fs) (y:Int) :
  (zeN [.agg [.sl 3 ds,.sl 5 fs],.cell (.int y)]=some (.tup [.agg [.sl 3 [],.sl 5 []],.cell (.bool false)])∧zge [.agg [.sl 3 ds,.sl 5 fs],.cell (.int y)]=some (.tup [.agg [.sl 3 [],.sl 5 []],.cell (.bool false)])) ∨
  ∃(D:List DM) (R:List PM) (f:Nat) (C:Nat→Nat→Bool),ds=zaf D∧fs=zak R∧y=(f:Int)∧1≤f∧f<R.length∧(∀d∈D,DOk d)∧PV D R C∧(∀k,k<R.length→∀i,C k i=true↔Mn i (zaH (gP R k)))∧rcB C R.length f (za8 (C f) 0 R.length)=false∧okB (zc2 R (inP D R f))=true ∧
   zeN [.agg [.sl 3 ds,.sl 5 fs],.cell (.int y)]=some (.tup [.agg [.sl 3 (zaf D),.sl 5 (zak (zc2 R (inP D R f)))],.cell (.bool true)])∧zge [.agg [.sl 3 ds,.sl 5 fs],.cell (.int y)]=some (.tup [.agg [.sl 3 (zaf D),.sl 5 (zak (zc2 R (inP D R f)))],.cell (.bool true)]):=by
 obtain⟨D,R,rfl,rfl,hi⟩:=zFT hp.1;obtain⟨b,h1,h2,h3⟩:=zyz hi;cases b with
 | false=>exact .inl ⟨zgH (zan (zgz (zan h1 (zac rfl rfl))) (zac rfl rfl)),zgZ (zan h2 (zac rfl rfl))⟩
 | true =>
  have hvp:=h3 rfl
  have ht:=zBY hvp
  obtain⟨C,hpv,hM⟩:=zFw ht hi.d hvp.sg;by_cases hy:1≤y∧y<R.length
  rotate_left
  ·obtain⟨m1,m2⟩:=zCS hpv hy
   exact .inl ⟨zgH (zan m1 (zac rfl rfl)),zgZ (zan h2 (zaa rfl (zan m2 (zac rfl rfl))))⟩
  obtain⟨f,rfl⟩:∃f:Nat,y=(f:Int):=⟨y.toNat,by omega⟩
  have hf:f<R.length:=by omega
  obtain⟨m1,m2⟩:=zGO hpv (f:=f) (by omega) hf
  rcases hr:rcB C R.length f (za8 (C f) 0 R.length) with _|_
  ·rw[hr] at m1 m2
   have g1:=zwf ht hf m1
   have g2:=zBr ht hf h2 m2
   rcases hok:okB (zc2 R (inP D R f)) with _|_
   ·rw[hok] at g1 g2
    exact .inl ⟨g1,g2⟩
   ·rw[hok] at g1 g2
    exact .inr ⟨D,R,f,C,rfl,rfl,rfl,by omega,hf,hi.d,hpv,hM,hr,hok,g1,g2⟩
  ·rw[hr] at m1 m2
   exact .inl ⟨zgH (zan m1 (zac rfl rfl)),zgZ (zan h2 (zaa rfl (zan m2 (zac rfl rfl))))⟩
theorem zsb {D:List DM}{R:List PM}{f:Nat}{C:Nat→Nat→Bool} (hf:f<R.length) (hd:∀d∈D,DOk d) (hpv:PV D R C) (hM:∀k,k<R.length→∀i,C k i=true↔Mn i (zaH (gP R k))) (hr:rcB C R.length f (za8 (C f) 0 R.length)=false) (hok:okB (zc2 R (inP D R f))=true) :
  ∃C',TP D (zc2 R (inP D R f))∧PV D (zc2 R (inP D R f)) C'∧(∀k,k<R.length→¬Mc f (zaH (gP (zc2 R (inP D R f)) k)))∧rcB C' R.length f (za8 (C' f) 0 R.length)=false:=by
 have ht:=zBY hpv.vp
 have hl:(zc2 R (inP D R f)).length=R.length:=zfw
 have ht':=zFV ht (fun k hk=>zzf ht hf hk) hok
 have hs':zhi D (zc2 R (inP D R f))=true:=by rw[zzs znu];exact hpv.vp.sg
 obtain⟨C',hpv',hM'⟩:=zFw ht' hd hs';have hnf:¬Mc f (zaH (gP R f)):=fun hm=>by
  have h1:=(hM f hf f).2 (zHw hm)
  have h2:rcB C R.length f (za8 (C f) 0 R.length)=true:=by
   unfold rcB;exact List.any_eq_true.2 ⟨(f:Int),zyK hf h1,by rw[Int.toNat_natCast];exact zna f _⟩
  rw[h2] at hr;cases hr
 have hb:∀k,k<R.length→zaH (gP (zc2 R (inP D R f)) k)=inP D R f (gP R k):=fun k hk=>zjC hk (zoY ht hf hk).1
 refine⟨C',ht',hpv',fun k hk=>?_,zDn hf (fun i x hi hx h=>?_) (fun i hi h=>?_) hr⟩
 ·rw[hb k hk]
  exact zF1 hnf 30 _ _ (by have:=(ht.b k hk).1;omega)
 ·rw[hM' i (by omega),hb i hi] at h
  rcases zGS _ _ _ h with h|⟨g1,g2⟩
  ·exact .inl ((hM i hi x).2 h)
  ·exact .inr ⟨(hM i hi f).2 g1,(hM f hf x).2 g2⟩
 ·rw[hM' f (by omega),hb f hf] at h
  rw[show inP D R f (gP R f)=zaH (gP R f) from zxY _ _ _ hnf] at h;exact(hM f hf i).2 h
theorem zsS {ds fs:List (List AC)}{y:Int} (hp:zwx ds fs) :
  evM zdq 100000 (.run (zgo 3 (cOf Tryz.f7))) [] [(3,.box [.sl 3 ds,.sl 5 fs]),(4,.v (.cell (.int y)))]=some (.v (.cell (.bool true))):=by
 rcases zoV hp y with ⟨g1,g2⟩|⟨D,R,f,C,rfl,rfl,rfl,h0,hf,hd,hpv,hM,hr,hok,g1,g2⟩
 ·exact zgC (zg5 g1 (zg5 g2 (zan zji (zaa rfl (zaa rfl (zac rfl (zan zji (zac rfl rfl))))))))
 obtain⟨C',ht',hpv',hno,hr'⟩:=zsb hf hd hpv hM hr hok;have ht:=zBY hpv.vp
 have hl:(zc2 R (inP D R f)).length=R.length:=zfw
 obtain⟨c,hc,hz⟩:=zt7 ht hpv.h1 hf;have m1:=(zGO hpv' (f:=f) h0 (by omega)).1
 rw[hl,hr'] at m1;have g3:=zwf ht' (f:=f) (by omega) m1
 rw[zub (R:=zc2 R (inP D R f)) (F:=inP D (zc2 R (inP D R f)) f) fun k hk=>zxY _ _ _ (hno k (by omega)),hok] at g3
 have he:=ztl ht'
 have hfin:(bif (decide ((c:Int)>0)) then(some (.v (.cell (.bool true))):Option AV) else
   zaC (zaJ [.agg [.sl 3 (zaf D),.sl 5 (zak (zc2 R (inP D R f)))],.agg [.sl 3 (zaf D),.sl 5 (zak R)]]) false [(false,[.bool false])] fun(b19:Bool)=>(some (.v (.cell (.bool b19))):Option AV))=some (.v (.cell (.bool true))):=by
  by_cases h:c=0
  ·refine zaa (decide_eq_false (by omega)) ?_
   rw[zub fun k hk=>zxY _ _ _ (hz.1 h k hk)]
   exact zan (ztl ht) rfl
  ·exact zac (decide_eq_true (by omega)) rfl
 exact zgC (zg5 g1 (zg5 g2 (zan he (zaa rfl (zaa rfl (zaa rfl (zg5 g3 (zac rfl (zan he (zac rfl (zar hc hfin)))))))))))
theorem zov (A:Option Addr) (n c:Nat) (w:World) (h:znN w A n c):Calls Tryz.prog 7 #[.slice A n c] w fun e w'=>e=.returned (.bool true)∧Below w.heap.size w w' :=
 zmT (fun _ _ _ hp _=>zsS hp) (fun _ _ _ _ h=>zmL h) A n c w h
end
end Go.Proofs.YtkgbadeobdbinaaGreat

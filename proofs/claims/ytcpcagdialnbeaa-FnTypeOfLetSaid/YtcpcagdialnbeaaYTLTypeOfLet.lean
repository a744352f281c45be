/- What this law needs beside: its draw, its rest over values, its models. -/
import Derived.Test.YtcpcagdialnbeaaY39
import Derived.WalkKit
set_option linter.unusedVariables false
set_option linter.unusedSimpArgs false
set_option maxRecDepth 100000
namespace Go.Proofs.Ytcpcagdialnbeaa
section
open Go Go.RowKit
noncomputable def zdv:Ctx:={P:=Try.prog,L:=lay,F:=sig.has,E:=ext,fn:=Try.f6,lv:=[],jv:=[],tp:=[]}
theorem zj3 {l1:List (List AC)}{l2:List (List AC)}{l3:List (List AC)}{n4:Int}{n5:Int}{l6:List (List AC)}{r:AV} (h:( zaz (zb3 [.agg [.sl 3 l1,.sl 5 l2],.cell (.sl 1 l3),.agg [.int n4,.int n5,.sl 3 l6]]) false [(false,[.int 0])] fun n7=>zaz (zbC [.agg [.sl 3 l1,.sl 5 l2],.cell (.sl 1 l3),.agg [.int n4,.int n5,.sl 3 l6]]) false [(false,[.int 0])] fun n8=>bif (n7 != n8) then zaz (zbC [.agg [.sl 3 l1,.sl 5 l2],.cell (.sl 1 l3),.agg [.int n4,.int n5,.sl 3 l6]]) false [(false,[.int 0])] fun n9=>some (.v (.cell (.bool (n7==n9)))) else bif (decide (n7<0)) then zaz (zbC [.agg [.sl 3 l1,.sl 5 l2],.cell (.sl 1 l3),.agg [.int n4,.int n5,.sl 3 l6]]) false [(false,[.int 0])] fun n10=>some (.v (.cell (.bool (n7==n10)))) else zaz (zdt [.agg [.int n4,.int n5,.sl 3 l6]]) false [(false,[.int 0])] fun n11=>bif (decide ((zaf (n11+2))>30)) then zaz (zbC [.agg [.sl 3 l1,.sl 5 l2],.cell (.sl 1 l3),.agg [.int n4,.int n5,.sl 3 l6]]) false [(false,[.int 0])] fun n12=>some (.v (.cell (.bool (n7==n12)))) else zaz (zk0 [.cell (.int 13),.cell (.sl 3 [[.int n4,.int n5,.sl 3 l6],[.int 12,.int ((l3.length:Nat):Int),.sl 3 []]])]) false [(true,[.int 0,.int 0,.sl 3 []])] fun n13 n14 l15=>zaz (zb3 [.agg [.sl 3 l1,.sl 5 l2],.cell (.sl 1 l3),.agg [.int n13,.int n14,.sl 3 l15]]) false [(false,[.int 0])] fun n16=>some (.v (.cell (.bool (n16==n7)))):Option AV)=some r):evM zdv 100000 (.run (zdA 3 (cOf Try.f6))) [] [(3,.box [.sl 3 l1,.sl 5 l2]),(4,.v (.cell (.sl 1 l3))),(5,.box [.int n4,.int n5,.sl 3 l6])]=some r:=Eq.trans (by kernel_rfl) h
theorem zk7:(zb2 zao lay sig (zdA 3 (cOf Try.f6)) (stM 55)).isSome=true:=by kernel_rfl
def FnTypeOfLetR0:Code:=.region 0 #[⟨some 2,.assign (.const (.bool false)),4,"laws.go:606",#[],none⟩] false
def FnTypeOfLetR1:Code:=.region 1 #[⟨some 8,.move (.tmp 0),22,"laws.go:607",#[],none⟩,⟨some 9,.call ⟨.builtin .len,#[.tmp 8],#[22]⟩,3,"laws.go:607",#[⟨0,.data⟩],none⟩,⟨some 10,.binOp .gtr 3 (.tmp 9) (.const (.int .i64 1048576)) 3,4,"laws.go:607",#[⟨1,.data⟩],none⟩] false
def zqJ:Code:=.region 2 #[⟨some 2,.assign (.const (.bool true)),4,"laws.go:608",#[],none⟩] false
def FnTypeOfLetR3:Code:=.region 3 #[⟨some 12,.move (.tmp 0),22,"laws.go:610",#[],none⟩,⟨some 13,.call ⟨.value (.func 12),#[.tmp 12],#[22]⟩,37,"laws.go:610",#[⟨0,.data⟩],none⟩,⟨some 11,.move (.tmp 13),37,"laws.go:610",#[⟨1,.data⟩],none⟩,⟨some 14,.extract (.tmp 11) 0,26,"laws.go:610",#[⟨2,.data⟩],none⟩,⟨some 15,.extract (.tmp 11) 1,33,"laws.go:610",#[⟨2,.data⟩,{on:=8,ground:=Go.Ground.gcOnly Go.Departure.lateStores}],none⟩,⟨some 16,.extract (.tmp 11) 2,32,"laws.go:610",#[⟨2,.data⟩,{on:=9,ground:=Go.Ground.gcOnly Go.Departure.lateStores}],none⟩,⟨some 3,.alloc 26,0,"laws.go:610",#[],none⟩,⟨some 5,.alloc 32,0,"laws.go:610",#[],none⟩,⟨none,.store 26 (.tmp 3) (.tmp 14),0,"laws.go:610",#[⟨6,.data⟩,⟨3,.data⟩,⟨1,.chain⟩,⟨0,.phase⟩,⟨1,.phase⟩,⟨2,.phase⟩,⟨3,.phase⟩,{on:=4,ground:=Go.Ground.textOnly Go.Departure.lateStores},{on:=5,ground:=Go.Ground.textOnly Go.Departure.lateStores},⟨6,.phase⟩,⟨7,.phase⟩],none⟩,⟨some 4,.assign (.tmp 15),33,"laws.go:610",#[⟨4,.data⟩,⟨8,.chain⟩,⟨0,.phase⟩,⟨1,.phase⟩,⟨2,.phase⟩,⟨3,.phase⟩,⟨4,.phase⟩,{on:=5,ground:=Go.Ground.textOnly Go.Departure.lateStores},⟨6,.phase⟩,⟨7,.phase⟩,⟨8,.phase⟩],none⟩,⟨none,.store 32 (.tmp 5) (.tmp 16),0,"laws.go:610",#[⟨7,.data⟩,⟨5,.data⟩,⟨9,.chain⟩,⟨0,.phase⟩,⟨1,.phase⟩,⟨2,.phase⟩,⟨3,.phase⟩,⟨4,.phase⟩,⟨5,.phase⟩,⟨6,.phase⟩,⟨7,.phase⟩,⟨8,.phase⟩,⟨9,.phase⟩],none⟩] false
theorem znC:cOf Try.f6=.seq FnTypeOfLetR0 (.seq (.seq FnTypeOfLetR1 (.cond (.tmp 10) (.seq zqJ .ret) .skip)) (.seq FnTypeOfLetR3 (zdA 3 (cOf Try.f6)))):=by kernel_rfl
theorem zgQ {m:Array Value} (h:m.size=55):m=List.toArray (m.getD 0 undef::m.getD 1 undef::m.getD 2 undef::m.getD 3 undef::m.getD 4 undef::m.getD 5 undef::m.getD 6 undef::m.getD 7 undef::m.getD 8 undef::m.getD 9 undef::m.getD 10 undef::m.getD 11 undef::m.getD 12 undef::m.getD 13 undef::m.getD 14 undef::m.getD 15 undef::m.getD 16 undef::m.getD 17 undef::m.getD 18 undef::m.getD 19 undef::m.getD 20 undef::m.getD 21 undef::m.getD 22 undef::m.getD 23 undef::m.getD 24 undef::m.getD 25 undef::m.getD 26 undef::m.getD 27 undef::m.getD 28 undef::m.getD 29 undef::m.getD 30 undef::m.getD 31 undef::m.getD 32 undef::m.getD 33 undef::m.getD 34 undef::m.getD 35 undef::m.getD 36 undef::m.getD 37 undef::m.getD 38 undef::m.getD 39 undef::m.getD 40 undef::m.getD 41 undef::m.getD 42 undef::m.getD 43 undef::m.getD 44 undef::m.getD 45 undef::m.getD 46 undef::m.getD 47 undef::m.getD 48 undef::m.getD 49 undef::m.getD 50 undef::m.getD 51 undef::m.getD 52 undef::m.getD 53 undef::m.getD 54 undef::[]):=by
 apply Array.ext'
 have h1:m.toList=(List.range 55).map (fun i=>m.getD i undef):=by
  apply List.ext_getElem
  ·simp[h]
  ·intro i h1 h2
   simp only[Array.length_toList] at h1;simp[Array.getD,h1]
 exact h1.trans rfl
set_option maxHeartbeats 4000000 in
theorem zoi {f:Nat→Value}{A:Option Addr}{n c:Nat}{w:World}  (Q:Exit→Act→World→Prop) (hQ:∀a':Act,a'.defers=[]→a'.tmps.size=55→a'.tmps.getD 0 undef=.slice A n c→Q .normal a' (w)) :
 FnTypeOfLetR0.wp Try.prog Q {tmps:=List.toArray (.slice A n c::f 1::f 2::f 3::f 4::f 5::f 6::f 7::f 8::f 9::f 10::f 11::f 12::f 13::f 14::f 15::f 16::f 17::f 18::f 19::f 20::f 21::f 22::f 23::f 24::f 25::f 26::f 27::f 28::f 29::f 30::f 31::f 32::f 33::f 34::f 35::f 36::f 37::f 38::f 39::f 40::f 41::f 42::f 43::f 44::f 45::f 46::f 47::f 48::f 49::f 50::f 51::f 52::f 53::f 54::[]),defers:=[]} w:=by
 unfold FnTypeOfLetR0
 go_wp2
 exact hQ _ rfl rfl rfl
theorem zoR {m:Array Value}{A:Option Addr}{n c:Nat}{w:World}  (hs:m.size=55) (m0:m.getD 0 undef=.slice A n c) (Q:Exit→Act→World→Prop) (hQ:∀a':Act,a'.defers=[]→a'.tmps.size=55→a'.tmps.getD 0 undef=.slice A n c→Q .normal a' (w)) :
 FnTypeOfLetR0.wp Try.prog Q {tmps:=m,defers:=[]} w:=by
 have e:=zgQ hs
 rw[m0] at e;rw[e];exact zoi (f:=fun i=>m.getD i undef)  Q hQ
set_option maxHeartbeats 4000000 in
theorem zog {f:Nat→Value}{A:Option Addr}{n c:Nat}{w:World} (hn:¬(1048576:Int)<(n:Int)) (Q:Exit→Act→World→Prop) (hQ:∀a':Act,a'.defers=[]→a'.tmps.size=55→a'.tmps.getD 0 undef=.slice A n c→a'.tmps.getD 10 undef=.bool false→Q .normal a' (w)) :
 FnTypeOfLetR1.wp Try.prog Q {tmps:=List.toArray (.slice A n c::f 1::f 2::f 3::f 4::f 5::f 6::f 7::f 8::f 9::f 10::f 11::f 12::f 13::f 14::f 15::f 16::f 17::f 18::f 19::f 20::f 21::f 22::f 23::f 24::f 25::f 26::f 27::f 28::f 29::f 30::f 31::f 32::f 33::f 34::f 35::f 36::f 37::f 38::f 39::f 40::f 41::f 42::f 43::f 44::f 45::f 46::f 47::f 48::f 49::f 50::f 51::f 52::f 53::f 54::[]),defers:=[]} w:=by
 unfold FnTypeOfLetR1
 go_wp2
 exact hQ _ rfl rfl rfl rfl
theorem zoL {m:Array Value}{A:Option Addr}{n c:Nat}{w:World} (hn:¬(1048576:Int)<(n:Int)) (hs:m.size=55) (m0:m.getD 0 undef=.slice A n c) (Q:Exit→Act→World→Prop) (hQ:∀a':Act,a'.defers=[]→a'.tmps.size=55→a'.tmps.getD 0 undef=.slice A n c→a'.tmps.getD 10 undef=.bool false→Q .normal a' (w)) :
 FnTypeOfLetR1.wp Try.prog Q {tmps:=m,defers:=[]} w:=by
 have e:=zgQ hs
 rw[m0] at e;rw[e];exact zog (f:=fun i=>m.getD i undef) hn Q hQ
set_option maxHeartbeats 4000000 in
theorem zop {f:Nat→Value}{A:Option Addr}{n c:Nat}{w:World}{post:Option Addr→Nat→Nat→Option Addr→Nat→Nat→Option Addr→Nat→Nat→Int→Int→Option Addr→Nat→Nat→World→Prop} (hcall:Calls Try.prog 12 #[.slice A n c] w fun e w'=>∃D1 d1 d2 E1 e1 e2 V v1 v2 x0 x1 A3 l3 k3,e=.returned (.tuple #[.agg #[.slice D1 d1 d2,.slice E1 e1 e2],.slice V v1 v2,.agg #[.int .i64 x0,.int .i64 x1,.slice A3 l3 k3]])∧post D1 d1 d2 E1 e1 e2 V v1 v2 x0 x1 A3 l3 k3 w') (Q:Exit→Act→World→Prop) (hQ:∀D1 d1 d2 E1 e1 e2 V v1 v2 x0 x1 A3 l3 k3 (w':World),post D1 d1 d2 E1 e1 e2 V v1 v2 x0 x1 A3 l3 k3 w'→∀a':Act,a'.defers=[]→a'.tmps.size=55→a'.tmps.getD 0 undef=.slice A n c→a'.tmps.getD 3 undef=.pointer (some ⟨w'.heap.size,0,none⟩)→a'.tmps.getD 4 undef=.slice V v1 v2→a'.tmps.getD 5 undef=.pointer (some ⟨w'.heap.size+1,0,none⟩)→Q .normal a' ((w'.alloc (.cells #[.slice D1 d1 d2,.slice E1 e1 e2] 26)).alloc (.cells #[.int .i64 x0,.int .i64 x1,.slice A3 l3 k3] 32))) :
 FnTypeOfLetR3.wp Try.prog Q {tmps:=List.toArray (.slice A n c::f 1::f 2::f 3::f 4::f 5::f 6::f 7::f 8::f 9::f 10::f 11::f 12::f 13::f 14::f 15::f 16::f 17::f 18::f 19::f 20::f 21::f 22::f 23::f 24::f 25::f 26::f 27::f 28::f 29::f 30::f 31::f 32::f 33::f 34::f 35::f 36::f 37::f 38::f 39::f 40::f 41::f 42::f 43::f 44::f 45::f 46::f 47::f 48::f 49::f 50::f 51::f 52::f 53::f 54::[]),defers:=[]} w:=by
 unfold FnTypeOfLetR3
 go_wp2_with fail
 refine hcall.mono ?_
 rintro e w' ⟨D1,d1,d2,E1,e1,e2,V,v1,v2,x0,x1,A3,l3,k3,rfl,hp⟩
 go_wp2
 exact hQ _ _ _ _ _ _ _ _ _ _ _ _ _ _ _ hp _ rfl rfl rfl rfl rfl rfl
theorem zol {m:Array Value}{A:Option Addr}{n c:Nat}{w:World}{post:Option Addr→Nat→Nat→Option Addr→Nat→Nat→Option Addr→Nat→Nat→Int→Int→Option Addr→Nat→Nat→World→Prop} (hcall:Calls Try.prog 12 #[.slice A n c] w fun e w'=>∃D1 d1 d2 E1 e1 e2 V v1 v2 x0 x1 A3 l3 k3,e=.returned (.tuple #[.agg #[.slice D1 d1 d2,.slice E1 e1 e2],.slice V v1 v2,.agg #[.int .i64 x0,.int .i64 x1,.slice A3 l3 k3]])∧post D1 d1 d2 E1 e1 e2 V v1 v2 x0 x1 A3 l3 k3 w') (hs:m.size=55) (m0:m.getD 0 undef=.slice A n c) (Q:Exit→Act→World→Prop) (hQ:∀D1 d1 d2 E1 e1 e2 V v1 v2 x0 x1 A3 l3 k3 (w':World),post D1 d1 d2 E1 e1 e2 V v1 v2 x0 x1 A3 l3 k3 w'→∀a':Act,a'.defers=[]→a'.tmps.size=55→a'.tmps.getD 0 undef=.slice A n c→a'.tmps.getD 3 undef=.pointer (some ⟨w'.heap.size,0,none⟩)→a'.tmps.getD 4 undef=.slice V v1 v2→a'.tmps.getD 5 undef=.pointer (some ⟨w'.heap.size+1,0,none⟩)→Q .normal a' ((w'.alloc (.cells #[.slice D1 d1 d2,.slice E1 e1 e2] 26)).alloc (.cells #[.int .i64 x0,.int .i64 x1,.slice A3 l3 k3] 32))) :
 FnTypeOfLetR3.wp Try.prog Q {tmps:=m,defers:=[]} w:=by
 have e:=zgQ hs
 rw[m0] at e;rw[e];exact zop (f:=fun i=>m.getD i undef) hcall Q hQ
set_option maxHeartbeats 4000000 in
theorem zla (hval:∀(ds fs:List (List AC)) (xs:List Int) (x0 x1:Int) (kids:List (List AC)),Fit .prog [.sl 3 ds,.sl 5 fs]→xs.length≤7→Fit .expr [.int x0,.int x1,.sl 3 kids]→evM zdv 100000 (.run (zdA 3 (cOf Try.f6))) [] [(3,.box [.sl 3 ds,.sl 5 fs]),(4,.v (.cell (.sl 1 (zab xs)))),(5,.box [.int x0,.int x1,.sl 3 kids])]=some (.v (.cell (.bool true))))
  (A:Option Addr) (n c:Nat) (w:World) (h:zkJ w A n c):Calls Try.prog 6 #[.slice A n c] w fun e w'=>e=.returned (.bool true)∧Below w.heap.size w w':=by
 by_cases hbig:1048576<n
 ·go_enter Try.func6,Try.ntmps6
  go_wp2_with fail
  go_ret
  exact⟨rfl,Below.refl _ _⟩
 ·refine calls_of_wp Try.func6 (c:=cOf Try.f6) (by kernel_rfl) ?_
  rw[znC];have hs0:(#[Value.slice A n c]++Array.replicate (Try.f6.ntmps-(#[.slice A n c]:Array Value).size) undef).size=55:=by simp[Try.ntmps6]
  have h0:(#[Value.slice A n c]++Array.replicate (Try.f6.ntmps-(#[.slice A n c]:Array Value).size) undef).getD 0 undef=Value.slice A n c:=by simp[Array.getD]
  generalize (#[Value.slice A n c]++Array.replicate (Try.f6.ntmps-(#[.slice A n c]:Array Value).size) undef)=m0 at hs0 h0
  refine wp_seq (zoR hs0 h0 _ fun a1 hd1 hs1 h1=>?_)
  obtain⟨m1,dd⟩:=a1;have hd1:dd=[]:=hd1
  subst hd1;refine wp_seq (wp_seq (zoL (by omega) hs1 h1 _ fun a2 hd2 hs2 h2 h29=>?_))
  obtain⟨m2,dd⟩:=a2;have hd2:dd=[]:=hd2
  subst hd2;refine wp_cond (t:=false) h29 ?_
  simp only[Bool.false_eq_true,if_false];refine wp_skip ?_
  show Code.wp _ (.seq FnTypeOfLetR3 (zdA 3 (cOf Try.f6))) _ ⟨m2,[]⟩ w
  refine wp_seq (zol (post:=fun D1 d1 d2 E1 e1 e2 V v1 v2 x0 x1 A3 l3 k3 w'=>∃N p' ds fs xs kids,Rep p' w' (.slice D1 d1 d2) (.sl 3 ds)∧Rep p' w' (.slice E1 e1 e2) (.sl 5 fs)∧Rep p' w' (.slice V v1 v2) (.sl 1 (zab xs))∧Rep p' w' (.slice A3 l3 k3) (.sl 3 kids)∧Fit .prog [.sl 3 ds,.sl 5 fs]∧xs.length≤7∧Fit .expr [.int x0,.int x1,.sl 3 kids]∧Evo (fun _=>False) (zdl w.heap.size N) w p' w'∧Zp p' w') ?_ hs2 h2 _ ?_)
  ·refine(zhO h).mono ?_
   rintro e w' ⟨v,rfl,N,p',D1,d1,d2,E1,e1,e2,V,v1,v2,x0,x1,A3,l3,k3,ds,fs,xs,kids,rfl,hd⟩
   exact⟨_,_,_,_,_,_,_,_,_,_,_,_,_,_,rfl,N,p',ds,fs,xs,kids,hd⟩
  rintro D1 d1 d2 E1 e1 e2 V v1 v2 x0 x1 A3 l3 k3 w1 ⟨N,p1,ds,fs,xs,kids,r0,r1,rV,rK,hf,hxl,hfe,hev,hz⟩ a3 hd3 hs3 h3 h33 h34 h35
  obtain⟨m3,dd⟩:=a3;have hd3:dd=[]:=hd3
  subst hd3;have hs3:m3.size=55:=hs3
  have h33:m3.getD 3 undef=.pointer (some ⟨w1.heap.size,0,none⟩):=h33
  have h34:m3.getD 4 undef=.slice V v1 v2:=h34
  have h35:m3.getD 5 undef=.pointer (some ⟨w1.heap.size+1,0,none⟩):=h35
  have hea:=zav (p:=p1) (w:=w1) (.cells #[.slice D1 d1 d2,.slice E1 e1 e2] 26) 0 (fun _=>False)
  have hsA:(w1.alloc (.cells #[.slice D1 d1 d2,.slice E1 e1 e2] 26)).heap.size=w1.heap.size+1:=by simp
  have heb:=zav (p:=upP p1 w1.heap.size 0) (w:=w1.alloc (.cells #[.slice D1 d1 d2,.slice E1 e1 e2] 26)) (.cells #[.int .i64 x0,.int .i64 x1,.slice A3 l3 k3] 32) 0 (fun _=>False)
  have x3:((w1.alloc (.cells #[.slice D1 d1 d2,.slice E1 e1 e2] 26)).alloc (.cells #[.int .i64 x0,.int .i64 x1,.slice A3 l3 k3] 32)).heap[w1.heap.size]?=some (.cells #[.slice D1 d1 d2,.slice E1 e1 e2] 26 (0,0)):=(Below.heap_alloc _ _ _ (by omega)).trans (heap_alloc_new _ _)
  have x5:((w1.alloc (.cells #[.slice D1 d1 d2,.slice E1 e1 e2] 26)).alloc (.cells #[.int .i64 x0,.int .i64 x1,.slice A3 l3 k3] 32)).heap[w1.heap.size+1]?=some (.cells #[.int .i64 x0,.int .i64 x1,.slice A3 l3 k3] 32 (0,0)):=by rw[←hsA];exact heap_alloc_new _ _
  rw[hsA] at heb;have z3:(upP (upP p1 w1.heap.size 0) (w1.heap.size+1) 0).f w1.heap.size=0:=by rw[za0,if_neg (by omega),za0,if_pos rfl]
  have z5:(upP (upP p1 w1.heap.size 0) (w1.heap.size+1) 0).f (w1.heap.size+1)=0:=by rw[za0,if_pos rfl]
  have hz1:Zp (upP (upP p1 w1.heap.size 0) (w1.heap.size+1) 0) ((w1.alloc (.cells #[.slice D1 d1 d2,.slice E1 e1 e2] 26)).alloc (.cells #[.int .i64 x0,.int .i64 x1,.slice A3 l3 k3] 32)):=⟨fun c hc=>by
   have hc:w1.heap.size+2≤c:=by simpa using hc
   rw[za0,if_neg (by omega),za0,if_neg (by omega)]
   exact hz.1 c (by omega),fun _ _ _=>trivial⟩
  have hab:=hea.trans heb (C:=fun _=>False) (fun _ _ h=>h) (fun _ _ h=>h)
  have hE:=hev.trans hab (C:=fun _=>False) (fun _ _ h=>h) (fun _ _ h=>h)
  have q0:=r0.evo hab
  have q1:=r1.evo hab
  have qV:=rV.evo hab
  have qK:=rK.evo hab
  have hsz:=hev.size
  generalize (w1.alloc (.cells #[.slice D1 d1 d2,.slice E1 e1 e2] 26)).alloc (.cells #[.int .i64 x0,.int .i64 x1,.slice A3 l3 k3] 32)=W at *
  generalize upP (upP p1 w1.heap.size 0) (w1.heap.size+1) 0=P at *
  have hK:zrh P W m3 55 [(3,.box [.sl 3 ds,.sl 5 fs]),(4,.v (.cell (.sl 1 (zab xs)))),(5,.box [.int x0,.int x1,.sl 3 kids])] (fun x=>w.heap.size≤x):=by
   have look:∀t x,List.lookup t [(3,.box [.sl 3 ds,.sl 5 fs]),(4,.v (.cell (.sl 1 (zab xs)))),(5,.box [.int x0,.int x1,.sl 3 kids])]=some x→(t=3∧x=AV.box [.sl 3 ds,.sl 5 fs])∨(t=4∧x=AV.v (.cell (.sl 1 (zab xs))))∨(t=5∧x=AV.box [.int x0,.int x1,.sl 3 kids]):=fun t x hx=>by
    simp only[List.lookup_cons] at hx;by_cases h3:t=3
    ·subst h3;simp at hx;exact .inl ⟨rfl,hx.symm⟩
    rw[show(t==3)=false by simpa using h3] at hx
    by_cases h4:t=4
    ·subst h4;simp at hx;exact .inr (.inl ⟨rfl,hx.symm⟩)
    rw[show(t==4)=false by simpa using h4] at hx
    by_cases h5:t=5
    ·subst h5;simp at hx;exact .inr (.inr ⟨rfl,hx.symm⟩)
    rw[show(t==5)=false by simpa using h5] at hx
    simp at hx
   refine⟨fun t x hx'=>?_,fun t x hx'=>?_,fun t t' cs cs' x ht h1 h2 h3 h4=>?_⟩
   ·rcases look t x hx' with ⟨rfl,rfl⟩|⟨rfl,rfl⟩|⟨rfl,rfl⟩
    ·exact⟨by omega,_,_,_,h33,x3,q0,q1,trivial⟩
    ·exact⟨by omega,by rw[h34];exact qV⟩
    ·exact⟨by omega,_,_,_,h35,x5,.int _,.int _,qK,trivial⟩
   ·rcases look t x hx' with ⟨rfl,rfl⟩|⟨rfl,rfl⟩|⟨rfl,rfl⟩
    ·exact .inr ⟨_,_,rfl,h33,z3,hsz⟩
    ·exact .inl ⟨_,rfl⟩
    ·exact .inr ⟨_,_,rfl,h35,z5,by show w.heap.size≤w1.heap.size+1;omega⟩
   ·rcases look _ _ h1 with ⟨rfl,_⟩|⟨_,h⟩|⟨rfl,_⟩
    ·rcases look _ _ h2 with ⟨rfl,_⟩|⟨_,h⟩|⟨rfl,_⟩
     ·exact ht rfl
     ·cases h
     ·rw[h33] at h3;rw[h35] at h4
      have e3:w1.heap.size=x:=by simpa using h3
      subst e3;simp at h4
    ·cases h
    ·rcases look _ _ h2 with ⟨rfl,_⟩|⟨_,h⟩|⟨rfl,_⟩
     ·rw[h35] at h3;rw[h33] at h4
      have e3:w1.heap.size+1=x:=by simpa using h3
      subst e3;simp at h4
     ·cases h
     ·exact ht rfl
  obtain⟨O,hO⟩:=Option.isSome_iff_exists.1 zk7;have hI:=zlD hs3 hK hz1 (fun x hx=>Nat.le_trans hE.size hx)
  refine zeo (zpW (X:=zdv) (a:={tmps:=m3,defers:=[]}) zdI zeY vok (hval ds fs xs x0 x1 kids hf hxl hfe) (zds _ _ _) (zmO fun t x hx=>(hK.lt t x hx).1) hO hI rfl hE) ?_
  rintro e w' ⟨v,rfl,p',hsr,_,_,hev',hz'⟩
  have hsr:Rep p' w' v (.bool true):=hsr
  cases hsr;exact⟨rfl,hev'.os,hev'.tape,hev'.output,hev'.size,fun b hb=>hev'.block b hb (fun h=>h)⟩
end
section
open Go Go.RowKit
section
variable {D:List DM}{R:List PM}
theorem zjB (hi:PIn D R) {V:List Int} (hl:V.length≤1000) {o n:Int}{kids:List (List AC)} (hf:Fit .expr [.int o,.int n,.sl 3 kids]):∃t,
  zb3 [.agg [.sl 3 (zah D),.sl 5 (zaC R)],.cell (.sl 1 (zab V)),.agg [.int o,.int n,.sl 3 kids]]=rI t ∧
  zbC [.agg [.sl 3 (zah D),.sl 5 (zaC R)],.cell (.sl 1 (zab V)),.agg [.int o,.int n,.sl 3 kids]]=rI t ∧
  (t<0∨(0≤t∧zmq D R=true∧CP D R∧(∀u∈V,0≤u∧u≤D.length)∧cS [.int o,.int n,.sl 3 kids]≤29∧HT D R V [.int o,.int n,.sl 3 kids] t)):=by
 have p1:=zjM D R hi.d hi.r hi.dl
 have p2:=zr7 D R hi.d hi.r hi.dl
 have a1:=zim D V (by unfold za9;omega)
 have a2:=zlL D V (by unfold za9;omega)
 have n1:=zhv hf
 have n2:=zm7 hf
 rcases hs:zmq D R with _|_
 ·rw[hs] at p1 p2
  exact⟨-1,zcC (zat p1 (zad rfl rfl)),zfe (zat p2 (zad rfl rfl)),.inl (by omega)⟩
 rw[hs] at p1 p2;have hv:=zCZ hi.r hs
 by_cases hc:cS [.int o,.int n,.sl 3 kids]≤29
 rotate_left
 ·have hn:decide (zjl [.int o,.int n,.sl 3 kids]<0)=true:=by rw[zmH,decide_eq_false hc];rfl
  refine⟨-1,?_,zfe (zat p2 (zaa rfl (zal n2 (zad hn rfl)))),.inl (by omega)⟩
  rcases ha:V.all (zdk D) with _|_
  ·rw[ha] at a1
   exact zcC (zat p1 (zaa rfl (zat a1 (zad rfl rfl))))
  ·rw[ha] at a1
   exact zcC (zat p1 (zaa rfl (zat a1 (zaa rfl (zal n1 (zad hn rfl))))))
 have hn:decide (zjl [.int o,.int n,.sl 3 kids]<0)=false:=by rw[zmH,decide_eq_true hc];rfl
 rcases ha:V.all (zdk D) with _|_
 ·rw[ha] at a1 a2
  exact⟨-1,zcC (zat p1 (zaa rfl (zat a1 (zad rfl rfl)))),zfe (zat p2 (zaa rfl (zal n2 (zaa hn (zat a2 (zad rfl rfl)))))),.inl (by omega)⟩
 rw[ha] at a1 a2;have hV:∀u∈V,0≤u∧u≤D.length:=fun u hu=>isTy_iff.1 (List.all_eq_true.1 ha u hu)
 obtain⟨t,_,h1,h2,h3⟩:=zze hv 30 o n kids hf (by omega) (by omega) V [] (by rw[List.append_nil];exact hV) (by rw[List.append_nil];omega)
 rw[List.append_nil] at h2 h3;refine⟨t,zcC (zat p1 (zaa rfl (zat a1 (zaa rfl (zal n1 (zaa hn (zal h1 rfl))))))),zfe (zat p2 (zaa rfl (zal n2 (zaa hn (zat a2 (zaa rfl (zal h2 rfl))))))),?_⟩
 by_cases ht:t<0
 ·exact .inl ht
 ·exact .inr ⟨by omega,rfl,hv,hV,hc,h3 (by omega)⟩
def zv8 (ds fs:List (List AC)) (xs:List Int) (o n:Int) (kids:List (List AC)):Prop:=Fit .prog [.sl 3 ds,.sl 5 fs]∧xs.length≤7∧Fit .expr [.int o,.int n,.sl 3 kids]
theorem zjJ (t:Int):(t==t)=true:=by simp
theorem zqN {ds fs:List (List AC)}{xs:List Int}{o n:Int}{kids:List (List AC)} (hp:zv8 ds fs xs o n kids) :
  evM zdv 100000 (.run (zdA 3 (cOf Try.f6))) [] [(3,.box [.sl 3 ds,.sl 5 fs]),(4,.v (.cell (.sl 1 (zab xs)))),(5,.box [.int o,.int n,.sl 3 kids])]=some (.v (.cell (.bool true))):=by
 obtain⟨D,R,rfl,rfl,hi⟩:=zuD hp.1;have hl:=hp.2.1
 have hf:=hp.2.2
 obtain⟨t,g1,g2,h⟩:=zjB hi (V:=xs) (by omega) hf
 refine zj3 (zal g1 (zal g2 (zaa (nef rfl) ?_)))
 rcases h with h|⟨h0,hs,hv,hV,hc,ht⟩
 ·exact zad (decide_eq_true h) (zal g2 (by rw[zjJ]))
 have hn:=zhv hf
 have hnv:zjl [.int o,.int n,.sl 3 kids]=((1+cS [.int o,.int n,.sl 3 kids]:Nat):Int):=by unfold zjl;rw[if_pos hc]
 refine zaa (decide_eq_false (by omega)) (zal hn ?_)
 rw[hnv,wr (by omega) (by omega)]
 by_cases hbig:((1+cS [.int o,.int n,.sl 3 kids]:Nat):Int)+2>30
 ·exact zad (decide_eq_true hbig) (zal g2 (by rw[zjJ]))
 refine zaa (decide_eq_false hbig) (zae (zjt rfl) ?_)
 have hfv:Fit .expr [.int 12,.int ((xs.length:Nat):Int),.sl 3 []]:=zak (by omega) (by omega) (by simp) (fun c hc=>by cases hc)
 have hfx:Fit .expr [.int 13,.int 0,.sl 3 [[.int o,.int n,.sl 3 kids],[.int 12,.int ((xs.length:Nat):Int),.sl 3 []]]]:=zak (by omega) (by omega) (by simp) (fun c hc=>by
  rcases List.mem_cons.1 hc with rfl|hc
  ·exact hf
  ·rcases List.mem_cons.1 hc with rfl|hc
   ·exact hfv
   ·cases hc)
 have hcx:cS [.int 13,.int 0,.sl 3 [[.int o,.int n,.sl 3 kids],[.int 12,.int ((xs.length:Nat):Int),.sl 3 []]]]≤29:=by
  rw[zcm,zaJ,zaJ,zaG,zcm 12,zaG];simp only[List.length_cons,List.length_nil];omega
 have hvar:HT D R (xs++[t]) [.int 12,.int ((xs.length:Nat):Int),.sl 3 []] t:=by
  have:=HT.var (D:=D) (R:=R) (xs++[t]) ((xs.length:Nat):Int) [] rfl ⟨by omega,by rw[List.length_append,List.length_singleton];omega⟩
  rw[show(xs++[t]).getD ((xs.length:Nat):Int).toNat 0=t by rw[Int.toNat_natCast];simp[List.getD]] at this
  exact this
 have g3:=zkn hi hs hv hV (by omega) hfx hcx (HT.bind xs [[.int o,.int n,.sl 3 kids],[.int 12,.int ((xs.length:Nat):Int),.sl 3 []]] t t rfl h0 ht hvar)
 rw[zac];exact zal g3 (by rw[zjJ])
end
end
section
open Go Go.RowKit
theorem znt (A:Option Addr) (n c:Nat) (w:World) (h:zkJ w A n c):Calls Try.prog 6 #[.slice A n c] w fun e w'=>e=.returned (.bool true)∧Below w.heap.size w w' :=
 zla (fun _ _ _ _ _ _ h1 h2 h3=>zqN ⟨h1,h2,h3⟩) A n c w h
end
end Go.Proofs.Ytcpcagdialnbeaa

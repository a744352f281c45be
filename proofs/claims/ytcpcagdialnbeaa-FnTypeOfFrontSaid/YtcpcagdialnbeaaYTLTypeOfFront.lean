/- What this law needs beside: its draw, its rest over values, its models. -/
import Derived.Test.YtcpcagdialnbeaaY39
import Derived.WalkKit
set_option linter.unusedVariables false
set_option linter.unusedSimpArgs false
set_option maxRecDepth 100000
namespace Go.Proofs.Ytcpcagdialnbeaa
section
open Go Go.RowKit
noncomputable def zcQ:Ctx:={P:=Try.prog,L:=lay,F:=sig.has,E:=ext,fn:=Try.f5,lv:=[],jv:=[],tp:=[(40,[(true,[.int 0,.int 0,.sl 3 []]),(false,[.bool false])])]}
theorem zi5 {l1:List (List AC)}{l2:List (List AC)}{l3:List (List AC)}{n4:Int}{n5:Int}{l6:List (List AC)}{r:AV} (h:( zaz (zb3 [.agg [.sl 3 l1,.sl 5 l2],.cell (.sl 1 l3),.agg [.int n4,.int n5,.sl 3 l6]]) false [(false,[.int 0])] fun n7=>zaz (zbC [.agg [.sl 3 l1,.sl 5 l2],.cell (.sl 1 l3),.agg [.int n4,.int n5,.sl 3 l6]]) false [(false,[.int 0])] fun n8=>bif (n7 != n8) then zaz (zbC [.agg [.sl 3 l1,.sl 5 l2],.cell (.sl 1 l3),.agg [.int n4,.int n5,.sl 3 l6]]) false [(false,[.int 0])] fun n9=>some (.v (.cell (.bool (n7==n9)))) else bif (decide (n7<0)) then zaz (zbC [.agg [.sl 3 l1,.sl 5 l2],.cell (.sl 1 l3),.agg [.int n4,.int n5,.sl 3 l6]]) false [(false,[.int 0])] fun n10=>some (.v (.cell (.bool (n7==n10)))) else zaz (zlr [.agg [.int n4,.int n5,.sl 3 l6],.cell (.int 0),.cell (.int 1)]) true [(true,[.int 0,.int 0,.sl 3 []]),(false,[.bool false])] fun n11 n12 l13 b14=>bif b14 then zaz (zmT [.cell (.sl 1 [[.int 0]]),.cell (.sl 1 l3)]) false [(false,[.sl 1 []])] fun l15=>zaz (zb3 [.agg [.sl 3 l1,.sl 5 l2],.cell (.sl 1 l15),.agg [.int n11,.int n12,.sl 3 l13]]) false [(false,[.int 0])] fun n16=>some (.v (.cell (.bool (n16==n7)))) else some (.v (.cell (.bool false))):Option AV)=some r):evM zcQ 100000 (.run (zdA 3 (cOf Try.f5))) [] [(3,.box [.sl 3 l1,.sl 5 l2]),(4,.v (.cell (.sl 1 l3))),(5,.box [.int n4,.int n5,.sl 3 l6])]=some r:=Eq.trans (by kernel_rfl) h
theorem zj4:(zb2 zao lay sig (zdA 3 (cOf Try.f5)) (stM 54)).isSome=true:=by kernel_rfl
def FnTypeOfFrontR0:Code:=.region 0 #[⟨some 2,.assign (.const (.bool false)),4,"laws.go:592",#[],none⟩] false
def FnTypeOfFrontR1:Code:=.region 1 #[⟨some 9,.move (.tmp 0),22,"laws.go:593",#[],none⟩,⟨some 10,.call ⟨.builtin .len,#[.tmp 9],#[22]⟩,3,"laws.go:593",#[⟨0,.data⟩],none⟩,⟨some 11,.binOp .gtr 3 (.tmp 10) (.const (.int .i64 1048576)) 3,4,"laws.go:593",#[⟨1,.data⟩],none⟩] false
def zoE:Code:=.region 2 #[⟨some 2,.assign (.const (.bool true)),4,"laws.go:594",#[],none⟩] false
def FnTypeOfFrontR3:Code:=.region 3 #[⟨some 13,.move (.tmp 0),22,"laws.go:596",#[],none⟩,⟨some 14,.call ⟨.value (.func 12),#[.tmp 13],#[22]⟩,37,"laws.go:596",#[⟨0,.data⟩],none⟩,⟨some 12,.move (.tmp 14),37,"laws.go:596",#[⟨1,.data⟩],none⟩,⟨some 15,.extract (.tmp 12) 0,26,"laws.go:596",#[⟨2,.data⟩],none⟩,⟨some 16,.extract (.tmp 12) 1,33,"laws.go:596",#[⟨2,.data⟩,{on:=8,ground:=Go.Ground.gcOnly Go.Departure.lateStores}],none⟩,⟨some 17,.extract (.tmp 12) 2,32,"laws.go:596",#[⟨2,.data⟩,{on:=9,ground:=Go.Ground.gcOnly Go.Departure.lateStores}],none⟩,⟨some 3,.alloc 26,0,"laws.go:596",#[],none⟩,⟨some 5,.alloc 32,0,"laws.go:596",#[],none⟩,⟨none,.store 26 (.tmp 3) (.tmp 15),0,"laws.go:596",#[⟨6,.data⟩,⟨3,.data⟩,⟨1,.chain⟩,⟨0,.phase⟩,⟨1,.phase⟩,⟨2,.phase⟩,⟨3,.phase⟩,{on:=4,ground:=Go.Ground.textOnly Go.Departure.lateStores},{on:=5,ground:=Go.Ground.textOnly Go.Departure.lateStores},⟨6,.phase⟩,⟨7,.phase⟩],none⟩,⟨some 4,.assign (.tmp 16),33,"laws.go:596",#[⟨4,.data⟩,⟨8,.chain⟩,⟨0,.phase⟩,⟨1,.phase⟩,⟨2,.phase⟩,⟨3,.phase⟩,⟨4,.phase⟩,{on:=5,ground:=Go.Ground.textOnly Go.Departure.lateStores},⟨6,.phase⟩,⟨7,.phase⟩,⟨8,.phase⟩],none⟩,⟨none,.store 32 (.tmp 5) (.tmp 17),0,"laws.go:596",#[⟨7,.data⟩,⟨5,.data⟩,⟨9,.chain⟩,⟨0,.phase⟩,⟨1,.phase⟩,⟨2,.phase⟩,⟨3,.phase⟩,⟨4,.phase⟩,⟨5,.phase⟩,⟨6,.phase⟩,⟨7,.phase⟩,⟨8,.phase⟩,⟨9,.phase⟩],none⟩] false
theorem zlq:cOf Try.f5=.seq FnTypeOfFrontR0 (.seq (.seq FnTypeOfFrontR1 (.cond (.tmp 11) (.seq zoE .ret) .skip)) (.seq FnTypeOfFrontR3 (zdA 3 (cOf Try.f5)))):=by kernel_rfl
theorem zfB {m:Array Value} (h:m.size=54):m=List.toArray (sM m 0::sM m 1::sM m 2::sM m 3::sM m 4::sM m 5::sM m 6::sM m 7::sM m 8::sM m 9::sM m 10::sM m 11::sM m 12::sM m 13::sM m 14::sM m 15::sM m 16::sM m 17::sM m 18::sM m 19::sM m 20::sM m 21::sM m 22::sM m 23::sM m 24::sM m 25::sM m 26::sM m 27::sM m 28::sM m 29::sM m 30::sM m 31::sM m 32::sM m 33::sM m 34::sM m 35::sM m 36::sM m 37::sM m 38::sM m 39::sM m 40::sM m 41::sM m 42::sM m 43::sM m 44::sM m 45::sM m 46::sM m 47::sM m 48::sM m 49::sM m 50::sM m 51::sM m 52::sM m 53::[]):=by
 apply Array.ext'
 have h1:m.toList=(List.range 54).map (fun i=>m.getD i undef):=by
  apply List.ext_getElem
  ·simp[h]
  ·intro i h1 h2
   simp only[Array.length_toList] at h1;simp[Array.getD,h1]
 exact h1.trans rfl
set_option maxHeartbeats 4000000 in
theorem zmg {m:Array Value}{A:Option Addr}{n c:Nat}{w:World}  (hs:m.size=54) (m0:m.getD 0 undef=.slice A n c) (Q:Exit→Act→World→Prop) (hQ:∀a':Act,a'.defers=[]→a'.tmps.size=54→a'.tmps.getD 0 undef=.slice A n c→Q .normal a' (w)) :
 FnTypeOfFrontR0.wp Try.prog Q {tmps:=m,defers:=[]} w:=by
 have e:=zfB hs
 rw[show sM m 0=_ from m0] at e;rw[e];clear e;unfold FnTypeOfFrontR0
 go_wp2
 exact hQ _ rfl rfl rfl
set_option maxHeartbeats 4000000 in
theorem zmI {m:Array Value}{A:Option Addr}{n c:Nat}{w:World} (hn:¬(1048576:Int)<(n:Int)) (hs:m.size=54) (m0:m.getD 0 undef=.slice A n c) (Q:Exit→Act→World→Prop) (hQ:∀a':Act,a'.defers=[]→a'.tmps.size=54→a'.tmps.getD 0 undef=.slice A n c→a'.tmps.getD 11 undef=.bool false→Q .normal a' (w)) :
 FnTypeOfFrontR1.wp Try.prog Q {tmps:=m,defers:=[]} w:=by
 have e:=zfB hs
 rw[show sM m 0=_ from m0] at e;rw[e];clear e;unfold FnTypeOfFrontR1
 go_wp2
 exact hQ _ rfl rfl rfl rfl
set_option maxHeartbeats 4000000 in
theorem zl2 {m:Array Value}{A:Option Addr}{n c:Nat}{w:World}{post:Option Addr→Nat→Nat→Option Addr→Nat→Nat→Option Addr→Nat→Nat→Int→Int→Option Addr→Nat→Nat→World→Prop} (hcall:Calls Try.prog 12 #[.slice A n c] w fun e w'=>∃D1 d1 d2 E1 e1 e2 V v1 v2 x0 x1 A3 l3 k3,e=.returned (.tuple #[.agg #[.slice D1 d1 d2,.slice E1 e1 e2],.slice V v1 v2,.agg #[.int .i64 x0,.int .i64 x1,.slice A3 l3 k3]])∧post D1 d1 d2 E1 e1 e2 V v1 v2 x0 x1 A3 l3 k3 w') (hs:m.size=54) (m0:m.getD 0 undef=.slice A n c) (Q:Exit→Act→World→Prop) (hQ:∀D1 d1 d2 E1 e1 e2 V v1 v2 x0 x1 A3 l3 k3 (w':World),post D1 d1 d2 E1 e1 e2 V v1 v2 x0 x1 A3 l3 k3 w'→∀a':Act,a'.defers=[]→a'.tmps.size=54→a'.tmps.getD 0 undef=.slice A n c→a'.tmps.getD 3 undef=.pointer (some ⟨w'.heap.size,0,none⟩)→a'.tmps.getD 4 undef=.slice V v1 v2→a'.tmps.getD 5 undef=.pointer (some ⟨w'.heap.size+1,0,none⟩)→Q .normal a' ((w'.alloc (.cells #[.slice D1 d1 d2,.slice E1 e1 e2] 26)).alloc (.cells #[.int .i64 x0,.int .i64 x1,.slice A3 l3 k3] 32))) :
 FnTypeOfFrontR3.wp Try.prog Q {tmps:=m,defers:=[]} w:=by
 have e:=zfB hs
 rw[show sM m 0=_ from m0] at e;rw[e];clear e;unfold FnTypeOfFrontR3
 go_wp2_with fail
 refine hcall.mono ?_
 rintro e w' ⟨D1,d1,d2,E1,e1,e2,V,v1,v2,x0,x1,A3,l3,k3,rfl,hp⟩
 go_wp2
 exact hQ _ _ _ _ _ _ _ _ _ _ _ _ _ _ _ hp _ rfl rfl rfl rfl rfl rfl
set_option maxHeartbeats 4000000 in
theorem zj2 (hval:∀(ds fs:List (List AC)) (xs:List Int) (x0 x1:Int) (kids:List (List AC)),Fit .prog [.sl 3 ds,.sl 5 fs]→xs.length≤7→Fit .expr [.int x0,.int x1,.sl 3 kids]→evM zcQ 100000 (.run (zdA 3 (cOf Try.f5))) [] [(3,.box [.sl 3 ds,.sl 5 fs]),(4,.v (.cell (.sl 1 (zab xs)))),(5,.box [.int x0,.int x1,.sl 3 kids])]=some (.v (.cell (.bool true))))
  (A:Option Addr) (n c:Nat) (w:World) (h:zkJ w A n c):Calls Try.prog 5 #[.slice A n c] w fun e w'=>e=.returned (.bool true)∧Below w.heap.size w w':=by
 by_cases hbig:1048576<n
 ·go_enter Try.func5,Try.ntmps5
  go_wp2_with fail
  go_ret
  exact⟨rfl,Below.refl _ _⟩
 ·refine calls_of_wp Try.func5 (c:=cOf Try.f5) (by kernel_rfl) ?_
  rw[zlq];have hs0:(#[Value.slice A n c]++Array.replicate (Try.f5.ntmps-(#[.slice A n c]:Array Value).size) undef).size=54:=by simp[Try.ntmps5]
  have h0:(#[Value.slice A n c]++Array.replicate (Try.f5.ntmps-(#[.slice A n c]:Array Value).size) undef).getD 0 undef=Value.slice A n c:=by simp[Array.getD]
  generalize (#[Value.slice A n c]++Array.replicate (Try.f5.ntmps-(#[.slice A n c]:Array Value).size) undef)=m0 at hs0 h0
  refine wp_seq (zmg hs0 h0 _ fun a1 hd1 hs1 h1=>?_)
  obtain⟨m1,dd⟩:=a1;have hd1:dd=[]:=hd1
  subst hd1;refine wp_seq (wp_seq (zmI (by omega) hs1 h1 _ fun a2 hd2 hs2 h2 h29=>?_))
  obtain⟨m2,dd⟩:=a2;have hd2:dd=[]:=hd2
  subst hd2;refine wp_cond (t:=false) h29 ?_
  simp only[Bool.false_eq_true,if_false];refine wp_skip ?_
  show Code.wp _ (.seq FnTypeOfFrontR3 (zdA 3 (cOf Try.f5))) _ ⟨m2,[]⟩ w
  refine wp_seq (zl2 (post:=fun D1 d1 d2 E1 e1 e2 V v1 v2 x0 x1 A3 l3 k3 w'=>∃N p' ds fs xs kids,Rep p' w' (.slice D1 d1 d2) (.sl 3 ds)∧Rep p' w' (.slice E1 e1 e2) (.sl 5 fs)∧Rep p' w' (.slice V v1 v2) (.sl 1 (zab xs))∧Rep p' w' (.slice A3 l3 k3) (.sl 3 kids)∧Fit .prog [.sl 3 ds,.sl 5 fs]∧xs.length≤7∧Fit .expr [.int x0,.int x1,.sl 3 kids]∧Evo (fun _=>False) (zdl w.heap.size N) w p' w'∧Zp p' w') ?_ hs2 h2 _ ?_)
  ·refine(zhO h).mono ?_
   rintro e w' ⟨v,rfl,N,p',D1,d1,d2,E1,e1,e2,V,v1,v2,x0,x1,A3,l3,k3,ds,fs,xs,kids,rfl,hd⟩
   exact⟨_,_,_,_,_,_,_,_,_,_,_,_,_,_,rfl,N,p',ds,fs,xs,kids,hd⟩
  rintro D1 d1 d2 E1 e1 e2 V v1 v2 x0 x1 A3 l3 k3 w1 ⟨N,p1,ds,fs,xs,kids,r0,r1,rV,rK,hf,hxl,hfe,hev,hz⟩ a3 hd3 hs3 h3 h33 h34 h35
  obtain⟨m3,dd⟩:=a3;have hd3:dd=[]:=hd3
  subst hd3;have hs3:m3.size=54:=hs3
  have h33:m3.getD 3 undef=.pointer (some ⟨w1.heap.size,0,none⟩):=h33
  have h34:m3.getD 4 undef=.slice V v1 v2:=h34
  have h35:m3.getD 5 undef=.pointer (some ⟨w1.heap.size+1,0,none⟩):=h35
  have hea:=zav (p:=p1) (w:=w1) (.cells #[.slice D1 d1 d2,.slice E1 e1 e2] 26) 0 (fun _=>False)
  have hsA:(w1.alloc (.cells #[.slice D1 d1 d2,.slice E1 e1 e2] 26)).heap.size=w1.heap.size+1:=by simp
  have heb:=zav (p:=upP p1 w1.heap.size 0) (w:=w1.alloc (.cells #[.slice D1 d1 d2,.slice E1 e1 e2] 26)) (.cells #[.int .i64 x0,.int .i64 x1,.slice A3 l3 k3] 32) 0 (fun _=>False)
  have x3:((w1.alloc (.cells #[.slice D1 d1 d2,.slice E1 e1 e2] 26)).alloc (.cells #[.int .i64 x0,.int .i64 x1,.slice A3 l3 k3] 32)).heap[w1.heap.size]?=some (.cells #[.slice D1 d1 d2,.slice E1 e1 e2] 26 (0,0)):=(Below.heap_alloc _ _ _ (by omega)).trans (heap_alloc_new _ _)
  have x5:((w1.alloc (.cells #[.slice D1 d1 d2,.slice E1 e1 e2] 26)).alloc (.cells #[.int .i64 x0,.int .i64 x1,.slice A3 l3 k3] 32)).heap[w1.heap.size+1]?=some (.cells #[.int .i64 x0,.int .i64 x1,.slice A3 l3 k3] 32 (0,0)):=by rw[←hsA];exact heap_alloc_new _ _
  rw[hsA] at heb;have z3:(upP (upP p1 w1.heap.size 0) (w1.heap.size+1) 0).f w1.heap.size=0:=by rw[za0,if_neg (by omega),za0,if_pos rfl]
  have z5:(upP (upP p1 w1.heap.size 0) (w1.heap.size+1) 0).f (w1.heap.size+1)=0:=by rw[za0,if_pos rfl]
  have hz1:Zp (upP (upP p1 w1.heap.size 0) (w1.heap.size+1) 0) ((w1.alloc (.cells #[.slice D1 d1 d2,.slice E1 e1 e2] 26)).alloc (.cells #[.int .i64 x0,.int .i64 x1,.slice A3 l3 k3] 32)):=⟨fun c hc=>by
   have hc:w1.heap.size+2≤c:=by simpa using hc
   rw[za0,if_neg (by omega),za0,if_neg (by omega)]
   exact hz.1 c (by omega),fun _ _ _=>trivial⟩
  have hab:=hea.trans heb (C:=fun _=>False) (fun _ _ h=>h) (fun _ _ h=>h)
  have hE:=hev.trans hab (C:=fun _=>False) (fun _ _ h=>h) (fun _ _ h=>h)
  have q0:=r0.evo hab
  have q1:=r1.evo hab
  have qV:=rV.evo hab
  have qK:=rK.evo hab
  have hsz:=hev.size
  generalize (w1.alloc (.cells #[.slice D1 d1 d2,.slice E1 e1 e2] 26)).alloc (.cells #[.int .i64 x0,.int .i64 x1,.slice A3 l3 k3] 32)=W at *
  generalize upP (upP p1 w1.heap.size 0) (w1.heap.size+1) 0=P at *
  have hK:zrh P W m3 54 [(3,.box [.sl 3 ds,.sl 5 fs]),(4,.v (.cell (.sl 1 (zab xs)))),(5,.box [.int x0,.int x1,.sl 3 kids])] (fun x=>w.heap.size≤x):=by
   have look:∀t x,List.lookup t [(3,.box [.sl 3 ds,.sl 5 fs]),(4,.v (.cell (.sl 1 (zab xs)))),(5,.box [.int x0,.int x1,.sl 3 kids])]=some x→(t=3∧x=AV.box [.sl 3 ds,.sl 5 fs])∨(t=4∧x=AV.v (.cell (.sl 1 (zab xs))))∨(t=5∧x=AV.box [.int x0,.int x1,.sl 3 kids]):=fun t x hx=>by
    simp only[List.lookup_cons] at hx;by_cases h3:t=3
    ·subst h3;simp at hx;exact .inl ⟨rfl,hx.symm⟩
    rw[show(t==3)=false by simpa using h3] at hx
    by_cases h4:t=4
    ·subst h4;simp at hx;exact .inr (.inl ⟨rfl,hx.symm⟩)
    rw[show(t==4)=false by simpa using h4] at hx
    by_cases h5:t=5
    ·subst h5;simp at hx;exact .inr (.inr ⟨rfl,hx.symm⟩)
    rw[show(t==5)=false by simpa using h5] at hx
    simp at hx
   refine⟨fun t x hx'=>?_,fun t x hx'=>?_,fun t t' cs cs' x ht h1 h2 h3 h4=>?_⟩
   ·rcases look t x hx' with ⟨rfl,rfl⟩|⟨rfl,rfl⟩|⟨rfl,rfl⟩
    ·exact⟨by omega,_,_,_,h33,x3,q0,q1,trivial⟩
    ·exact⟨by omega,by rw[h34];exact qV⟩
    ·exact⟨by omega,_,_,_,h35,x5,.int _,.int _,qK,trivial⟩
   ·rcases look t x hx' with ⟨rfl,rfl⟩|⟨rfl,rfl⟩|⟨rfl,rfl⟩
    ·exact .inr ⟨_,_,rfl,h33,z3,hsz⟩
    ·exact .inl ⟨_,rfl⟩
    ·exact .inr ⟨_,_,rfl,h35,z5,by show w.heap.size≤w1.heap.size+1;omega⟩
   ·rcases look _ _ h1 with ⟨rfl,_⟩|⟨_,h⟩|⟨rfl,_⟩
    ·rcases look _ _ h2 with ⟨rfl,_⟩|⟨_,h⟩|⟨rfl,_⟩
     ·exact ht rfl
     ·cases h
     ·rw[h33] at h3;rw[h35] at h4
      have e3:w1.heap.size=x:=by simpa using h3
      subst e3;simp at h4
    ·cases h
    ·rcases look _ _ h2 with ⟨rfl,_⟩|⟨_,h⟩|⟨rfl,_⟩
     ·rw[h35] at h3;rw[h33] at h4
      have e3:w1.heap.size+1=x:=by simpa using h3
      subst e3;simp at h4
     ·cases h
     ·exact ht rfl
  obtain⟨O,hO⟩:=Option.isSome_iff_exists.1 zj4;have hI:=zlD hs3 hK hz1 (fun x hx=>Nat.le_trans hE.size hx)
  refine zeo (zpW (X:=zcQ) (a:={tmps:=m3,defers:=[]}) zdI zeY vok (hval ds fs xs x0 x1 kids hf hxl hfe) (zds _ _ _) (zmO fun t x hx=>(hK.lt t x hx).1) hO hI rfl hE) ?_
  rintro e w' ⟨v,rfl,p',hsr,_,_,hev',hz'⟩
  have hsr:Rep p' w' v (.bool true):=hsr
  cases hsr;exact⟨rfl,hev'.os,hev'.tape,hev'.output,hev'.size,fun b hb=>hev'.block b hb (fun h=>h)⟩
end
section
open Go Go.RowKit
section
variable {D:List DM}{R:List PM}
theorem zjB (hi:PIn D R) {V:List Int} (hl:V.length≤1000) {o n:Int}{kids:List (List AC)} (hf:Fit .expr [.int o,.int n,.sl 3 kids]):∃t,
  zb3 [.agg [.sl 3 (zah D),.sl 5 (zaC R)],.cell (.sl 1 (zab V)),.agg [.int o,.int n,.sl 3 kids]]=rI t ∧
  zbC [.agg [.sl 3 (zah D),.sl 5 (zaC R)],.cell (.sl 1 (zab V)),.agg [.int o,.int n,.sl 3 kids]]=rI t ∧
  (t<0∨(0≤t∧zmq D R=true∧CP D R∧(∀u∈V,0≤u∧u≤D.length)∧cS [.int o,.int n,.sl 3 kids]≤29∧HT D R V [.int o,.int n,.sl 3 kids] t)):=by
 have p1:=zjM D R hi.d hi.r hi.dl
 have p2:=zr7 D R hi.d hi.r hi.dl
 have a1:=zim D V (by unfold za9;omega)
 have a2:=zlL D V (by unfold za9;omega)
 have n1:=zhv hf
 have n2:=zm7 hf
 rcases hs:zmq D R with _|_
 ·rw[hs] at p1 p2
  exact⟨-1,zcC (zat p1 (zad rfl rfl)),zfe (zat p2 (zad rfl rfl)),.inl (by omega)⟩
 rw[hs] at p1 p2;have hv:=zCZ hi.r hs
 by_cases hc:cS [.int o,.int n,.sl 3 kids]≤29
 rotate_left
 ·have hn:decide (zjl [.int o,.int n,.sl 3 kids]<0)=true:=by rw[zmH,decide_eq_false hc];rfl
  refine⟨-1,?_,zfe (zat p2 (zaa rfl (zal n2 (zad hn rfl)))),.inl (by omega)⟩
  rcases ha:V.all (zdk D) with _|_
  ·rw[ha] at a1
   exact zcC (zat p1 (zaa rfl (zat a1 (zad rfl rfl))))
  ·rw[ha] at a1
   exact zcC (zat p1 (zaa rfl (zat a1 (zaa rfl (zal n1 (zad hn rfl))))))
 have hn:decide (zjl [.int o,.int n,.sl 3 kids]<0)=false:=by rw[zmH,decide_eq_true hc];rfl
 rcases ha:V.all (zdk D) with _|_
 ·rw[ha] at a1 a2
  exact⟨-1,zcC (zat p1 (zaa rfl (zat a1 (zad rfl rfl)))),zfe (zat p2 (zaa rfl (zal n2 (zaa hn (zat a2 (zad rfl rfl)))))),.inl (by omega)⟩
 rw[ha] at a1 a2;have hV:∀u∈V,0≤u∧u≤D.length:=fun u hu=>isTy_iff.1 (List.all_eq_true.1 ha u hu)
 obtain⟨t,_,h1,h2,h3⟩:=zze hv 30 o n kids hf (by omega) (by omega) V [] (by rw[List.append_nil];exact hV) (by rw[List.append_nil];omega)
 rw[List.append_nil] at h2 h3;refine⟨t,zcC (zat p1 (zaa rfl (zat a1 (zaa rfl (zal n1 (zaa hn (zal h1 rfl))))))),zfe (zat p2 (zaa rfl (zal n2 (zaa hn (zat a2 (zaa rfl (zal h2 rfl))))))),?_⟩
 by_cases ht:t<0
 ·exact .inl ht
 ·exact .inr ⟨by omega,rfl,hv,hV,hc,h3 (by omega)⟩
def zv8 (ds fs:List (List AC)) (xs:List Int) (o n:Int) (kids:List (List AC)):Prop:=Fit .prog [.sl 3 ds,.sl 5 fs]∧xs.length≤7∧Fit .expr [.int o,.int n,.sl 3 kids]
theorem zjJ (t:Int):(t==t)=true:=by simp
theorem zoN {ds fs:List (List AC)}{xs:List Int}{o n:Int}{kids:List (List AC)} (hp:zv8 ds fs xs o n kids) :
  evM zcQ 100000 (.run (zdA 3 (cOf Try.f5))) [] [(3,.box [.sl 3 ds,.sl 5 fs]),(4,.v (.cell (.sl 1 (zab xs)))),(5,.box [.int o,.int n,.sl 3 kids])]=some (.v (.cell (.bool true))):=by
 obtain⟨D,R,rfl,rfl,hi⟩:=zuD hp.1;have hl:=hp.2.1
 have hf:=hp.2.2
 obtain⟨t,g1,g2,h⟩:=zjB hi (V:=xs) (by omega) hf
 refine zi5 (zal g1 (zal g2 (zaa (nef rfl) ?_)))
 rcases h with h|⟨h0,hs,hv,hV,hc,ht⟩
 ·exact zad (decide_eq_true h) (zal g2 (by rw[zjJ]))
 have hvf:=zyJ hv ht 31 hf (by omega) (by omega)
 have hsh:=ztp (a:=0) (b:=1) hf ⟨hc,by omega,by omega,hvf⟩
 have hcS:=zBA 0 1 31 _ hf (by omega)
 have hfit:=zAi (a:=0) (b:=1) (by omega) 31 _ hf (by omega) hvf
 have hty:=zxV ht [] xs 0 rfl 31 hf (by omega)
 rw[zid] at hcS hfit;have hty:HT D R (0::xs) [.int o,.int (shF 0 1 o n),.sl 3 (kids.map (shr 0 1 30))] t:=hty
 have hj:zmT [.cell (.sl 1 [[.int 0]]),.cell (.sl 1 (zab xs))]=some (.v (.cell (.sl 1 (zab (0::xs))))) :=
  zsh (zcL (by simp) (zcL (by rw[zac];simp;omega) rfl))
 have g3:=zkn hi hs hv (V:=0::xs) (fun u hu=>by
  rcases List.mem_cons.1 hu with rfl|hu
  ·omega
  ·exact hV u hu) (by simp;omega) hfit (by omega) hty
 exact zaa (decide_eq_false (by omega)) (zBb hsh (zad rfl (zaO hj (zal g3 (by rw[zjJ])))))
end
end
section
open Go Go.RowKit
theorem zlo (A:Option Addr) (n c:Nat) (w:World) (h:zkJ w A n c):Calls Try.prog 5 #[.slice A n c] w fun e w'=>e=.returned (.bool true)∧Below w.heap.size w w' :=
 zj2 (fun _ _ _ _ _ _ h1 h2 h3=>zoN ⟨h1,h2,h3⟩) A n c w h
end
end Go.Proofs.Ytcpcagdialnbeaa

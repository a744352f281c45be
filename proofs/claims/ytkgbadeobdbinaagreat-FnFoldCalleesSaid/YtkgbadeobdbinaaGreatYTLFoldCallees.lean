/- What this law needs beside: its draw, its rest over values, its models. -/
import Derived.Test.YtkgbadeobdbinaaGreatY40
import Derived.WalkKit
set_option linter.unusedVariables false
set_option linter.unusedSimpArgs false
set_option maxRecDepth 100000
namespace Go.Proofs.YtkgbadeobdbinaaGreat
section
open Go Go.RowKit
noncomputable def X_laws_FnFoldCallees:Ctx:={P:=Tryz.prog,L:=lay,F:=sig.has,E:=ext,fn:=Tryz.f4,lv:=[(0,[3,4,8])],jv:=[],tp:=[(16,[(true,[.sl 3 [],.sl 5 []]),(false,[.bool false])]),(21,[(true,[.sl 3 [],.sl 5 []]),(false,[.bool false])])]}
noncomputable def zc4 (l13:List (List AC)) (l14:List (List AC)) (l15:List (List AC)) (l16:List (List AC)) (n17:Int):Option AV:=GL X_laws_FnFoldCallees 0 [(3,.box [.sl 3 l13,.sl 5 l14]),(4,.box [.sl 3 l15,.sl 5 l16]),(8,.v (.cell (.int n17)))]
theorem zfv {l13:List (List AC)}{l14:List (List AC)}{l15:List (List AC)}{l16:List (List AC)}{n17:Int}{r:AV} (h:( bif (decide (n17<((l14.length:Nat):Int))) then bif (decide (n17≥((l16.length:Nat):Int))) then some (.v (.cell (.bool false))) else zaM (zgl [.agg [.sl 3 l15,.sl 5 l16],.cell (.int n17)]) false [(false,[.sl 1 []])] fun l18=>zaM (zgl [.agg [.sl 3 l13,.sl 5 l14],.cell (.int n17)]) false [(false,[.sl 1 []])] fun l19=>zaM (zl9 [.cell (.sl 1 l18),.cell (.sl 1 l19)]) false [(false,[.bool false])] fun b20=>bif (!b20) then some (.v (.cell (.bool false))) else zc4 l13 l14 l15 l16 (zad (n17+1)) else some (.v (.cell (.bool (((l16.length:Nat):Int)==((l14.length:Nat):Int))))):Option AV)=some r):zc4 l13 l14 l15 l16 n17=some r:=zE0 (X:=X_laws_FnFoldCallees) (n:=100000) (by kernel_rfl) (by kernel_rfl:(X_laws_FnFoldCallees.fn.body.bind fun c=>zie 0 c [])=some (.loop (znH (X_laws_FnFoldCallees.fn.body.bind fun c=>zie 0 c [])),zuq (X_laws_FnFoldCallees.fn.body.bind fun c=>zie 0 c []))) (Eq.trans (by kernel_rfl) h)
theorem zdG {l1:List (List AC)}{l2:List (List AC)}{r:AV} (h:( zaM (zkV [.agg [.sl 3 l1,.sl 5 l2]]) true [(true,[.sl 3 [],.sl 5 []]),(false,[.bool false])] fun l3 l4 b5=>zaM (zmW [.agg [.sl 3 l1,.sl 5 l2]]) true [(true,[.sl 3 [],.sl 5 []]),(false,[.bool false])] fun l6 l7 b8=>zaM (za2 [.agg [.sl 3 l3,.sl 5 l4],.agg [.sl 3 l6,.sl 5 l7]]) false [(false,[.bool false])] fun b9=>bif (!b9) then zaM (za2 [.agg [.sl 3 l3,.sl 5 l4],.agg [.sl 3 l6,.sl 5 l7]]) false [(false,[.bool false])] fun b10=>bif b10 then some (.v (.cell (.bool (b5==b8)))) else some (.v (.cell (.bool false))) else bif (b5 != b8) then zaM (za2 [.agg [.sl 3 l3,.sl 5 l4],.agg [.sl 3 l6,.sl 5 l7]]) false [(false,[.bool false])] fun b11=>bif b11 then some (.v (.cell (.bool (b5==b8)))) else some (.v (.cell (.bool false))) else bif (!b5) then zaM (za2 [.agg [.sl 3 l3,.sl 5 l4],.agg [.sl 3 l6,.sl 5 l7]]) false [(false,[.bool false])] fun b12=>bif b12 then some (.v (.cell (.bool (b5==b8)))) else some (.v (.cell (.bool false))) else zc4 l1 l2 l3 l4 0:Option AV)=some r):evM X_laws_FnFoldCallees 100000 (.run (zgO 3 (cOf Tryz.f4))) [] [(3,.box [.sl 3 l1,.sl 5 l2])]=some r:=Eq.trans (by kernel_rfl) h
theorem zl5:(zct zaj lay sig (zgO 3 (cOf Tryz.f4)) (stM 74)).isSome=true:=by kernel_rfl
def FnFoldCalleesR0:Code:=.region 0 #[⟨some 2,.assign (.const (.bool false)),4,"laws.go:3607",#[],none⟩] false
def FnFoldCalleesR1:Code:=.region 1 #[⟨some 9,.move (.tmp 0),22,"laws.go:3608",#[],none⟩,⟨some 10,.call ⟨.builtin .len,#[.tmp 9],#[22]⟩,3,"laws.go:3608",#[⟨0,.data⟩],none⟩,⟨some 11,.binOp .gtr 3 (.tmp 10) (.const (.int .i64 1048576)) 3,4,"laws.go:3608",#[⟨1,.data⟩],none⟩] false
def zq2:Code:=.region 2 #[⟨some 2,.assign (.const (.bool true)),4,"laws.go:3609",#[],none⟩] false
def FnFoldCalleesR3:Code:=.region 3 #[⟨some 12,.move (.tmp 0),22,"laws.go:3611",#[],none⟩,⟨some 13,.call ⟨.value (.func 13),#[.tmp 12],#[22]⟩,26,"laws.go:3611",#[⟨0,.data⟩],none⟩,⟨some 3,.alloc 26,0,"laws.go:3611",#[],none⟩,⟨none,.store 26 (.tmp 3) (.tmp 13),0,"laws.go:3611",#[⟨2,.data⟩,⟨1,.data⟩,⟨1,.chain⟩,⟨0,.phase⟩,⟨1,.phase⟩,⟨2,.phase⟩],none⟩] false
theorem znu:cOf Tryz.f4=.seq FnFoldCalleesR0 (.seq (.seq FnFoldCalleesR1 (.cond (.tmp 11) (.seq zq2 .ret) .skip)) (.seq FnFoldCalleesR3 (zgO 3 (cOf Tryz.f4)))):=by kernel_rfl
theorem zgF {m:Array Value} (h:m.size=74):m=List.toArray (m.getD 0 undef::m.getD 1 undef::m.getD 2 undef::m.getD 3 undef::m.getD 4 undef::m.getD 5 undef::m.getD 6 undef::m.getD 7 undef::m.getD 8 undef::m.getD 9 undef::m.getD 10 undef::m.getD 11 undef::m.getD 12 undef::m.getD 13 undef::m.getD 14 undef::m.getD 15 undef::m.getD 16 undef::m.getD 17 undef::m.getD 18 undef::m.getD 19 undef::m.getD 20 undef::m.getD 21 undef::m.getD 22 undef::m.getD 23 undef::m.getD 24 undef::m.getD 25 undef::m.getD 26 undef::m.getD 27 undef::m.getD 28 undef::m.getD 29 undef::m.getD 30 undef::m.getD 31 undef::m.getD 32 undef::m.getD 33 undef::m.getD 34 undef::m.getD 35 undef::m.getD 36 undef::m.getD 37 undef::m.getD 38 undef::m.getD 39 undef::m.getD 40 undef::m.getD 41 undef::m.getD 42 undef::m.getD 43 undef::m.getD 44 undef::m.getD 45 undef::m.getD 46 undef::m.getD 47 undef::m.getD 48 undef::m.getD 49 undef::m.getD 50 undef::m.getD 51 undef::m.getD 52 undef::m.getD 53 undef::m.getD 54 undef::m.getD 55 undef::m.getD 56 undef::m.getD 57 undef::m.getD 58 undef::m.getD 59 undef::m.getD 60 undef::m.getD 61 undef::m.getD 62 undef::m.getD 63 undef::m.getD 64 undef::m.getD 65 undef::m.getD 66 undef::m.getD 67 undef::m.getD 68 undef::m.getD 69 undef::m.getD 70 undef::m.getD 71 undef::m.getD 72 undef::m.getD 73 undef::[]):=by
 apply Array.ext'
 have h1:m.toList=(List.range 74).map (fun i=>m.getD i undef):=by
  apply List.ext_getElem
  ·simp[h]
  ·intro i h1 h2
   simp only[Array.length_toList] at h1;simp[Array.getD,h1]
 exact h1.trans rfl
set_option maxHeartbeats 4000000 in
theorem zoo {f:Nat→Value}{A:Option Addr}{n c:Nat}{w:World}  (Q:Exit→Act→World→Prop) (hQ:∀a':Act,a'.defers=[]→a'.tmps.size=74→a'.tmps.getD 0 undef=.slice A n c→Q .normal a' (w)) :
 FnFoldCalleesR0.wp Tryz.prog Q {tmps:=List.toArray (.slice A n c::f 1::f 2::f 3::f 4::f 5::f 6::f 7::f 8::f 9::f 10::f 11::f 12::f 13::f 14::f 15::f 16::f 17::f 18::f 19::f 20::f 21::f 22::f 23::f 24::f 25::f 26::f 27::f 28::f 29::f 30::f 31::f 32::f 33::f 34::f 35::f 36::f 37::f 38::f 39::f 40::f 41::f 42::f 43::f 44::f 45::f 46::f 47::f 48::f 49::f 50::f 51::f 52::f 53::f 54::f 55::f 56::f 57::f 58::f 59::f 60::f 61::f 62::f 63::f 64::f 65::f 66::f 67::f 68::f 69::f 70::f 71::f 72::f 73::[]),defers:=[]} w:=by
 unfold FnFoldCalleesR0
 go_wp2
 exact hQ _ rfl rfl rfl
theorem zn0 {m:Array Value}{A:Option Addr}{n c:Nat}{w:World}  (hs:m.size=74) (m0:m.getD 0 undef=.slice A n c) (Q:Exit→Act→World→Prop) (hQ:∀a':Act,a'.defers=[]→a'.tmps.size=74→a'.tmps.getD 0 undef=.slice A n c→Q .normal a' (w)) :
 FnFoldCalleesR0.wp Tryz.prog Q {tmps:=m,defers:=[]} w:=by
 have e:=zgF hs
 rw[m0] at e;rw[e];exact zoo (f:=fun i=>m.getD i undef)  Q hQ
set_option maxHeartbeats 4000000 in
theorem zop {f:Nat→Value}{A:Option Addr}{n c:Nat}{w:World} (hn:¬(1048576:Int)<(n:Int)) (Q:Exit→Act→World→Prop) (hQ:∀a':Act,a'.defers=[]→a'.tmps.size=74→a'.tmps.getD 0 undef=.slice A n c→a'.tmps.getD 11 undef=.bool false→Q .normal a' (w)) :
 FnFoldCalleesR1.wp Tryz.prog Q {tmps:=List.toArray (.slice A n c::f 1::f 2::f 3::f 4::f 5::f 6::f 7::f 8::f 9::f 10::f 11::f 12::f 13::f 14::f 15::f 16::f 17::f 18::f 19::f 20::f 21::f 22::f 23::f 24::f 25::f 26::f 27::f 28::f 29::f 30::f 31::f 32::f 33::f 34::f 35::f 36::f 37::f 38::f 39::f 40::f 41::f 42::f 43::f 44::f 45::f 46::f 47::f 48::f 49::f 50::f 51::f 52::f 53::f 54::f 55::f 56::f 57::f 58::f 59::f 60::f 61::f 62::f 63::f 64::f 65::f 66::f 67::f 68::f 69::f 70::f 71::f 72::f 73::[]),defers:=[]} w:=by
 unfold FnFoldCalleesR1
 go_wp2
 exact hQ _ rfl rfl rfl rfl
theorem zoW {m:Array Value}{A:Option Addr}{n c:Nat}{w:World} (hn:¬(1048576:Int)<(n:Int)) (hs:m.size=74) (m0:m.getD 0 undef=.slice A n c) (Q:Exit→Act→World→Prop) (hQ:∀a':Act,a'.defers=[]→a'.tmps.size=74→a'.tmps.getD 0 undef=.slice A n c→a'.tmps.getD 11 undef=.bool false→Q .normal a' (w)) :
 FnFoldCalleesR1.wp Tryz.prog Q {tmps:=m,defers:=[]} w:=by
 have e:=zgF hs
 rw[m0] at e;rw[e];exact zop (f:=fun i=>m.getD i undef) hn Q hQ
set_option maxHeartbeats 4000000 in
theorem zoV {f:Nat→Value}{A:Option Addr}{n c:Nat}{w:World}{post:Option Addr→Nat→Nat→Option Addr→Nat→Nat→World→Prop} (hcall:Calls Tryz.prog 13 #[.slice A n c] w fun e w'=>∃D1 d1 d2 E1 e1 e2,e=.returned (.agg #[.slice D1 d1 d2,.slice E1 e1 e2])∧post D1 d1 d2 E1 e1 e2 w') (Q:Exit→Act→World→Prop) (hQ:∀D1 d1 d2 E1 e1 e2 (w':World),post D1 d1 d2 E1 e1 e2 w'→∀a':Act,a'.defers=[]→a'.tmps.size=74→a'.tmps.getD 0 undef=.slice A n c→a'.tmps.getD 3 undef=.pointer (some ⟨w'.heap.size,0,none⟩)→Q .normal a' (w'.alloc (.cells #[.slice D1 d1 d2,.slice E1 e1 e2] 26))) :
 FnFoldCalleesR3.wp Tryz.prog Q {tmps:=List.toArray (.slice A n c::f 1::f 2::f 3::f 4::f 5::f 6::f 7::f 8::f 9::f 10::f 11::f 12::f 13::f 14::f 15::f 16::f 17::f 18::f 19::f 20::f 21::f 22::f 23::f 24::f 25::f 26::f 27::f 28::f 29::f 30::f 31::f 32::f 33::f 34::f 35::f 36::f 37::f 38::f 39::f 40::f 41::f 42::f 43::f 44::f 45::f 46::f 47::f 48::f 49::f 50::f 51::f 52::f 53::f 54::f 55::f 56::f 57::f 58::f 59::f 60::f 61::f 62::f 63::f 64::f 65::f 66::f 67::f 68::f 69::f 70::f 71::f 72::f 73::[]),defers:=[]} w:=by
 unfold FnFoldCalleesR3
 go_wp2_with fail
 refine hcall.mono ?_
 rintro e w' ⟨D1,d1,d2,E1,e1,e2,rfl,hp⟩
 go_wp2
 exact hQ _ _ _ _ _ _ _ hp _ rfl rfl rfl rfl
theorem zoe {m:Array Value}{A:Option Addr}{n c:Nat}{w:World}{post:Option Addr→Nat→Nat→Option Addr→Nat→Nat→World→Prop} (hcall:Calls Tryz.prog 13 #[.slice A n c] w fun e w'=>∃D1 d1 d2 E1 e1 e2,e=.returned (.agg #[.slice D1 d1 d2,.slice E1 e1 e2])∧post D1 d1 d2 E1 e1 e2 w') (hs:m.size=74) (m0:m.getD 0 undef=.slice A n c) (Q:Exit→Act→World→Prop) (hQ:∀D1 d1 d2 E1 e1 e2 (w':World),post D1 d1 d2 E1 e1 e2 w'→∀a':Act,a'.defers=[]→a'.tmps.size=74→a'.tmps.getD 0 undef=.slice A n c→a'.tmps.getD 3 undef=.pointer (some ⟨w'.heap.size,0,none⟩)→Q .normal a' (w'.alloc (.cells #[.slice D1 d1 d2,.slice E1 e1 e2] 26))) :
 FnFoldCalleesR3.wp Tryz.prog Q {tmps:=m,defers:=[]} w:=by
 have e:=zgF hs
 rw[m0] at e;rw[e];exact zoV (f:=fun i=>m.getD i undef) hcall Q hQ
set_option maxHeartbeats 4000000 in
theorem zl2 (hval:∀(ds fs:List (List AC)),zyP ds fs→evM X_laws_FnFoldCallees 100000 (.run (zgO 3 (cOf Tryz.f4))) [] [(3,.box [.sl 3 ds,.sl 5 fs])]=some (.v (.cell (.bool true))))
  (hdraw:∀(A:Option Addr) (n c:Nat) (w:World),znm w A n c→Calls Tryz.prog 13 #[.slice A n c] w fun e w'=>∃v,e=.returned v∧zpw w v w')
  (A:Option Addr) (n c:Nat) (w:World) (h:znm w A n c):Calls Tryz.prog 4 #[.slice A n c] w fun e w'=>e=.returned (.bool true)∧Below w.heap.size w w':=by
 by_cases hbig:1048576<n
 ·go_enter Tryz.func4,Tryz.ntmps4
  go_wp2_with fail
  go_ret
  exact⟨rfl,Below.refl _ _⟩
 ·refine calls_of_wp Tryz.func4 (c:=cOf Tryz.f4) (by kernel_rfl) ?_
  rw[znu];have hs0:(#[Value.slice A n c]++Array.replicate (Tryz.f4.ntmps-(#[.slice A n c]:Array Value).size) undef).size=74:=by simp[Tryz.ntmps4]
  have h0:(#[Value.slice A n c]++Array.replicate (Tryz.f4.ntmps-(#[.slice A n c]:Array Value).size) undef).getD 0 undef=Value.slice A n c:=by simp[Array.getD]
  generalize (#[Value.slice A n c]++Array.replicate (Tryz.f4.ntmps-(#[.slice A n c]:Array Value).size) undef)=m0 at hs0 h0
  refine wp_seq (zn0 hs0 h0 _ fun a1 hd1 hs1 h1=>?_)
  obtain⟨m1,dd⟩:=a1;have hd1:dd=[]:=hd1
  subst hd1;refine wp_seq (wp_seq (zoW (by omega) hs1 h1 _ fun a2 hd2 hs2 h2 h29=>?_))
  obtain⟨m2,dd⟩:=a2;have hd2:dd=[]:=hd2
  subst hd2;refine wp_cond (t:=false) h29 ?_
  simp only[Bool.false_eq_true,if_false];refine wp_skip ?_
  show Code.wp _ (.seq FnFoldCalleesR3 (zgO 3 (cOf Tryz.f4))) _ ⟨m2,[]⟩ w
  refine wp_seq (zoe (post:=fun D1 d1 d2 E1 e1 e2 w'=>zpw w (.agg #[.slice D1 d1 d2,.slice E1 e1 e2]) w') ?_ hs2 h2 _ ?_)
  ·refine(hdraw A n c w h).mono ?_
   rintro e w' ⟨v,rfl,N,p',D1,d1,d2,E1,e1,e2,ds,fs,rfl,hd⟩
   exact⟨_,_,_,_,_,_,rfl,N,p',D1,d1,d2,E1,e1,e2,ds,fs,rfl,hd⟩
  rintro D1 d1 d2 E1 e1 e2 w1 ⟨N,p1,D1',d1',d2',E1',e1',e2',ds,fs,hv,hrep,hrep2,hf,hev,hz⟩ a3 hd3 hs3 h3 h33
  injection hv with hv
  have hv:=congrArg Array.toList hv
  obtain⟨⟨rfl,rfl,rfl⟩,rfl,rfl,rfl⟩:(D1=D1'∧d1=d1'∧d2=d2')∧E1=E1'∧e1=e1'∧e2=e2':=by simpa using hv
  obtain⟨m3,dd⟩:=a3;have hd3:dd=[]:=hd3
  subst hd3;have hs3:m3.size=74:=hs3
  have h33:m3.getD 3 undef=.pointer (some ⟨w1.heap.size,0,none⟩):=h33
  have hea:=zbi (p:=p1) (w:=w1) (.cells #[.slice D1 d1 d2,.slice E1 e1 e2] 26) 0 (fun _=>False)
  have hx:=heap_alloc_new w1 (.cells #[.slice D1 d1 d2,.slice E1 e1 e2] 26)
  have hz1:Zp (upP p1 w1.heap.size 0) (w1.alloc (.cells #[.slice D1 d1 d2,.slice E1 e1 e2] 26)):=⟨fun c hc=>by
   rw[zb9];split
   ·rfl
   ·exact hz.1 c (by simp at hc;omega),fun _ _ _=>trivial⟩
  have hE:=hev.trans hea (C:=fun _=>False) (fun _ _ h=>h) (fun _ _ h=>h)
  have hr1:=hrep.evo hea
  have hr2:=hrep2.evo hea
  have hK:zvn (upP p1 w1.heap.size 0) (w1.alloc (.cells #[.slice D1 d1 d2,.slice E1 e1 e2] 26)) m3 74 [(3,.box [.sl 3 ds,.sl 5 fs])] (fun x=>w.heap.size≤x):=by
   have look:∀t x,List.lookup t [(3,.box [.sl 3 ds,.sl 5 fs])]=some x→(t=3∧x=AV.box [.sl 3 ds,.sl 5 fs])∨False:=fun t x hx=>by
    simp only[List.lookup_cons] at hx;by_cases h3:t=3
    ·subst h3;simp at hx;exact .inl ⟨rfl,hx.symm⟩
    rw[show(t==3)=false by simpa using h3] at hx
    simp at hx
   refine⟨fun t x hx'=>?_,fun t x hx'=>?_,fun t t' cs cs' x ht h1 h2 h3 h4=>?_⟩
   ·rcases look t x hx' with ⟨rfl,rfl⟩|h
    ·exact⟨by omega,_,_,_,h33,hx,hr1,hr2,trivial⟩
    ·exact h.elim
   ·rcases look t x hx' with ⟨rfl,rfl⟩|h
    ·exact .inr ⟨_,_,rfl,h33,by rw[zb9,if_pos rfl],hev.size⟩
    ·exact h.elim
   ·rcases look _ _ h1 with ⟨rfl,_⟩|h
    ·rcases look _ _ h2 with ⟨rfl,_⟩|h
     ·exact ht rfl
     ·exact h.elim
    ·exact h.elim
  obtain⟨O,hO⟩:=Option.isSome_iff_exists.1 zl5;have hI:=zrx hs3 hK hz1 (fun x hx=>Nat.le_trans hE.size hx)
  refine zgZ (zwk (X:=X_laws_FnFoldCallees) (a:={tmps:=m3,defers:=[]}) ze1 zh3 vok (hval ds fs hf) (zeP _ _ _) (zt3 fun t x hx=>(hK.lt t x hx).1) hO hI rfl hE) ?_
  rintro e w' ⟨v,rfl,p',hsr,_,_,hev',hz'⟩
  have hsr:Rep p' w' v (.bool true):=hsr
  cases hsr;exact⟨rfl,hev'.os,hev'.tape,hev'.output,hev'.size,fun b hb=>hev'.block b hb (fun h=>h)⟩
end
section
open Go Go.RowKit
theorem zEW {D:List DM}{R:List PM} (h:VP D R):TP D R:=⟨h.cp,fun k hk=>⟨h.small k hk,h.ht k hk⟩⟩
end
section
open Go Go.RowKit
inductive Mn (i:Nat):List AC→Prop
 | here (o n:Int) (kids:List (List AC)) (h:o=9∨o=10) (hn:n=(i:Int)):Mn i [.int o,.int n,.sl 3 kids]
 | kid (o n:Int) (kids:List (List AC)) (k:Nat) (hk:k<kids.length) (h:Mn i (kids.getD k [])):Mn i [.int o,.int n,.sl 3 kids]
theorem mn_iff {i:Nat}{o n:Int}{kids:List (List AC)}:Mn i [.int o,.int n,.sl 3 kids]↔((o=9∨o=10)∧n=(i:Int))∨∃k,k<kids.length∧Mn i (kids.getD k []):=by
 constructor
 ·intro h
  generalize hx:[AC.int o,AC.int n,AC.sl 3 kids]=x at h
  cases h with
  | here o' n' kids' h hn =>
   simp only[List.cons.injEq,AC.int.injEq,AC.sl.injEq,true_and,and_true] at hx;obtain⟨rfl,rfl,rfl⟩:=hx;exact .inl ⟨h,hn⟩
  | kid o' n' kids' k hk h =>
   simp only[List.cons.injEq,AC.int.injEq,AC.sl.injEq,true_and,and_true] at hx;obtain⟨rfl,rfl,rfl⟩:=hx;exact .inr ⟨k,hk,h⟩
 ·rintro(⟨h,hn⟩|⟨k,hk,h⟩)
  ·exact .here _ _ _ h hn
  ·exact .kid _ _ _ k hk h
theorem zE8 {i:Nat}:¬Mn i []:=fun h=>by cases h
theorem zrg {i:Nat}{l:List (List AC)}{k:Nat} (h:Mn i (l.getD k [])):k<l.length:=by
 refine Classical.byContradiction fun hk=>?_
 rw[show l.getD k []=[] by simp[List.getD,List.getElem?_eq_none (show l.length≤k by omega)]] at h
 exact zE8 h
theorem zFS {i:Nat}{o n:Int}{kids:List (List AC)}{x:List AC} (hx:x∈kids) (h:Mn i x):Mn i [.int o,.int n,.sl 3 kids]:=by
 obtain⟨k,hk,rfl⟩:=List.getElem_of_mem hx;exact .kid _ _ _ k hk (by rw[show kids.getD k []=kids[k] by simp[List.getD,hk]];exact h)
theorem zyY {a b:Int}{s:Nat}{x:List AC} (hx:¬∃o n kids,x=[.int o,.int n,.sl 3 kids]):shr a b s x=x:=by
 unfold shr;split
 ·exact absurd ⟨_,_,_,rfl⟩ hx
 ·rfl
theorem zBY {D:List DM}{s n:Nat}{x:List AC} (hx:¬∃o n kids,x=[.int o,.int n,.sl 3 kids]):fd D s n x=x:=by
 unfold fd;split
 ·exact absurd ⟨_,_,_,rfl⟩ hx
 ·rfl
theorem zFh {i:Nat} (a b:Int):∀(s:Nat) (x:List AC),Mn i (shr a b s x)→Mn i x:=by
 intro s;induction s with
 | zero=>intro x h;exact h
 | succ s ih =>
  intro x h;by_cases hx:∃o n kids,x=[.int o,.int n,.sl 3 kids]
  ·obtain⟨o,n,kids,rfl⟩:=hx
   rw[zek] at h;rcases mn_iff.1 h with ⟨ho,hn⟩|⟨k,hk,hm⟩
   ·rw[show shF a b o n=n by unfold shF;rw[if_neg (fun h=>by omega)]] at hn
    exact .here _ _ _ ho hn
   ·rw[List.length_map] at hk
    rw[zeM hk] at hm;exact .kid _ _ _ k hk (ih _ hm)
  ·rw[zyY hx] at h;exact h
theorem zEV {i:Nat}{n:Int}{b:List AC}:∀(xs:List (List AC)) (k:Nat),Mn i (ltK n k xs b)→(∃x∈xs,Mn i x)∨Mn i b
 | [],_,h=>.inr h
 | x::xs,k,h=>by
  rcases mn_iff.1 h with ⟨ho,_⟩|⟨j,hj,hm⟩
  ·omega
  ·have hj:j<2:=hj
   rcases(by omega:j=0∨j=1) with rfl|rfl
   ·exact .inl ⟨x,List.mem_cons_self,zFh _ _ _ _ hm⟩
   ·rcases zEV xs (k+1) hm with ⟨y,hy,h⟩|h
    ·exact .inl ⟨y,List.mem_cons_of_mem _ hy,h⟩
    ·exact .inr h
theorem zy0 {i:Nat}{x y:List AC} (hy:y∈zbY x) (h:Mn i y):Mn i x:=by
 unfold zbY at hy;split at hy
 ·exact zFS hy h
 ·cases hy
theorem zAf {i:Nat}{D:List DM}{n o m:Int}{l:List (List AC)} (h:Mn i (zds D n o m l)):((o=9∨o=10)∧m=(i:Int))∨∃k,k<l.length∧Mn i (l.getD k []):=by
 unfold zds at h;split at h
 ·rcases mn_iff.1 h with ⟨h,_⟩|⟨k,hk,_⟩
  ·omega
  ·cases hk
 split at h
 ·split at h
  ·exact .inr ⟨_,zrg h,h⟩
  ·exact .inr ⟨_,zrg h,h⟩
 split at h
 ·rcases zEV _ _ h with ⟨x,hx,h⟩|h
  ·have:=zy0 hx h
   exact .inr ⟨_,zrg this,this⟩
  ·exact .inr ⟨_,zrg h,h⟩
 ·exact mn_iff.1 h
theorem zGD {i:Nat}{D:List DM}:∀(s n:Nat) (x:List AC),Mn i (fd D s n x)→Mn i x:=by
 intro s;induction s with
 | zero=>intro n x h;exact h
 | succ s ih =>
  intro n x h;by_cases hx:∃o n kids,x=[.int o,.int n,.sl 3 kids]
  ·obtain⟨o,m,kids,rfl⟩:=hx
   rw[zpZ] at h;rcases zAf h with ⟨ho,hn⟩|⟨k,hk,hm⟩
   ·exact .here _ _ _ ho hn
   ·rw[List.length_map,List.length_range] at hk
    rw[za8 hk] at hm;exact .kid _ _ _ k hk (ih _ _ hm)
  ·rw[zBY hx] at h;exact h
theorem zxe {m:Nat} (hm:m≤1000):∀(s:Nat) (o n:Int) (kids:List (List AC)),Fit .expr [.int o,.int n,.sl 3 kids]→Nm m [.int o,.int n,.sl 3 kids]→cS [.int o,.int n,.sl 3 kids]<s→s≤31 →
  ∃C:Nat→Bool,(∀A:Nat→Bool,zcn [.cell (.sl 1 (zae (zcm A 0 m))),.agg [.int o,.int n,.sl 3 kids]]=rL (zcm (orS A C) 0 m)∧zdE [.agg [.int o,.int n,.sl 3 kids],.cell (.sl 1 (zae (zcm A 0 m)))]=rL (zcm (orS A C) 0 m))∧∀i,C i=true↔Mn i [.int o,.int n,.sl 3 kids]:=by
 intro s;induction s with
 | zero=>intro o n kids _ _ h;omega
 | succ s ihs =>
  intro o n kids hf hn hs hs31;obtain⟨_,_,hml,hk⟩:=zeh hf;have hn':(o=9∨o=10→0≤n∧n<m)∧∀k,k<kids.length→Nm m (kids.getD k []):=by
   generalize hx:[AC.int o,AC.int n,AC.sl 3 kids]=x at hn
   cases hn with
   | node o' n' kids' h1 h2 =>
    simp only[List.cons.injEq,AC.int.injEq,AC.sl.injEq,true_and,and_true] at hx;obtain⟨rfl,rfl,rfl⟩:=hx;exact⟨h1,h2⟩
  have hcs:=zbq o n kids
  have kidC:∀k,k<kids.length→∃C:Nat→Bool,(∀A:Nat→Bool,zcn [.cell (.sl 1 (zae (zcm A 0 m))),.agg (kids.getD k [])]=rL (zcm (orS A C) 0 m)∧zdE [.agg (kids.getD k []),.cell (.sl 1 (zae (zcm A 0 m)))]=rL (zcm (orS A C) 0 m))∧∀i,C i=true↔Mn i (kids.getD k []):=fun k hlt=>by
   obtain⟨o',n',ks,e,hf'⟩:=zc5 hk hlt;have h1:=zaV hlt (o:=o) (n:=n)
   have h2:=hn'.2 k hlt
   rw[e] at h1 h2 ⊢;exact ihs o' n' ks hf' h2 (by omega) (by omega)
  have rest:∀j k:Nat,k+j=kids.length→∃C:Nat→Bool,(∀A:Nat→Bool,zcr (zae (zcm A 0 m)) kids ((kids.length:Nat):Int) (k:Int)=rL (zcm (orS A C) 0 m)∧zcs (zae (zcm A 0 m)) o n kids (k:Int)=rL (zcm (orS A C) 0 m))∧∀i,C i=true↔∃p,k≤p∧p<kids.length∧Mn i (kids.getD p []):=by
   intro j;induction j with
   | zero =>
    intro k hkj;refine⟨fun _=>false,fun A=>?_,fun i=>⟨(fun h=>by cases h),(fun⟨p,h1,h2,_⟩=>by omega)⟩⟩
    rw[show orS A (fun _=>false)=A by funext i;simp[orS]]
    exact⟨zhN (zaa (decide_eq_false (by omega)) rfl),zhV (zaa (decide_eq_false (by omega)) rfl)⟩
   | succ j ih =>
    intro k hkj;have hlt:k<kids.length:=by omega
    obtain⟨C1,h1,m1⟩:=kidC k hlt;obtain⟨C2,h2,m2⟩:=ih (k+1) (by omega)
    obtain⟨o',n',ks,e,_⟩:=zc5 hk hlt;refine⟨orS C1 C2,fun A=>?_,fun i=>?_⟩
    ·rw[show orS A (orS C1 C2)=orS (orS A C1) C2 by funext i;simp[orS,Bool.or_assoc]]
     have g1:=h1 A
     have g2:=h2 (orS A C1)
     rw[e] at g1;refine⟨zhN (zab (decide_eq_true (by omega)) (zaB hlt e (zay g1.1 ?_))),zhV (zab (decide_eq_true (by omega)) (zaB hlt e (zay g1.2 ?_)))⟩
     ·rw[wrk (by omega)];exact g2.1
     ·rw[wrk (by omega)];exact g2.2
    ·simp only[orS,Bool.or_eq_true,m1,m2]
     constructor
     ·rintro(h|⟨p,hp,hp2,h⟩)
      ·exact⟨k,Nat.le_refl _,hlt,h⟩
      ·exact⟨p,by omega,hp2,h⟩
     ·rintro⟨p,hp,hp2,h⟩
      by_cases hkp:p=k
      ·subst hkp;exact .inl h
      ·exact .inr ⟨p,by omega,hp2,h⟩
  obtain⟨C,hC,hM⟩:=rest kids.length 0 (by omega)
  have hM':∀i,C i=true↔∃p,p<kids.length∧Mn i (kids.getD p []):=fun i=>(hM i).trans ⟨fun⟨p,_,h1,h2⟩=>⟨p,h1,h2⟩,fun⟨p,h1,h2⟩=>⟨p,Nat.zero_le _,h1,h2⟩⟩
  by_cases h:o=9∨o=10
  ·have hr:=hn'.1 h
   obtain⟨j,rfl⟩:∃j:Nat,n=(j:Int):=⟨n.toNat,by omega⟩
   refine⟨orS (zxi j) C,fun A=>?_,fun i=>?_⟩
   ·rw[show orS A (orS (zxi j) C)=orS (orS A (zxi j)) C by funext i;simp[orS,Bool.or_assoc]]
    have g:=hC (orS A (zxi j))
    have gi:=zHc (show j<m by omega) hm A
    have gs:=zGp (show j<m by omega) hm A
    rcases h with rfl|rfl
    ·exact⟨zgD (zab rfl (zay gi g.1)),zgM (zab rfl (zay gs g.2))⟩
    ·exact⟨zgD (zaa rfl (zab rfl (zay gi g.1))),zgM (zaa rfl (zab rfl (zay gs g.2)))⟩
   ·rw[mn_iff]
    simp only[orS,zxi,Bool.or_eq_true,beq_iff_eq,hM'];constructor
    ·rintro(h'|h')
     ·exact .inl ⟨h,by omega⟩
     ·exact .inr h'
    ·rintro(⟨_,h'⟩|h')
     ·exact .inl (by omega)
     ·exact .inr h'
  ·refine⟨C,fun A=>?_,fun i=>?_⟩
   ·have g:=hC A
    have h9:o≠9:=fun h'=>h (.inl h')
    have h10:o≠10:=fun h'=>h (.inr h')
    exact⟨zgD (zaa (eqf h9) (zaa (eqf h10) g.1)),zgM (zaa (eqf h9) (zaa (eqf h10) g.2))⟩
   ·rw[mn_iff,hM']
    exact⟨fun h'=>.inr h',fun h'=>h'.resolve_left fun x=>h x.1⟩
section
variable {D:List DM}{R:List PM}
def zGj (R:List PM) (C:Nat→Nat→Bool):Prop:=zxX R C∧∀k,k<R.length→∀i,C k i=true↔Mn i (zbf (gP R k))
theorem ztM (h:TP D R):∃C,zGj R C:=by
 have hR:=h.cp.rl
 obtain⟨C,hC⟩:=zGJ (m:=R.length) (P:=fun k C=>(∀A:Nat→Bool,zcn [.cell (.sl 1 (zae (zcm A 0 R.length))),.agg (zbf (gP R k))]=rL (zcm (orS A C) 0 R.length)∧zdE [.agg (zbf (gP R k)),.cell (.sl 1 (zae (zcm A 0 R.length)))]=rL (zcm (orS A C) 0 R.length))∧∀i,C i=true↔Mn i (zbf (gP R k))) fun k hk=>by
  obtain⟨h1,h2⟩:=h.b k hk;exact zxe (by omega) 30 _ _ _ (h.cp.rok _ (zhj hk)).b (HT.nm h.cp h2) (by show cS (zbf (gP R k))<30;omega) (by omega)
 exact⟨C,fun k hk=>(hC k hk).1,fun k hk=>(hC k hk).2⟩
theorem zBi {C:Nat→Nat→Bool} (hN:zxX R C) (h1:zby [.agg [.sl 3 (zag D),.sl 5 (zao R)]]=rB true) {f:Nat} (hf:f<R.length):zgl [.agg [.sl 3 (zag D),.sl 5 (zao R)],.cell (.int (f:Int))]=rL (zcm (C f) 0 R.length) :=
 zoJ (zas h1 (zaa rfl (zas (zz6 hf) (zaa rfl (zaQ (k:=f) rfl hf (zay (zzk hN hf) rfl))))))
end
end
section
open Go Go.RowKit
theorem zDS {S T:Nat→Bool}{m:Nat} (h:∀i,i<m→S i=true→T i=true):∀x∈zcm S 0 m,(zcm T 0 m).contains x=true:=fun x hx=>by
 obtain⟨j,rfl,hj,hs⟩:=zFz hx;rw[List.contains_iff_mem];unfold zcm;exact List.mem_map.2 ⟨j,List.mem_filter.2 ⟨List.mem_range'_1.2 (by omega),h j hj hs⟩,rfl⟩
theorem zqQ {ds fs:List (List AC)} (hp:zyP ds fs) :
  evM X_laws_FnFoldCallees 100000 (.run (zgO 3 (cOf Tryz.f4))) [] [(3,.box [.sl 3 ds,.sl 5 fs])]=some (.v (.cell (.bool true))):=by
 obtain⟨D,R,rfl,rfl,hi⟩:=zBS hp.1;obtain⟨b,h1,h2,h3⟩:=zyj hi;cases b with
 | false =>
  exact zdG (zdU (zlu (zas h1 (zab rfl rfl))) (zdU (zlt (zas h2 (zab rfl rfl))) (zas zdm (zaa rfl (zaa rfl (zab rfl (zas zdm (zab rfl rfl))))))))
 | true =>
  have hvp:=h3 rfl
  have ht:=zEW hvp
  have g1:=zxm ht h1
  have g2:=zAQ ht h2
  rcases hok:okB (zec R (fdP D)) with _|_
  ·rw[hok] at g1 g2
   exact zdG (zdU g1 (zdU g2 (zas zdm (zaa rfl (zaa rfl (zab rfl (zas zdm (zab rfl rfl))))))))
  ·rw[hok] at g1 g2
   have ht':=zBW ht hok
   have hv':=zvB ht' hi.d (by rw[ztX znc];exact hvp.sg)
   have hR:=ht.cp.rl
   have hl:(zec R (fdP D)).length=R.length:=zgo
   obtain⟨C,hN,hM⟩:=ztM ht;obtain⟨C',hN',hM'⟩:=ztM ht';have key:∀q k:Nat,k+q=R.length→zc4 (zag D) (zao R) (zag D) (zao (zec R (fdP D))) (k:Int)=rB true:=by
    intro q;induction q with
    | zero =>
     intro k hk;refine zfv (zaa (decide_eq_false (by rw[za1];omega)) ?_)
     rw[za1,za1,hl,eqt rfl]
    | succ q ih =>
     intro k hk;have hlt:k<R.length:=by omega
     have a1:=zBi hN h1 hlt
     have a2:=zBi hN' hv' (f:=k) (by omega)
     rw[hl] at a2;have hw:=zAA (zcm (C' k) 0 R.length) (zcm (C k) 0 R.length) (by have:=zoF (C' k) 0 R.length;omega) (by have:=zoF (C k) 0 R.length;omega) (zDS fun i _ h=>by
      rw[hM k hlt];rw[hM' k (by omega),zhh hlt (zlM ht hlt).1] at h
      exact zGD _ _ _ h)
     refine zfv (zab (decide_eq_true (by rw[za1];omega)) (zaa (decide_eq_false (by rw[za1];omega)) (zay a2 (zay a1 (zas hw (zaa rfl ?_))))))
     rw[wrk (by unfold zaS;omega)]
     exact ih (k+1) (by omega)
   exact zdG (zdU g1 (zdU g2 (zas (zsn ht') (zaa rfl (zaa rfl (zaa rfl (key R.length 0 (by omega))))))))
theorem znZ (A:Option Addr) (n c:Nat) (w:World) (h:znm w A n c):Calls Tryz.prog 4 #[.slice A n c] w fun e w'=>e=.returned (.bool true)∧Below w.heap.size w w' :=
 zl2 (fun _ _ hp=>zqQ hp) (fun _ _ _ _ h=>zn7 h) A n c w h
end
end Go.Proofs.YtkgbadeobdbinaaGreat

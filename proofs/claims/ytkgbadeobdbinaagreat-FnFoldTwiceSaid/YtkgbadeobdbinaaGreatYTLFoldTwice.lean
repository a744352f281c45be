/- What this law needs beside: its draw, its rest over values, its models. -/
import Derived.Test.YtkgbadeobdbinaaGreatY40
import Derived.WalkKit
set_option linter.unusedVariables false
set_option linter.unusedSimpArgs false
set_option maxRecDepth 100000
namespace Go.Proofs.YtkgbadeobdbinaaGreat
section
open Go Go.RowKit
noncomputable def zd6:Ctx:={P:=Tryz.prog,L:=lay,F:=sig.has,E:=ext,fn:=Tryz.f5,lv:=[],jv:=[],tp:=[(17,[(true,[.sl 3 [],.sl 5 []]),(false,[.bool false])]),(22,[(true,[.sl 3 [],.sl 5 []]),(false,[.bool false])]),(48,[(true,[.sl 3 [],.sl 5 []]),(false,[.bool false])])]}
theorem zei {l1:List (List AC)}{l2:List (List AC)}{r:AV} (h:( zaM (zkV [.agg [.sl 3 l1,.sl 5 l2]]) true [(true,[.sl 3 [],.sl 5 []]),(false,[.bool false])] fun l3 l4 b5=>zaM (zmW [.agg [.sl 3 l1,.sl 5 l2]]) true [(true,[.sl 3 [],.sl 5 []]),(false,[.bool false])] fun l6 l7 b8=>zaM (za2 [.agg [.sl 3 l3,.sl 5 l4],.agg [.sl 3 l6,.sl 5 l7]]) false [(false,[.bool false])] fun b9=>bif (!b9) then zaM (za2 [.agg [.sl 3 l3,.sl 5 l4],.agg [.sl 3 l6,.sl 5 l7]]) false [(false,[.bool false])] fun b10=>bif b10 then some (.v (.cell (.bool (b5==b8)))) else some (.v (.cell (.bool false))) else bif (b5 != b8) then zaM (za2 [.agg [.sl 3 l3,.sl 5 l4],.agg [.sl 3 l6,.sl 5 l7]]) false [(false,[.bool false])] fun b11=>bif b11 then some (.v (.cell (.bool (b5==b8)))) else some (.v (.cell (.bool false))) else bif (!b5) then zaM (za2 [.agg [.sl 3 l3,.sl 5 l4],.agg [.sl 3 l6,.sl 5 l7]]) false [(false,[.bool false])] fun b12=>bif b12 then some (.v (.cell (.bool (b5==b8)))) else some (.v (.cell (.bool false))) else zaM (zkV [.agg [.sl 3 l3,.sl 5 l4]]) true [(true,[.sl 3 [],.sl 5 []]),(false,[.bool false])] fun l13 l14 b15=>bif b15 then zaM (za2 [.agg [.sl 3 l13,.sl 5 l14],.agg [.sl 3 l3,.sl 5 l4]]) false [(false,[.bool false])] fun b16=>some (.v (.cell (.bool b16))) else some (.v (.cell (.bool false))):Option AV)=some r):evM zd6 100000 (.run (zgO 3 (cOf Tryz.f5))) [] [(3,.box [.sl 3 l1,.sl 5 l2])]=some r:=Eq.trans (by kernel_rfl) h
theorem znh:(zct zaj lay sig (zgO 3 (cOf Tryz.f5)) (stM 57)).isSome=true:=by kernel_rfl
def FnFoldTwiceR0:Code:=.region 0 #[⟨some 2,.assign (.const (.bool false)),4,"laws.go:3573",#[],none⟩] false
def FnFoldTwiceR1:Code:=.region 1 #[⟨some 10,.move (.tmp 0),22,"laws.go:3574",#[],none⟩,⟨some 11,.call ⟨.builtin .len,#[.tmp 10],#[22]⟩,3,"laws.go:3574",#[⟨0,.data⟩],none⟩,⟨some 12,.binOp .gtr 3 (.tmp 11) (.const (.int .i64 1048576)) 3,4,"laws.go:3574",#[⟨1,.data⟩],none⟩] false
def ztd:Code:=.region 2 #[⟨some 2,.assign (.const (.bool true)),4,"laws.go:3575",#[],none⟩] false
def FnFoldTwiceR3:Code:=.region 3 #[⟨some 13,.move (.tmp 0),22,"laws.go:3577",#[],none⟩,⟨some 14,.call ⟨.value (.func 13),#[.tmp 13],#[22]⟩,26,"laws.go:3577",#[⟨0,.data⟩],none⟩,⟨some 3,.alloc 26,0,"laws.go:3577",#[],none⟩,⟨none,.store 26 (.tmp 3) (.tmp 14),0,"laws.go:3577",#[⟨2,.data⟩,⟨1,.data⟩,⟨1,.chain⟩,⟨0,.phase⟩,⟨1,.phase⟩,⟨2,.phase⟩],none⟩] false
theorem zpc:cOf Tryz.f5=.seq FnFoldTwiceR0 (.seq (.seq FnFoldTwiceR1 (.cond (.tmp 12) (.seq ztd .ret) .skip)) (.seq FnFoldTwiceR3 (zgO 3 (cOf Tryz.f5)))):=by kernel_rfl
theorem zic {m:Array Value} (h:m.size=57):m=List.toArray (sM m 0::sM m 1::sM m 2::sM m 3::sM m 4::sM m 5::sM m 6::sM m 7::sM m 8::sM m 9::sM m 10::sM m 11::sM m 12::sM m 13::sM m 14::sM m 15::sM m 16::sM m 17::sM m 18::sM m 19::sM m 20::sM m 21::sM m 22::sM m 23::sM m 24::sM m 25::sM m 26::sM m 27::sM m 28::sM m 29::sM m 30::sM m 31::sM m 32::sM m 33::sM m 34::sM m 35::sM m 36::sM m 37::sM m 38::sM m 39::sM m 40::sM m 41::sM m 42::sM m 43::sM m 44::sM m 45::sM m 46::sM m 47::sM m 48::sM m 49::sM m 50::sM m 51::sM m 52::sM m 53::sM m 54::sM m 55::sM m 56::[]):=by
 apply Array.ext'
 have h1:m.toList=(List.range 57).map (fun i=>m.getD i undef):=by
  apply List.ext_getElem
  ·simp[h]
  ·intro i h1 h2
   simp only[Array.length_toList] at h1;simp[Array.getD,h1]
 exact h1.trans rfl
set_option maxHeartbeats 4000000 in
theorem zqO {m:Array Value}{A:Option Addr}{n c:Nat}{w:World}  (hs:m.size=57) (m0:m.getD 0 undef=.slice A n c) (Q:Exit→Act→World→Prop) (hQ:∀a':Act,a'.defers=[]→a'.tmps.size=57→a'.tmps.getD 0 undef=.slice A n c→Q .normal a' (w)) :
 FnFoldTwiceR0.wp Tryz.prog Q {tmps:=m,defers:=[]} w:=by
 have e:=zic hs
 rw[show sM m 0=_ from m0] at e;rw[e];clear e;unfold FnFoldTwiceR0
 go_wp2
 exact hQ _ rfl rfl rfl
set_option maxHeartbeats 4000000 in
theorem zqv {m:Array Value}{A:Option Addr}{n c:Nat}{w:World} (hn:¬(1048576:Int)<(n:Int)) (hs:m.size=57) (m0:m.getD 0 undef=.slice A n c) (Q:Exit→Act→World→Prop) (hQ:∀a':Act,a'.defers=[]→a'.tmps.size=57→a'.tmps.getD 0 undef=.slice A n c→a'.tmps.getD 12 undef=.bool false→Q .normal a' (w)) :
 FnFoldTwiceR1.wp Tryz.prog Q {tmps:=m,defers:=[]} w:=by
 have e:=zic hs
 rw[show sM m 0=_ from m0] at e;rw[e];clear e;unfold FnFoldTwiceR1
 go_wp2
 exact hQ _ rfl rfl rfl rfl
set_option maxHeartbeats 4000000 in
theorem zqw {m:Array Value}{A:Option Addr}{n c:Nat}{w:World}{post:Option Addr→Nat→Nat→Option Addr→Nat→Nat→World→Prop} (hcall:Calls Tryz.prog 13 #[.slice A n c] w fun e w'=>∃D1 d1 d2 E1 e1 e2,e=.returned (.agg #[.slice D1 d1 d2,.slice E1 e1 e2])∧post D1 d1 d2 E1 e1 e2 w') (hs:m.size=57) (m0:m.getD 0 undef=.slice A n c) (Q:Exit→Act→World→Prop) (hQ:∀D1 d1 d2 E1 e1 e2 (w':World),post D1 d1 d2 E1 e1 e2 w'→∀a':Act,a'.defers=[]→a'.tmps.size=57→a'.tmps.getD 0 undef=.slice A n c→a'.tmps.getD 3 undef=.pointer (some ⟨w'.heap.size,0,none⟩)→Q .normal a' (w'.alloc (.cells #[.slice D1 d1 d2,.slice E1 e1 e2] 26))) :
 FnFoldTwiceR3.wp Tryz.prog Q {tmps:=m,defers:=[]} w:=by
 have e:=zic hs
 rw[show sM m 0=_ from m0] at e;rw[e];clear e;unfold FnFoldTwiceR3
 go_wp2_with fail
 refine hcall.mono ?_
 rintro e w' ⟨D1,d1,d2,E1,e1,e2,rfl,hp⟩
 go_wp2
 exact hQ _ _ _ _ _ _ _ hp _ rfl rfl rfl rfl
set_option maxHeartbeats 4000000 in
theorem zne (hval:∀(ds fs:List (List AC)),zyP ds fs→evM zd6 100000 (.run (zgO 3 (cOf Tryz.f5))) [] [(3,.box [.sl 3 ds,.sl 5 fs])]=some (.v (.cell (.bool true))))
  (hdraw:∀(A:Option Addr) (n c:Nat) (w:World),znm w A n c→Calls Tryz.prog 13 #[.slice A n c] w fun e w'=>∃v,e=.returned v∧zpw w v w')
  (A:Option Addr) (n c:Nat) (w:World) (h:znm w A n c):Calls Tryz.prog 5 #[.slice A n c] w fun e w'=>e=.returned (.bool true)∧Below w.heap.size w w':=by
 by_cases hbig:1048576<n
 ·go_enter Tryz.func5,Tryz.ntmps5
  go_wp2_with fail
  go_ret
  exact⟨rfl,Below.refl _ _⟩
 ·refine calls_of_wp Tryz.func5 (c:=cOf Tryz.f5) (by kernel_rfl) ?_
  rw[zpc];have hs0:(#[Value.slice A n c]++Array.replicate (Tryz.f5.ntmps-(#[.slice A n c]:Array Value).size) undef).size=57:=by simp[Tryz.ntmps5]
  have h0:(#[Value.slice A n c]++Array.replicate (Tryz.f5.ntmps-(#[.slice A n c]:Array Value).size) undef).getD 0 undef=Value.slice A n c:=by simp[Array.getD]
  generalize (#[Value.slice A n c]++Array.replicate (Tryz.f5.ntmps-(#[.slice A n c]:Array Value).size) undef)=m0 at hs0 h0
  refine wp_seq (zqO hs0 h0 _ fun a1 hd1 hs1 h1=>?_)
  obtain⟨m1,dd⟩:=a1;have hd1:dd=[]:=hd1
  subst hd1;refine wp_seq (wp_seq (zqv (by omega) hs1 h1 _ fun a2 hd2 hs2 h2 h29=>?_))
  obtain⟨m2,dd⟩:=a2;have hd2:dd=[]:=hd2
  subst hd2;refine wp_cond (t:=false) h29 ?_
  simp only[Bool.false_eq_true,if_false];refine wp_skip ?_
  show Code.wp _ (.seq FnFoldTwiceR3 (zgO 3 (cOf Tryz.f5))) _ ⟨m2,[]⟩ w
  refine wp_seq (zqw (post:=fun D1 d1 d2 E1 e1 e2 w'=>zpw w (.agg #[.slice D1 d1 d2,.slice E1 e1 e2]) w') ?_ hs2 h2 _ ?_)
  ·refine(hdraw A n c w h).mono ?_
   rintro e w' ⟨v,rfl,N,p',D1,d1,d2,E1,e1,e2,ds,fs,rfl,hd⟩
   exact⟨_,_,_,_,_,_,rfl,N,p',D1,d1,d2,E1,e1,e2,ds,fs,rfl,hd⟩
  rintro D1 d1 d2 E1 e1 e2 w1 ⟨N,p1,D1',d1',d2',E1',e1',e2',ds,fs,hv,hrep,hrep2,hf,hev,hz⟩ a3 hd3 hs3 h3 h33
  injection hv with hv
  have hv:=congrArg Array.toList hv
  obtain⟨⟨rfl,rfl,rfl⟩,rfl,rfl,rfl⟩:(D1=D1'∧d1=d1'∧d2=d2')∧E1=E1'∧e1=e1'∧e2=e2':=by simpa using hv
  obtain⟨m3,dd⟩:=a3;have hd3:dd=[]:=hd3
  subst hd3;have hs3:m3.size=57:=hs3
  have h33:m3.getD 3 undef=.pointer (some ⟨w1.heap.size,0,none⟩):=h33
  have hea:=zbi (p:=p1) (w:=w1) (.cells #[.slice D1 d1 d2,.slice E1 e1 e2] 26) 0 (fun _=>False)
  have hx:=heap_alloc_new w1 (.cells #[.slice D1 d1 d2,.slice E1 e1 e2] 26)
  have hz1:Zp (upP p1 w1.heap.size 0) (w1.alloc (.cells #[.slice D1 d1 d2,.slice E1 e1 e2] 26)):=⟨fun c hc=>by
   rw[zb9];split
   ·rfl
   ·exact hz.1 c (by simp at hc;omega),fun _ _ _=>trivial⟩
  have hE:=hev.trans hea (C:=fun _=>False) (fun _ _ h=>h) (fun _ _ h=>h)
  have hr1:=hrep.evo hea
  have hr2:=hrep2.evo hea
  have hK:zvn (upP p1 w1.heap.size 0) (w1.alloc (.cells #[.slice D1 d1 d2,.slice E1 e1 e2] 26)) m3 57 [(3,.box [.sl 3 ds,.sl 5 fs])] (fun x=>w.heap.size≤x):=by
   have look:∀t x,List.lookup t [(3,.box [.sl 3 ds,.sl 5 fs])]=some x→(t=3∧x=AV.box [.sl 3 ds,.sl 5 fs])∨False:=fun t x hx=>by
    simp only[List.lookup_cons] at hx;by_cases h3:t=3
    ·subst h3;simp at hx;exact .inl ⟨rfl,hx.symm⟩
    rw[show(t==3)=false by simpa using h3] at hx
    simp at hx
   refine⟨fun t x hx'=>?_,fun t x hx'=>?_,fun t t' cs cs' x ht h1 h2 h3 h4=>?_⟩
   ·rcases look t x hx' with ⟨rfl,rfl⟩|h
    ·exact⟨by omega,_,_,_,h33,hx,hr1,hr2,trivial⟩
    ·exact h.elim
   ·rcases look t x hx' with ⟨rfl,rfl⟩|h
    ·exact .inr ⟨_,_,rfl,h33,by rw[zb9,if_pos rfl],hev.size⟩
    ·exact h.elim
   ·rcases look _ _ h1 with ⟨rfl,_⟩|h
    ·rcases look _ _ h2 with ⟨rfl,_⟩|h
     ·exact ht rfl
     ·exact h.elim
    ·exact h.elim
  obtain⟨O,hO⟩:=Option.isSome_iff_exists.1 znh;have hI:=zrx hs3 hK hz1 (fun x hx=>Nat.le_trans hE.size hx)
  refine zgZ (zwk (X:=zd6) (a:={tmps:=m3,defers:=[]}) ze1 zh3 vok (hval ds fs hf) (zeP _ _ _) (zt3 fun t x hx=>(hK.lt t x hx).1) hO hI rfl hE) ?_
  rintro e w' ⟨v,rfl,p',hsr,_,_,hev',hz'⟩
  have hsr:Rep p' w' v (.bool true):=hsr
  cases hsr;exact⟨rfl,hev'.os,hev'.tape,hev'.output,hev'.size,fun b hb=>hev'.block b hb (fun h=>h)⟩
end
section
open Go Go.RowKit
theorem zEW {D:List DM}{R:List PM} (h:VP D R):TP D R:=⟨h.cp,fun k hk=>⟨h.small k hk,h.ht k hk⟩⟩
theorem ztn {ds fs:List (List AC)} (hp:zyP ds fs) :
  evM zd6 100000 (.run (zgO 3 (cOf Tryz.f5))) [] [(3,.box [.sl 3 ds,.sl 5 fs])]=some (.v (.cell (.bool true))):=by
 obtain⟨D,R,rfl,rfl,hi⟩:=zBS hp.1;obtain⟨b,h1,h2,h3⟩:=zyj hi;cases b with
 | false =>
  exact zei (zdU (zlu (zas h1 (zab rfl rfl))) (zdU (zlt (zas h2 (zab rfl rfl))) (zas zdm (zaa rfl (zaa rfl (zab rfl (zas zdm (zab rfl rfl))))))))
 | true =>
  have hvp:=h3 rfl
  have ht:=zEW hvp
  have g1:=zxm ht h1
  have g2:=zAQ ht h2
  rcases hok:okB (zec R (fdP D)) with _|_
  ·rw[hok] at g1 g2
   exact zei (zdU g1 (zdU g2 (zas zdm (zaa rfl (zaa rfl (zab rfl (zas zdm (zab rfl rfl))))))))
  ·rw[hok] at g1 g2
   have ht':=zBW ht hok
   have hv':=zvB ht' hi.d (by rw[ztX znc];exact hvp.sg)
   have g3:=zxm ht' hv'
   rw[zyn ht hok,hok] at g3;exact zei (zdU g1 (zdU g2 (zas (zsn ht') (zaa rfl (zaa rfl (zaa rfl (zdU g3 (zab rfl (zas (zsn ht') rfl)))))))))
theorem zpS (A:Option Addr) (n c:Nat) (w:World) (h:znm w A n c):Calls Tryz.prog 5 #[.slice A n c] w fun e w'=>e=.returned (.bool true)∧Below w.heap.size w w' :=
 zne (fun _ _ hp=>ztn hp) (fun _ _ _ _ h=>zn7 h) A n c w h
end
end Go.Proofs.YtkgbadeobdbinaaGreat

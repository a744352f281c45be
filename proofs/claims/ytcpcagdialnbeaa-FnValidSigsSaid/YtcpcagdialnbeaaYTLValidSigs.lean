/- What this law needs beside: its draw, its rest over values, its models. -/
import Derived.Test.YtcpcagdialnbeaaY35
import Derived.WalkKit
set_option linter.unusedVariables false
set_option linter.unusedSimpArgs false
set_option maxRecDepth 100000
namespace Go.Proofs.Ytcpcagdialnbeaa
open Go Go.RowKit
noncomputable def znh (x:List SV):Option AV:=V Try.prog lay sig.has ext 11 x
noncomputable def X_laws_FnValidSigs:Ctx:={ P:=Try.prog,L:=lay,F:=sig.has,E:=ext,fn:=Try.f3,lv:=[(0,[3,5])],jv:=[],tp:=[] }
noncomputable def zct (l7:List (List AC)) (l8:List (List AC)) (n9:Int):Option AV:=GL X_laws_FnValidSigs 0 [(3,.box [.sl 3 l7,.sl 5 l8]),(5,.v (.cell (.int n9)))]
theorem zee {l7:List (List AC)} {l8:List (List AC)} {n9:Int} {r:AV} (h:( bif (decide (n9 < ((l8.length:Nat):Int))) then za8 (znh [.agg [.sl 3 l7,.sl 5 l8],.cell (.int n9),.agg [.int 99,.int 0,.sl 3 []]]) false [(true,[.sl 3 [],.sl 5 []])] fun l10 l11 => za8 (zeA [.agg [.sl 3 l10,.sl 5 l11]]) false [(false,[.bool false])] fun b12 => bif (!b12) then some (.v (.cell (.bool false))) else zct l7 l8 (zag (n9 + 1)) else bif (decide (((l8.length:Nat):Int) ≥ 1)) then bif (decide (((l8.length:Nat):Int) ≤ 4)) then zgI l8 0 [.sl 1 [],.int 0,.int 0,.int 0,.sl 3 []] fun l13 n14 n15 n16 l17 => some (.v (.cell (.bool (((l13.length:Nat):Int) == 0)))) else some (.v (.cell (.bool false))) else some (.v (.cell (.bool false))):Option AV) = some r):zct l7 l8 n9 = some r:=zwM (X:=X_laws_FnValidSigs) (n:=100000) (by kernel_rfl) (by kernel_rfl:(X_laws_FnValidSigs.fn.body.bind fun c => zfl 0 c []) = some (.loop (zi9 (X_laws_FnValidSigs.fn.body.bind fun c => zfl 0 c [])),zqj (X_laws_FnValidSigs.fn.body.bind fun c => zfl 0 c []))) (Eq.trans (by kernel_rfl) h)
theorem zhY {l1:List (List AC)} {l2:List (List AC)} {r:AV} (h:( za8 (zeA [.agg [.sl 3 l1,.sl 5 l2]]) false [(false,[.bool false])] fun b3 => za8 (zdd [.agg [.sl 3 l1,.sl 5 l2]]) false [(false,[.bool false])] fun b4 => bif (b3 != b4) then za8 (zdd [.agg [.sl 3 l1,.sl 5 l2]]) false [(false,[.bool false])] fun b5 => some (.v (.cell (.bool (b3 == b5)))) else bif (!b3) then za8 (zdd [.agg [.sl 3 l1,.sl 5 l2]]) false [(false,[.bool false])] fun b6 => some (.v (.cell (.bool (b3 == b6)))) else zct l1 l2 0:Option AV) = some r):evM X_laws_FnValidSigs 100000 (.run (zhj 3 (cOf Try.f3))) [] [(3,.box [.sl 3 l1,.sl 5 l2])] = some r:=Eq.trans (by kernel_rfl) h
theorem ziI:(zbU zam lay sig (zhj 3 (cOf Try.f3)) (stM 57)).isSome = true:=by kernel_rfl
def FnValidSigsR0:Code:=.region 0 #[⟨some 2,.assign (.const (.bool false)),4,"laws.go:560",#[],none⟩] false
def FnValidSigsR1:Code:=.region 1 #[⟨some 6,.move (.tmp 0),22,"laws.go:561",#[],none⟩,⟨some 7,.call ⟨.builtin .len,#[.tmp 6],#[22]⟩,3,"laws.go:561",#[⟨0,.data⟩],none⟩,⟨some 8,.binOp .gtr 3 (.tmp 7) (.const (.int .i64 1048576)) 3,4,"laws.go:561",#[⟨1,.data⟩],none⟩] false
def znf:Code:=.region 2 #[⟨some 2,.assign (.const (.bool true)),4,"laws.go:562",#[],none⟩] false
def FnValidSigsR3:Code:=.region 3 #[⟨some 9,.move (.tmp 0),22,"laws.go:564",#[],none⟩,⟨some 10,.call ⟨.value (.func 8),#[.tmp 9],#[22]⟩,26,"laws.go:564",#[⟨0,.data⟩],none⟩,⟨some 3,.alloc 26,0,"laws.go:564",#[],none⟩,⟨none,.store 26 (.tmp 3) (.tmp 10),0,"laws.go:564",#[⟨2,.data⟩,⟨1,.data⟩,⟨1,.chain⟩,⟨0,.phase⟩,⟨1,.phase⟩,⟨2,.phase⟩],none⟩] false
theorem zkH:cOf Try.f3 = .seq FnValidSigsR0 (.seq (.seq FnValidSigsR1 (.cond (.tmp 8) (.seq znf .ret) .skip)) (.seq FnValidSigsR3 (zhj 3 (cOf Try.f3)))):=by kernel_rfl
theorem zfg {m:Array Value} (h:m.size = 57):m = List.toArray (sM m 0 :: sM m 1 :: sM m 2 :: sM m 3 :: sM m 4 :: sM m 5 :: sM m 6 :: sM m 7 :: sM m 8 :: sM m 9 :: sM m 10 :: sM m 11 :: sM m 12 :: sM m 13 :: sM m 14 :: sM m 15 :: sM m 16 :: sM m 17 :: sM m 18 :: sM m 19 :: sM m 20 :: sM m 21 :: sM m 22 :: sM m 23 :: sM m 24 :: sM m 25 :: sM m 26 :: sM m 27 :: sM m 28 :: sM m 29 :: sM m 30 :: sM m 31 :: sM m 32 :: sM m 33 :: sM m 34 :: sM m 35 :: sM m 36 :: sM m 37 :: sM m 38 :: sM m 39 :: sM m 40 :: sM m 41 :: sM m 42 :: sM m 43 :: sM m 44 :: sM m 45 :: sM m 46 :: sM m 47 :: sM m 48 :: sM m 49 :: sM m 50 :: sM m 51 :: sM m 52 :: sM m 53 :: sM m 54 :: sM m 55 :: sM m 56 :: []):=by
 apply Array.ext'
 have h1:m.toList = (List.range 57).map (fun i => m.getD i undef):=by
  apply List.ext_getElem
  ·simp [h]
  ·intro i h1 h2
   simp only [Array.length_toList] at h1
   simp [Array.getD,h1]
 exact h1.trans rfl
set_option maxHeartbeats 4000000 in
theorem zk9 {m:Array Value} {A:Option Addr} {n c:Nat} {w:World}  (hs:m.size = 57) (m0:m.getD 0 undef = .slice A n c) (Q:Exit → Act → World → Prop) (hQ:∀ a':Act,a'.defers = [] → a'.tmps.size = 57 → a'.tmps.getD 0 undef = .slice A n c → Q .normal a' (w)) :
 FnValidSigsR0.wp Try.prog Q { tmps:=m,defers:=[] } w:=by
 have e:=zfg hs
 rw [show sM m 0 = _ from m0] at e
 rw [e]
 clear e
 unfold FnValidSigsR0
 go_wp2
 exact hQ _ rfl rfl rfl
set_option maxHeartbeats 4000000 in
theorem zli {m:Array Value} {A:Option Addr} {n c:Nat} {w:World} (hn:¬ (1048576:Int) < (n:Int)) (hs:m.size = 57) (m0:m.getD 0 undef = .slice A n c) (Q:Exit → Act → World → Prop) (hQ:∀ a':Act,a'.defers = [] → a'.tmps.size = 57 → a'.tmps.getD 0 undef = .slice A n c → a'.tmps.getD 8 undef = .bool false → Q .normal a' (w)) :
 FnValidSigsR1.wp Try.prog Q { tmps:=m,defers:=[] } w:=by
 have e:=zfg hs
 rw [show sM m 0 = _ from m0] at e
 rw [e]
 clear e
 unfold FnValidSigsR1
 go_wp2
 exact hQ _ rfl rfl rfl rfl
set_option maxHeartbeats 4000000 in
theorem zlq {m:Array Value} {A:Option Addr} {n c:Nat} {w:World} {post:Option Addr → Nat → Nat → Option Addr → Nat → Nat → World → Prop} (hcall:Calls Try.prog 8 #[.slice A n c] w fun e w' => ∃ D1 d1 d2 E1 e1 e2,e = .returned (.agg #[.slice D1 d1 d2,.slice E1 e1 e2]) ∧ post D1 d1 d2 E1 e1 e2 w') (hs:m.size = 57) (m0:m.getD 0 undef = .slice A n c) (Q:Exit → Act → World → Prop) (hQ:∀ D1 d1 d2 E1 e1 e2 (w':World),post D1 d1 d2 E1 e1 e2 w' → ∀ a':Act,a'.defers = [] → a'.tmps.size = 57 → a'.tmps.getD 0 undef = .slice A n c → a'.tmps.getD 3 undef = .pointer (some ⟨w'.heap.size,0,none⟩) → Q .normal a' (w'.alloc (.cells #[.slice D1 d1 d2,.slice E1 e1 e2] 26))) :
 FnValidSigsR3.wp Try.prog Q { tmps:=m,defers:=[] } w:=by
 have e:=zfg hs
 rw [show sM m 0 = _ from m0] at e
 rw [e]
 clear e
 unfold FnValidSigsR3
 go_wp2_with fail
 refine hcall.mono ?_
 rintro e w' ⟨D1,d1,d2,E1,e1,e2,rfl,hp⟩
 go_wp2
 exact hQ _ _ _ _ _ _ _ hp _ rfl rfl rfl rfl
set_option maxHeartbeats 4000000 in
theorem ziK (hval:∀ (ds fs:List (List AC)),zvD ds fs → evM X_laws_FnValidSigs 100000 (.run (zhj 3 (cOf Try.f3))) [] [(3,.box [.sl 3 ds,.sl 5 fs])] = some (.v (.cell (.bool true))))
  (hdraw:∀ (A:Option Addr) (n c:Nat) (w:World),znJ w A n c → Calls Try.prog 8 #[.slice A n c] w fun e w' => ∃ v,e = .returned v ∧ zoo w v w')
  (A:Option Addr) (n c:Nat) (w:World) (h:znJ w A n c):Calls Try.prog 3 #[.slice A n c] w fun e w' => e = .returned (.bool true) ∧ Below w.heap.size w w':=by
 by_cases hbig:1048576 < n
 ·go_enter Try.func3,Try.ntmps3
  go_wp2_with fail
  go_ret
  exact ⟨rfl,Below.refl _ _⟩
 ·refine calls_of_wp Try.func3 (c:=cOf Try.f3) (by kernel_rfl) ?_
  rw [zkH]
  have hs0:(#[Value.slice A n c] ++ Array.replicate (Try.f3.ntmps - (#[.slice A n c]:Array Value).size) undef).size = 57:=by simp [Try.ntmps3]
  have h0:(#[Value.slice A n c] ++ Array.replicate (Try.f3.ntmps - (#[.slice A n c]:Array Value).size) undef).getD 0 undef = Value.slice A n c:=by simp [Array.getD]
  generalize (#[Value.slice A n c] ++ Array.replicate (Try.f3.ntmps - (#[.slice A n c]:Array Value).size) undef) = m0 at hs0 h0
  refine wp_seq (zk9 hs0 h0 _ fun a1 hd1 hs1 h1 => ?_)
  obtain ⟨m1,dd⟩:=a1
  have hd1:dd = []:=hd1
  subst hd1
  refine wp_seq (wp_seq (zli (by omega) hs1 h1 _ fun a2 hd2 hs2 h2 h29 => ?_))
  obtain ⟨m2,dd⟩:=a2
  have hd2:dd = []:=hd2
  subst hd2
  refine wp_cond (t:=false) h29 ?_
  simp only [Bool.false_eq_true,if_false]
  refine wp_skip ?_
  show Code.wp _ (.seq FnValidSigsR3 (zhj 3 (cOf Try.f3))) _ ⟨m2,[]⟩ w
  refine wp_seq (zlq (post:=fun D1 d1 d2 E1 e1 e2 w' => zoo w (.agg #[.slice D1 d1 d2,.slice E1 e1 e2]) w') ?_ hs2 h2 _ ?_)
  ·refine (hdraw A n c w h).mono ?_
   rintro e w' ⟨v,rfl,N,p',D1,d1,d2,E1,e1,e2,ds,fs,rfl,hd⟩
   exact ⟨_,_,_,_,_,_,rfl,N,p',D1,d1,d2,E1,e1,e2,ds,fs,rfl,hd⟩
  rintro D1 d1 d2 E1 e1 e2 w1 ⟨N,p1,D1',d1',d2',E1',e1',e2',ds,fs,hv,hrep,hrep2,hf,hev,hz⟩ a3 hd3 hs3 h3 h33
  injection hv with hv
  have hv:=congrArg Array.toList hv
  obtain ⟨⟨rfl,rfl,rfl⟩,rfl,rfl,rfl⟩:(D1 = D1' ∧ d1 = d1' ∧ d2 = d2') ∧ E1 = E1' ∧ e1 = e1' ∧ e2 = e2':=by simpa using hv
  obtain ⟨m3,dd⟩:=a3
  have hd3:dd = []:=hd3
  subst hd3
  have hs3:m3.size = 57:=hs3
  have h33:m3.getD 3 undef = .pointer (some ⟨w1.heap.size,0,none⟩):=h33
  have hea:=zaI (p:=p1) (w:=w1) (.cells #[.slice D1 d1 d2,.slice E1 e1 e2] 26) 0 (fun _ => False)
  have hx:=heap_alloc_new w1 (.cells #[.slice D1 d1 d2,.slice E1 e1 e2] 26)
  have hz1:Zp (upP p1 w1.heap.size 0) (w1.alloc (.cells #[.slice D1 d1 d2,.slice E1 e1 e2] 26)):=⟨fun c hc => by
   rw [zbh]
   split
   ·rfl
   ·exact hz.1 c (by simp at hc; omega),fun _ _ _ => trivial⟩
  have hE:=hev.trans hea (C:=fun _ => False) (fun _ _ h => h) (fun _ _ h => h)
  have hr1:=hrep.evo hea
  have hr2:=hrep2.evo hea
  have hK:zqR (upP p1 w1.heap.size 0) (w1.alloc (.cells #[.slice D1 d1 d2,.slice E1 e1 e2] 26)) m3 57 [(3,.box [.sl 3 ds,.sl 5 fs])] (fun x => w.heap.size ≤ x):=by
   have look:∀ t x,List.lookup t [(3,.box [.sl 3 ds,.sl 5 fs])] = some x → (t = 3 ∧ x = AV.box [.sl 3 ds,.sl 5 fs]) ∨ False:=fun t x hx => by
    simp only [List.lookup_cons] at hx
    by_cases h3:t = 3
    ·subst h3; simp at hx; exact .inl ⟨rfl,hx.symm⟩
    rw [show (t == 3) = false by simpa using h3] at hx
    simp at hx
   refine ⟨fun t x hx' => ?_,fun t x hx' => ?_,fun t t' cs cs' x ht h1 h2 h3 h4 => ?_⟩
   ·rcases look t x hx' with ⟨rfl,rfl⟩ | h
    ·exact ⟨by omega,_,_,_,h33,hx,hr1,hr2,trivial⟩
    ·exact h.elim
   ·rcases look t x hx' with ⟨rfl,rfl⟩ | h
    ·exact .inr ⟨_,_,rfl,h33,by rw [zbh,if_pos rfl],hev.size⟩
    ·exact h.elim
   ·rcases look _ _ h1 with ⟨rfl,_⟩ | h
    ·rcases look _ _ h2 with ⟨rfl,_⟩ | h
     ·exact ht rfl
     ·exact h.elim
    ·exact h.elim
  obtain ⟨O,hO⟩:=Option.isSome_iff_exists.1 ziI
  have hI:=zp6 hs3 hK hz1 (fun x hx => Nat.le_trans hE.size hx)
  refine zhg (ztc (X:=X_laws_FnValidSigs) (a:={ tmps:=m3,defers:=[] }) zd9 zfn vok (hval ds fs hf) (zd0 _ _ _) (zrH fun t x hx => (hK.lt t x hx).1) hO hI rfl hE) ?_
  rintro e w' ⟨v,rfl,p',hsr,_,_,hev',hz'⟩
  have hsr:Rep p' w' v (.bool true):=hsr
  cases hsr
  exact ⟨rfl,hev'.os,hev'.tape,hev'.output,hev'.size,fun b hb => hev'.block b hb (fun h => h)⟩
end Go.Proofs.Ytcpcagdialnbeaa
namespace Go.Proofs.Ytcpcagdialnbeaa
open Go Go.RowKit
theorem zm3 {ds fs:List (List AC)} (hp:zvD ds fs) :
  evM X_laws_FnValidSigs 100000 (.run (zhj 3 (cOf Try.f3))) [] [(3,.box [.sl 3 ds,.sl 5 fs])] = some (.v (.cell (.bool true))):=by
 obtain ⟨D,R,rfl,rfl,hi⟩:=zxC hp.1
 have hRl:R.length ≤ 10:=by have:=hp.2.2; rwa [zby] at this
 have h1:=zjJ D R hi.d hi.r hi.dl
 have h2:zdd [.agg [.sl 3 (zal D),.sl 5 (zaW R)]] = rB (ziT D R):=zjH (za6 (zoD D R hi.d hi.r hi.dl) rfl)
 refine zhY (za6 h1 (za6 h2 (zab (by simp) ?_)))
 rcases hs:ziT D R with _ | _
 ·rw [hs] at h2
  exact zaf rfl (za6 h2 rfl)
 refine zab rfl ?_
 have hb99:Fit .expr [.int 99,.int 0,.sl 3 []]:=zaj (by omega) (by omega) (by simp) (fun c hc => by cases hc)
 have hsp:=hs
 simp only [ziT,Bool.and_eq_true,decide_eq_true_eq,beq_iff_eq] at hsp
 have key:∀ m k:Nat,k + m = R.length → zct (zal D) (zaW R) (k:Int) = rB true:=by
  intro m
  induction m with
  | zero =>
   intro k hk
   refine zee (zab (decide_eq_false (by rw [zby]; omega)) (zaf (decide_eq_true (by rw [zby]; omega)) (zaf (decide_eq_true (by rw [zby]; omega)) (zaZ (k:=0) rfl (by omega) ?_))))
   rw [zac,hsp.2.2.2.2.1]
   rfl
  | succ m ih =>
   intro k hk
   have hlt:k < R.length:=by omega
   have hset:=zxT hi.r hlt hb99
   have hv:=zjJ D (R.set k ⟨(gP R k).ps,(gP R k).r,99,0,[]⟩) hi.d hset hi.dl
   rw [zrj (ztt hlt),hs] at hv
   refine zee (zaf (decide_eq_true (by rw [zby]; omega)) (zue (zw9 hi.r (by omega) hlt hb99) (za6 hv (zab rfl ?_))))
   rw [wrk (by unfold zbd; omega)]
   exact ih (k + 1) (by omega)
 exact key R.length 0 (by omega)
theorem zkw (A:Option Addr) (n c:Nat) (w:World) (h:znJ w A n c):Calls Try.prog 3 #[.slice A n c] w fun e w' => e = .returned (.bool true) ∧ Below w.heap.size w w' :=
 ziK (fun _ _ hp => zm3 hp) (fun _ _ _ _ h => zjp h) A n c w h
end Go.Proofs.Ytcpcagdialnbeaa

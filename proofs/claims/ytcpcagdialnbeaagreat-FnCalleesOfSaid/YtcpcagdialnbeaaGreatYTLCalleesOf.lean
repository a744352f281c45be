/- What this law needs beside: its draw, its rest over values, its models. -/
import Derived.Test.YtcpcagdialnbeaaGreatY37
import Derived.StillTailTactics
import Derived.Deep.RegionHeld3
import Derived.WalkKit
set_option linter.unusedVariables false
set_option linter.unusedSimpArgs false
namespace Go.Proofs.YtcpcagdialnbeaaGreat
open Go Go.RowKit Go.BigFrame
def zuX (B:Nat) (w0:World) (v:Value) (w':World):Prop:=∃ N p' D1 d1 d2 E1 e1 e2 ds fs,v = .agg #[.slice D1 d1 d2,.slice E1 e1 e2] ∧ Rep p' w' (.slice D1 d1 d2) (.sl 3 ds) ∧ Rep p' w' (.slice E1 e1 e2) (.sl 5 fs) ∧ zod ds fs ∧ Evo (fun _ => False) (zkO B N) w0 p' w' ∧ Zp p' w'
set_option maxHeartbeats 4000000 in
theorem ziG {B:Nat} {A:Option Addr} {n c:Nat} {w:World} (hB:B ≤ w.heap.size) (h:CodeB B w A n c) :
  Calls Tryz.prog 10 #[.slice A n c] w fun e w' => ∃ v y,e = .returned (.tuple #[v,.int .i64 y]) ∧ (y ∈ ([0,1,2,3,0,-1,4]:List Int)) ∧ zuX B w v w':=by
 have hnr:=znU (B:=B) (w:=w.alloc (.cells #[.slice none 0 0,.slice none 0 0] 26)) (by simp; omega) (CodeB.alloc h hB _)
 have HR:=Lib.hid hnr
 clear hnr h
 go_enter Tryz.func10,Tryz.ntmps10
 go_wp2_with fail
 refine HR.out.mono ?_
 rintro e w2 ⟨rfl,N,ns,hns,ht,hs2,hev⟩
 have hev0:=(zgp B N w (.cells #[.slice none 0 0,.slice none 0 0] 26) (fun _ => False)).trans (hev (fun _ => False)) (C:=fun _ => False) (fun _ _ h => h) (fun _ _ h => h)
 have hx2:=((hev (fun _ => False)).block w.heap.size (by simp) (fun h => h)).trans (heap_alloc_new w (.cells #[.slice none 0 0,.slice none 0 0] 26))
 have hs1:(w.alloc (.cells #[.slice none 0 0,.slice none 0 0] 26)).heap.size = w.heap.size + 1:=by simp
 rw [hs1] at ht hs2 ⊢
 have hse:=zmx hns (by omega) (zwN (by omega) N) ht
 have HS:=Lib.hid hse
 have HE:=Lib.hid hev0
 clear hse hev0 hev HR ht
 go_wp2_with fail
 refine HS.out.mono ?_
 rintro e w3 ⟨D1,d1,d2,E1,e1,e2,p3,ds,fs,pos,rfl,r0,r1,hf,hev3,hz3,ht3,hpos⟩
 have hne:w.heap.size ≠ w.heap.size + 1:=by omega
 have hb3:=ht3.lt
 have hx3:=(hev3.block w.heap.size (by omega) hne).trans hx2
 have hp3:=(hev3.same w.heap.size (by omega) hne).trans (zh7 hB)
 have hea:=zaO (p:=p3) (w:=w3) (.cells #[.slice D1 d1 d2,.slice E1 e1 e2] 26) 0 (fun _ => False)
 have hz4:Zp (upP p3 w3.heap.size 0) (w3.alloc (.cells #[.slice D1 d1 d2,.slice E1 e1 e2] 26)):=⟨fun c hc => by
  rw [zby]
  split
  ·rfl
  ·exact hz3.1 c (by simp at hc; omega),fun _ _ _ => trivial⟩
 have hx4:=(hea.block w.heap.size (by omega) (fun h => h)).trans hx3
 have hp4:=(hea.same w.heap.size (by omega) (fun h => h)).trans hp3
 have hx5:=heap_alloc_new w3 (.cells #[.slice D1 d1 d2,.slice E1 e1 e2] 26)
 have hs4:(w3.alloc (.cells #[.slice D1 d1 d2,.slice E1 e1 e2] 26)).heap.size = w3.heap.size + 1:=by simp
 have hE4:=(HE.out.trans hev3 (C:=fun _ => False) (fun _ _ h => h) (fun q hq e => absurd hq (by have:q = w.heap.size + 1:=e; omega))).trans hea (C:=fun _ => False) (fun _ _ h => h) (fun _ _ h => h)
 have t4:=r0.evo hea
 have t5:=r1.evo hea
 have ht4:=ht3.evo hea
 have c0:(w3.alloc (.cells #[.slice D1 d1 d2,.slice E1 e1 e2] 26)).cell? ⟨w3.heap.size,0,none⟩ = some (.slice D1 d1 d2):=zam (j:=0) hx5 rfl
 have c1:(w3.alloc (.cells #[.slice D1 d1 d2,.slice E1 e1 e2] 26)).cell? ⟨w3.heap.size,1,none⟩ = some (.slice E1 e1 e2):=zam (j:=1) hx5 rfl
 have n1:w3.heap.size ≠ w.heap.size + 1:=by omega
 have n2:w.heap.size ≠ w3.heap.size:=by omega
 clear hea HS HE r0 r1 ht3 hz3 hev3 hx2 hx3 hp3 hs2 hs1
 go_wp2_with fail
 have h5lt:w3.heap.size < (w3.alloc (.cells #[.slice D1 d1 d2,.slice E1 e1 e2] 26)).heap.size:=by omega
 have h2lt:w.heap.size < (w3.alloc (.cells #[.slice D1 d1 d2,.slice E1 e1 e2] 26)).heap.size:=by omega
 clear hs4
 generalize w3.alloc (.cells #[.slice D1 d1 d2,.slice E1 e1 e2] 26) = W at *
 generalize upP p3 w3.heap.size 0 = p4 at *
 generalize w3.heap.size = c5 at *
 obtain ⟨y,hy,hone⟩:=zgn hns (pos:=pos) (by omega) 3 (xs:=[0,1,2,3,0,-1,4]) (by simp) (by simp) hz4 ht4
 have CK:Hid (Calls Tryz.prog 40 #[.pointer (some ⟨w.heap.size + 1,0,none⟩),.slice (some ⟨W.heap.size,0,none⟩) 7 7] (W.drew.alloc (.cells #[.int .i64 0,.int .i64 1,.int .i64 2,.int .i64 3,.int .i64 0,.int .i64 (-1),.int .i64 4] 3)) fun e w' => e = .returned (.int .i64 y) ∧ ∃ p',Evo (· = w.heap.size + 1) p4 W p' w' ∧ Zp p' w'):=Lib.hid (by
  refine Calls.mono (hone _ (.inr rfl)) ?_
  rintro e w' ⟨h1,p',h2,h3,_⟩
  exact ⟨h1,p',h2,h3⟩)
 have H4:=Lib.hid hE4
 have H5:=Lib.hid t4
 have H6:=Lib.hid t5
 clear hone hE4 t4 t5 hz4 ht4
 go_region_held3 (fun w' => w'.cell? ⟨c5,0,none⟩ = some (.slice D1 d1 d2) ∧ w'.cell? ⟨c5,1,none⟩ = some (.slice E1 e1 e2))
  (first | go_keep | (exact ⟨by assumption,by assumption⟩) | (exact ⟨(World.cell?_alloc_lt _ _ _ h5lt).trans c0,(World.cell?_alloc_lt _ _ _ h5lt).trans c1⟩) | (exact ⟨by rw [World.cell?_setCell_far _ _ _ _ n2,World.cell?_setCell_far _ _ _ _ n2]; assumption,by rw [World.cell?_setCell_far _ _ _ _ n2,World.cell?_setCell_far _ _ _ _ n2]; assumption⟩))
  (first | (go_at_call 40; refine CK.out.mono ?_; rintro e w' ⟨rfl,p',hev',hz'⟩; have q2:=(hev'.block _ h2lt hne).trans hx4; have e0:w'.cell? ⟨c5,0,none⟩ = some (.slice D1 d1 d2):=(World.cell?_of_block (hev'.block _ h5lt n1)).trans c0; have e1':w'.cell? ⟨c5,1,none⟩ = some (.slice E1 e1 e2):=(World.cell?_of_block (hev'.block _ h5lt n1)).trans c1; have k0:w'.cell? ⟨w.heap.size,0,none⟩ = some (.slice none 0 0):=zam (j:=0) q2 rfl; have k1:w'.cell? ⟨w.heap.size,1,none⟩ = some (.slice none 0 0):=zam (j:=1) q2 rfl; have k3:=frozen_of_row w' _ 0 _ _ q2; have k4:=frozen_of_row w' _ 1 _ _ q2))
 have hp5:=(hev'.same _ h2lt hne).trans hp4
 have g2:=zjv (x0:=.slice D1 d1 d2) (x1:=.slice E1 e1 e2) q2
 have y0:=zam (j:=0) g2 rfl
 have y1:=zam (j:=1) g2 rfl
 have hevc:Evo (· = w.heap.size) p' w' p' (zlw w' w.heap.size (.slice D1 d1 d2) (.slice E1 e1 e2)):=zlp p' hp5
 have hfin:zuX B w (.agg #[.slice D1 d1 d2,.slice E1 e1 e2]) (zlw w' w.heap.size (.slice D1 d1 d2) (.slice E1 e1 e2)) :=
  ⟨N,p',D1,d1,d2,E1,e1,e2,ds,fs,rfl,(H5.out.evo hev').evo hevc,(H6.out.evo hev').evo hevc,hf,(H4.out.trans hev' (C:=fun _ => False) (fun _ _ h => h) (fun q hq e => absurd hq (by have:q = w.heap.size + 1:=e; omega))).trans hevc (fun _ _ h => h) (fun q hq e => absurd hq (by have:q = w.heap.size:=e; omega)),⟨fun y hy => hz'.1 y (Nat.le_trans hevc.size hy),fun _ _ _ => trivial⟩⟩
 have HF:=Lib.hid hfin
 clear hfin hevc g2 q2 hev' CK H4 H5 H6 hx4 hx5 c0 c1 e0 e1' k0 k1 k3 k4
 go_wp2_with fail
 refine bodyPost_ret (v:=.tuple #[.agg #[.slice D1 d1 d2,.slice E1 e1 e2],.int .i64 y]) ?_ rfl ⟨_,y,rfl,hy,HF.out⟩
 have y0':(((w'.setCell ⟨w.heap.size,0,none⟩ (.slice D1 d1 d2)).setCell ⟨w.heap.size,1,none⟩ (.slice E1 e1 e2))).cell? ⟨w.heap.size,0,none⟩ = some (.slice D1 d1 d2):=y0
 have y1':(((w'.setCell ⟨w.heap.size,0,none⟩ (.slice D1 d1 d2)).setCell ⟨w.heap.size,1,none⟩ (.slice E1 e1 e2))).cell? ⟨w.heap.size,1,none⟩ = some (.slice E1 e1 e2):=y1
 simp [results,Tryz.results10,go_sem,y0',y1']
theorem zpn {A:Option Addr} {n c:Nat} {w:World} (h:zdi w A n c) :
  Calls Tryz.prog 10 #[.slice A n c] w fun e w' => ∃ v y,e = .returned (.tuple #[v,.int .i64 y]) ∧ (y ∈ ([0,1,2,3,0,-1,4]:List Int)) ∧ zdY w v w':=ziG (Nat.le_refl _) h
end Go.Proofs.YtcpcagdialnbeaaGreat
set_option maxRecDepth 100000
namespace Go.Proofs.YtcpcagdialnbeaaGreat
open Go Go.RowKit
noncomputable def zdb:Ctx:={ P:=Tryz.prog,L:=lay,F:=sig.has,E:=ext,fn:=Tryz.f3,lv:=[],jv:=[],tp:=[] }
theorem zho {l1:List (List AC)} {l2:List (List AC)} {n3:Int} {r:AV} (h:( zao (zbA [.agg [.sl 3 l1,.sl 5 l2],.cell (.int n3)]) false [(false,[.sl 1 []])] fun l4 => zao (zcw [.agg [.sl 3 l1,.sl 5 l2],.cell (.int n3)]) false [(false,[.sl 1 []])] fun l5 => zao (za0 [.cell (.sl 1 l4),.cell (.sl 1 l5)]) false [(false,[.bool false])] fun b6 => bif (!b6) then zao (zcw [.agg [.sl 3 l1,.sl 5 l2],.cell (.int n3)]) false [(false,[.sl 1 []])] fun l7 => zao (za0 [.cell (.sl 1 l4),.cell (.sl 1 l7)]) false [(false,[.bool false])] fun b8 => some (.v (.cell (.bool b8))) else bif (((l4.length:Nat):Int) == 0) then zao (zcw [.agg [.sl 3 l1,.sl 5 l2],.cell (.int n3)]) false [(false,[.sl 1 []])] fun l9 => zao (za0 [.cell (.sl 1 l4),.cell (.sl 1 l9)]) false [(false,[.bool false])] fun b10 => some (.v (.cell (.bool b10))) else zao (zg8 [.cell (.sl 1 l4)]) false [(false,[.bool false])] fun b11 => bif b11 then zdZ l4 0 [.int 0] fun n12 => bif (decide (n12 ≥ 0)) then zdZ l4 (zae (((l4.length:Nat):Int) - 1)) [.int 0] fun n13 => bif (decide (n13 < ((l2.length:Nat):Int))) then zao (za3 [.agg [.sl 3 l1,.sl 5 l2],.cell (.int n3)]) false [(false,[.sl 1 []])] fun l14 => zao (zh9 [.cell (.sl 1 l4),.cell (.sl 1 l14)]) false [(false,[.bool false])] fun b15 => some (.v (.cell (.bool b15))) else some (.v (.cell (.bool false))) else some (.v (.cell (.bool false))) else some (.v (.cell (.bool false))):Option AV) = some r):evM zdb 100000 (.run (zbC 3 (cOf Tryz.f3))) [] [(3,.box [.sl 3 l1,.sl 5 l2]),(4,.v (.cell (.int n3)))] = some r:=Eq.trans (by kernel_rfl) h
theorem znH:(zcd zak lay sig (zbC 3 (cOf Tryz.f3)) (stM 60)).isSome = true:=by kernel_rfl
def FnCalleesOfR0:Code:=.region 0 #[⟨some 2,.assign (.const (.bool false)),4,"laws.go:679",#[],none⟩] false
def FnCalleesOfR1:Code:=.region 1 #[⟨some 6,.move (.tmp 0),22,"laws.go:680",#[],none⟩,⟨some 7,.call ⟨.builtin .len,#[.tmp 6],#[22]⟩,3,"laws.go:680",#[⟨0,.data⟩],none⟩,⟨some 8,.binOp .gtr 3 (.tmp 7) (.const (.int .i64 1048576)) 3,4,"laws.go:680",#[⟨1,.data⟩],none⟩] false
def ztV:Code:=.region 2 #[⟨some 2,.assign (.const (.bool true)),4,"laws.go:681",#[],none⟩] false
def FnCalleesOfR3:Code:=.region 3 #[⟨some 10,.move (.tmp 0),22,"laws.go:683",#[],none⟩,⟨some 11,.call ⟨.value (.func 10),#[.tmp 10],#[22]⟩,27,"laws.go:683",#[⟨0,.data⟩],none⟩,⟨some 9,.move (.tmp 11),27,"laws.go:683",#[⟨1,.data⟩],none⟩,⟨some 12,.extract (.tmp 9) 0,26,"laws.go:683",#[⟨2,.data⟩],none⟩,⟨some 13,.extract (.tmp 9) 1,3,"laws.go:683",#[⟨2,.data⟩,{ on:=6,ground:=Go.Ground.gcOnly Go.Departure.lateStores }],none⟩,⟨some 3,.alloc 26,0,"laws.go:683",#[],none⟩,⟨none,.store 26 (.tmp 3) (.tmp 12),0,"laws.go:683",#[⟨5,.data⟩,⟨3,.data⟩,⟨1,.chain⟩,⟨0,.phase⟩,⟨1,.phase⟩,⟨2,.phase⟩,⟨3,.phase⟩,{ on:=4,ground:=Go.Ground.textOnly Go.Departure.lateStores },⟨5,.phase⟩],none⟩,⟨some 4,.assign (.tmp 13),3,"laws.go:683",#[⟨4,.data⟩,⟨6,.chain⟩,⟨0,.phase⟩,⟨1,.phase⟩,⟨2,.phase⟩,⟨3,.phase⟩,⟨4,.phase⟩,⟨5,.phase⟩,⟨6,.phase⟩],none⟩] false
theorem zqc:cOf Tryz.f3 = .seq FnCalleesOfR0 (.seq (.seq FnCalleesOfR1 (.cond (.tmp 8) (.seq ztV .ret) .skip)) (.seq FnCalleesOfR3 (zbC 3 (cOf Tryz.f3)))):=by kernel_rfl
theorem ziI {m:Array Value} (h:m.size = 60):m = List.toArray (sM m 0 :: sM m 1 :: sM m 2 :: sM m 3 :: sM m 4 :: sM m 5 :: sM m 6 :: sM m 7 :: sM m 8 :: sM m 9 :: sM m 10 :: sM m 11 :: sM m 12 :: sM m 13 :: sM m 14 :: sM m 15 :: sM m 16 :: sM m 17 :: sM m 18 :: sM m 19 :: sM m 20 :: sM m 21 :: sM m 22 :: sM m 23 :: sM m 24 :: sM m 25 :: sM m 26 :: sM m 27 :: sM m 28 :: sM m 29 :: sM m 30 :: sM m 31 :: sM m 32 :: sM m 33 :: sM m 34 :: sM m 35 :: sM m 36 :: sM m 37 :: sM m 38 :: sM m 39 :: sM m 40 :: sM m 41 :: sM m 42 :: sM m 43 :: sM m 44 :: sM m 45 :: sM m 46 :: sM m 47 :: sM m 48 :: sM m 49 :: sM m 50 :: sM m 51 :: sM m 52 :: sM m 53 :: sM m 54 :: sM m 55 :: sM m 56 :: sM m 57 :: sM m 58 :: sM m 59 :: []):=by
 apply Array.ext'
 have h1:m.toList = (List.range 60).map (fun i => m.getD i undef):=by
  apply List.ext_getElem
  ·simp [h]
  ·intro i h1 h2
   simp only [Array.length_toList] at h1
   simp [Array.getD,h1]
 exact h1.trans rfl
set_option maxHeartbeats 4000000 in
theorem zrs {m:Array Value} {A:Option Addr} {n c:Nat} {w:World}  (hs:m.size = 60) (m0:m.getD 0 undef = .slice A n c) (Q:Exit → Act → World → Prop) (hQ:∀ a':Act,a'.defers = [] → a'.tmps.size = 60 → a'.tmps.getD 0 undef = .slice A n c → Q .normal a' (w)) :
 FnCalleesOfR0.wp Tryz.prog Q { tmps:=m,defers:=[] } w:=by
 have e:=ziI hs
 rw [show sM m 0 = _ from m0] at e
 rw [e]
 clear e
 unfold FnCalleesOfR0
 go_wp2
 exact hQ _ rfl rfl rfl
set_option maxHeartbeats 4000000 in
theorem zrA {m:Array Value} {A:Option Addr} {n c:Nat} {w:World} (hn:¬ (1048576:Int) < (n:Int)) (hs:m.size = 60) (m0:m.getD 0 undef = .slice A n c) (Q:Exit → Act → World → Prop) (hQ:∀ a':Act,a'.defers = [] → a'.tmps.size = 60 → a'.tmps.getD 0 undef = .slice A n c → a'.tmps.getD 8 undef = .bool false → Q .normal a' (w)) :
 FnCalleesOfR1.wp Tryz.prog Q { tmps:=m,defers:=[] } w:=by
 have e:=ziI hs
 rw [show sM m 0 = _ from m0] at e
 rw [e]
 clear e
 unfold FnCalleesOfR1
 go_wp2
 exact hQ _ rfl rfl rfl rfl
set_option maxHeartbeats 4000000 in
theorem zrm {m:Array Value} {A:Option Addr} {n c:Nat} {w:World} {post:Option Addr → Nat → Nat → Option Addr → Nat → Nat → Int → World → Prop} (hcall:Calls Tryz.prog 10 #[.slice A n c] w fun e w' => ∃ D1 d1 d2 E1 e1 e2 y0,e = .returned (.tuple #[.agg #[.slice D1 d1 d2,.slice E1 e1 e2],.int .i64 y0]) ∧ post D1 d1 d2 E1 e1 e2 y0 w') (hs:m.size = 60) (m0:m.getD 0 undef = .slice A n c) (Q:Exit → Act → World → Prop) (hQ:∀ D1 d1 d2 E1 e1 e2 (y0:Int) (w':World),post D1 d1 d2 E1 e1 e2 y0 w' → ∀ a':Act,a'.defers = [] → a'.tmps.size = 60 → a'.tmps.getD 0 undef = .slice A n c → a'.tmps.getD 3 undef = .pointer (some ⟨w'.heap.size,0,none⟩) → a'.tmps.getD 4 undef = .int .i64 y0 → Q .normal a' (w'.alloc (.cells #[.slice D1 d1 d2,.slice E1 e1 e2] 26))) :
 FnCalleesOfR3.wp Tryz.prog Q { tmps:=m,defers:=[] } w:=by
 have e:=ziI hs
 rw [show sM m 0 = _ from m0] at e
 rw [e]
 clear e
 unfold FnCalleesOfR3
 go_wp2_with fail
 refine hcall.mono ?_
 rintro e w' ⟨D1,d1,d2,E1,e1,e2,y0,rfl,hp⟩
 go_wp2
 exact hQ _ _ _ _ _ _ _ _ hp _ rfl rfl rfl rfl rfl
set_option maxHeartbeats 4000000 in
theorem znD (hval:∀ (ds fs:List (List AC)) (y0:Int),zod ds fs → (y0 ∈ ([0,1,2,3,0,-1,4]:List Int)) → evM zdb 100000 (.run (zbC 3 (cOf Tryz.f3))) [] [(3,.box [.sl 3 ds,.sl 5 fs]),(4,.v (.cell (.int y0)))] = some (.v (.cell (.bool true))))
  (hdraw:∀ (A:Option Addr) (n c:Nat) (w:World),zdi w A n c → Calls Tryz.prog 10 #[.slice A n c] w fun e w' => ∃ v y0,e = .returned (.tuple #[v,.int .i64 y0]) ∧ (y0 ∈ ([0,1,2,3,0,-1,4]:List Int)) ∧ zdY w v w')
  (A:Option Addr) (n c:Nat) (w:World) (h:zdi w A n c):Calls Tryz.prog 3 #[.slice A n c] w fun e w' => e = .returned (.bool true) ∧ Below w.heap.size w w':=by
 by_cases hbig:1048576 < n
 ·go_enter Tryz.func3,Tryz.ntmps3
  go_wp2_with fail
  go_ret
  exact ⟨rfl,Below.refl _ _⟩
 ·refine calls_of_wp Tryz.func3 (c:=cOf Tryz.f3) (by kernel_rfl) ?_
  rw [zqc]
  have hs0:(#[Value.slice A n c] ++ Array.replicate (Tryz.f3.ntmps - (#[.slice A n c]:Array Value).size) undef).size = 60:=by simp [Tryz.ntmps3]
  have h0:(#[Value.slice A n c] ++ Array.replicate (Tryz.f3.ntmps - (#[.slice A n c]:Array Value).size) undef).getD 0 undef = Value.slice A n c:=by simp [Array.getD]
  generalize (#[Value.slice A n c] ++ Array.replicate (Tryz.f3.ntmps - (#[.slice A n c]:Array Value).size) undef) = m0 at hs0 h0
  refine wp_seq (zrs hs0 h0 _ fun a1 hd1 hs1 h1 => ?_)
  obtain ⟨m1,dd⟩:=a1
  have hd1:dd = []:=hd1
  subst hd1
  refine wp_seq (wp_seq (zrA (by omega) hs1 h1 _ fun a2 hd2 hs2 h2 h29 => ?_))
  obtain ⟨m2,dd⟩:=a2
  have hd2:dd = []:=hd2
  subst hd2
  refine wp_cond (t:=false) h29 ?_
  simp only [Bool.false_eq_true,if_false]
  refine wp_skip ?_
  show Code.wp _ (.seq FnCalleesOfR3 (zbC 3 (cOf Tryz.f3))) _ ⟨m2,[]⟩ w
  refine wp_seq (zrm (post:=fun D1 d1 d2 E1 e1 e2 y0 w' => (y0 ∈ ([0,1,2,3,0,-1,4]:List Int)) ∧ zdY w (.agg #[.slice D1 d1 d2,.slice E1 e1 e2]) w') ?_ hs2 h2 _ ?_)
  ·refine (hdraw A n c w h).mono ?_
   rintro e w' ⟨v,y0,rfl,hy,N,p',D1,d1,d2,E1,e1,e2,ds,fs,rfl,hd⟩
   exact ⟨_,_,_,_,_,_,_,rfl,hy,N,p',D1,d1,d2,E1,e1,e2,ds,fs,rfl,hd⟩
  rintro D1 d1 d2 E1 e1 e2 y0 w1 ⟨hy,N,p1,D1',d1',d2',E1',e1',e2',ds,fs,hv,hrep,hrep2,hf,hev,hz⟩ a3 hd3 hs3 h3 h33 h34
  injection hv with hv
  have hv:=congrArg Array.toList hv
  obtain ⟨⟨rfl,rfl,rfl⟩,rfl,rfl,rfl⟩:(D1 = D1' ∧ d1 = d1' ∧ d2 = d2') ∧ E1 = E1' ∧ e1 = e1' ∧ e2 = e2':=by simpa using hv
  obtain ⟨m3,dd⟩:=a3
  have hd3:dd = []:=hd3
  subst hd3
  have hs3:m3.size = 60:=hs3
  have h33:m3.getD 3 undef = .pointer (some ⟨w1.heap.size,0,none⟩):=h33
  have h34:m3.getD 4 undef = .int .i64 y0:=h34
  have hea:=zaO (p:=p1) (w:=w1) (.cells #[.slice D1 d1 d2,.slice E1 e1 e2] 26) 0 (fun _ => False)
  have hx:=heap_alloc_new w1 (.cells #[.slice D1 d1 d2,.slice E1 e1 e2] 26)
  have hz1:Zp (upP p1 w1.heap.size 0) (w1.alloc (.cells #[.slice D1 d1 d2,.slice E1 e1 e2] 26)):=⟨fun c hc => by
   rw [zby]
   split
   ·rfl
   ·exact hz.1 c (by simp at hc; omega),fun _ _ _ => trivial⟩
  have hE:=hev.trans hea (C:=fun _ => False) (fun _ _ h => h) (fun _ _ h => h)
  have hr1:=hrep.evo hea
  have hr2:=hrep2.evo hea
  have hK:zoL (upP p1 w1.heap.size 0) (w1.alloc (.cells #[.slice D1 d1 d2,.slice E1 e1 e2] 26)) m3 60 [(3,.box [.sl 3 ds,.sl 5 fs]),(4,.v (.cell (.int y0)))] (fun x => w.heap.size ≤ x):=by
   have look:∀ t x,List.lookup t [(3,.box [.sl 3 ds,.sl 5 fs]),(4,.v (.cell (.int y0)))] = some x → (t = 3 ∧ x = AV.box [.sl 3 ds,.sl 5 fs]) ∨ (t = 4 ∧ x = AV.v (.cell (.int y0))) ∨ False:=fun t x hx => by
    simp only [List.lookup_cons] at hx
    by_cases h3:t = 3
    ·subst h3; simp at hx; exact .inl ⟨rfl,hx.symm⟩
    rw [show (t == 3) = false by simpa using h3] at hx
    by_cases h4:t = 4
    ·subst h4; simp at hx; exact .inr (.inl ⟨rfl,hx.symm⟩)
    rw [show (t == 4) = false by simpa using h4] at hx
    simp at hx
   refine ⟨fun t x hx' => ?_,fun t x hx' => ?_,fun t t' cs cs' x ht h1 h2 h3 h4 => ?_⟩
   ·rcases look t x hx' with ⟨rfl,rfl⟩ | ⟨rfl,rfl⟩ | h
    ·exact ⟨by omega,_,_,_,h33,hx,hr1,hr2,trivial⟩
    ·exact ⟨by omega,by rw [h34]; exact .int _⟩
    ·exact h.elim
   ·rcases look t x hx' with ⟨rfl,rfl⟩ | ⟨rfl,rfl⟩ | h
    ·exact .inr ⟨_,_,rfl,h33,by rw [zby,if_pos rfl],hev.size⟩
    ·exact .inl ⟨_,rfl⟩
    ·exact h.elim
   ·rcases look _ _ h1 with ⟨rfl,_⟩ | ⟨_,h⟩ | h
    ·rcases look _ _ h2 with ⟨rfl,_⟩ | ⟨_,h⟩ | h
     ·exact ht rfl
     ·cases h
     ·exact h.elim
    ·cases h
    ·exact h.elim
  obtain ⟨O,hO⟩:=Option.isSome_iff_exists.1 znH
  have hI:=zhz hs3 hK hz1 (fun x hx => Nat.le_trans hE.size hx)
  refine zcn (zlv (X:=zdb) (a:={ tmps:=m3,defers:=[] }) zcZ zfv vok (hval ds fs y0 hf hy) (zcK _ _ _) (zjx fun t x hx => (hK.lt t x hx).1) hO hI rfl hE) ?_
  rintro e w' ⟨v,rfl,p',hsr,_,_,hev',hz'⟩
  have hsr:Rep p' w' v (.bool true):=hsr
  cases hsr
  exact ⟨rfl,hev'.os,hev'.tape,hev'.output,hev'.size,fun b hb => hev'.block b hb (fun h => h)⟩
end Go.Proofs.YtcpcagdialnbeaaGreat
namespace Go.Proofs.YtcpcagdialnbeaaGreat
open Go
def zr6:List Int → Int → List Int
 | [],x => [x]
 | y :: ys,x => if y ≥ x then (if y > x then x :: y :: ys else y :: ys) else y :: zr6 ys x
def zat (S:Nat → Bool) (a m:Nat):List Int:=((List.range' a m).filter S).map fun i:Nat => (i:Int)
theorem zvF {S:Nat → Bool} {a m:Nat}:∀ y ∈ zat S a m,(a:Int) ≤ y:=by
 intro y hy
 unfold zat at hy
 obtain ⟨i,hi,rfl⟩:=List.mem_map.1 hy
 have:=List.mem_range'_1.1 (List.mem_filter.1 hi).1
 omega
theorem zxT {x:Int}:∀ {l:List Int},(∀ y ∈ l,x < y) → zr6 l x = x :: l
 | [],_ => rfl
 | y :: ys,h => by
  have:=h y List.mem_cons_self
  unfold zr6
  rw [if_pos (by omega),if_pos (by omega)]
theorem zjy (S:Nat → Bool) (a m:Nat):zat S a (m + 1) = if S a then (a:Int) :: zat S (a + 1) m else zat S (a + 1) m:=by
 unfold zat
 rw [List.range'_succ,List.filter_cons]
 split <;> rfl
theorem zjB {S S':Nat → Bool}:∀ {m a:Nat},(∀ i,a ≤ i → i < a + m → S i = S' i) → zat S a m = zat S' a m
 | 0,_,_ => rfl
 | m + 1,a,h => by
  rw [zjy,zjy,h a (by omega) (by omega),zjB (m:=m) (a:=a + 1) fun i h1 h2 => h i (by omega) (by omega)]
theorem zo7 (S:Nat → Bool) (j:Nat):∀ (m a:Nat),a ≤ j → j < a + m → zr6 (zat S a m) (j:Int) = zat (fun i => S i || i == j) a m
 | 0,a,h1,h2 => by omega
 | m + 1,a,h1,h2 => by
  rw [zjy,zjy]
  by_cases hj:a = j
  ·subst hj
   have e:zat (fun i => S i || i == a) (a + 1) m = zat S (a + 1) m:=zjB fun i g1 g2 => by
    have:(i == a) = false:=by simp; omega
    rw [this,Bool.or_false]
   rw [beq_self_eq_true,Bool.or_true,if_pos rfl,e]
   split
   ·unfold zr6
    rw [if_pos (by omega),if_neg (by omega)]
   ·exact zxT fun y hy => by have:=zvF y hy; omega
  ·have e:(a == j) = false:=by simp [hj]
   rw [e,Bool.or_false]
   have ih:=zo7 S j m (a + 1) (by omega) (by omega)
   split
   ·conv => lhs; unfold zr6
    rw [if_neg (by omega),ih]
   ·exact ih
theorem zhZ (S:Nat → Bool) {n k:Nat} (hk:k < n):(zat S 0 n).contains (k:Int) = S k:=by
 rw [Bool.eq_iff_iff,List.contains_iff_mem]
 unfold zat
 rw [List.mem_map]
 constructor
 ·rintro ⟨i,hi,e⟩
  have:i = k:=by omega
  subst this
  exact (List.mem_filter.1 hi).2
 ·intro h
  exact ⟨k,List.mem_filter.2 ⟨List.mem_range'_1.2 ⟨by omega,by omega⟩,h⟩,rfl⟩
theorem zcl (xs:List Int) (x:Int):zad xs ++ [[AC.int x]] = zad (xs ++ [x]):=by simp [zad]
theorem zzl (xs:List Int) (n:Int) (hx:xs.length ≤ 1048576):zgi [.cell (.sl 1 (zad xs)),.cell (.int n)] = some (.v (.cell (.sl 1 (zad (zr6 xs n))))):=by
 have rest:∀ m k:Nat,k + m = xs.length → ∀ acc:List Int,acc.length ≤ k + 1 → zcy (zad xs) n (zad acc) true (k:Int) = some (.v (.cell (.sl 1 (zad (acc ++ xs.drop k))))):=by
  intro m
  induction m with
  | zero =>
   intro k hk acc ha
   rw [List.drop_eq_nil_of_le (by omega),List.append_nil]
   exact zey (zaa (decide_eq_false (by rw [zab]; omega)) (zaa rfl rfl))
  | succ m ih =>
   intro k hk acc ha
   have hlt:k < xs.length:=by omega
   have hnext:=ih (k + 1) (by omega) (acc ++ [xs[k]]) (by simp; omega)
   rw [← wrk (by unfold zaE; omega),List.append_assoc,List.singleton_append,← List.drop_eq_getElem_cons hlt] at hnext
   refine zey (zac (decide_eq_true (by rw [zab]; omega)) (zaa rfl (zaR hlt (zb5 (by rw [zab]; simp; omega) ?_))))
   rw [zcl]
   exact hnext
 have key:∀ m k:Nat,k + m = xs.length → ∀ acc:List Int,acc.length ≤ k → zcy (zad xs) n (zad acc) false (k:Int) = some (.v (.cell (.sl 1 (zad (acc ++ zr6 (xs.drop k) n))))):=by
  intro m
  induction m with
  | zero =>
   intro k hk acc ha
   rw [List.drop_eq_nil_of_le (by omega)]
   refine zey (zaa (decide_eq_false (by rw [zab]; omega)) (zac rfl (zb5 (by rw [zab]; simp; omega) ?_)))
   rw [zcl]
   rfl
  | succ m ih =>
   intro k hk acc ha
   have hlt:k < xs.length:=by omega
   rw [List.drop_eq_getElem_cons hlt]
   refine zey (zac (decide_eq_true (by rw [zab]; omega)) (zac rfl (zaR hlt ?_)))
   unfold zr6
   by_cases h1:xs[k] ≥ n
   ·rw [if_pos h1]
    refine zac (decide_eq_true h1) (zaR hlt ?_)
    by_cases h2:xs[k] > n
    ·rw [if_pos h2]
     have hnext:=rest m (k + 1) (by omega) (acc ++ [n] ++ [xs[k]]) (by simp; omega)
     rw [← wrk (by unfold zaE; omega),List.append_assoc,List.append_assoc] at hnext
     refine zac (decide_eq_true h2) (zb5 (by rw [zab]; simp; omega) (zaR hlt ?_))
     rw [zcl]
     refine zb5 (by rw [zab]; simp; omega) ?_
     rw [zcl,List.append_assoc]
     exact hnext
    ·rw [if_neg h2]
     have hnext:=rest m (k + 1) (by omega) (acc ++ [xs[k]]) (by simp; omega)
     rw [← wrk (by unfold zaE; omega),List.append_assoc] at hnext
     refine zaa (decide_eq_false h2) (zaR hlt (zb5 (by rw [zab]; simp; omega) ?_))
     rw [zcl]
     exact hnext
   ·rw [if_neg h1]
    have hnext:=ih (k + 1) (by omega) (acc ++ [xs[k]]) (by simp; omega)
    rw [← wrk (by unfold zaE; omega),List.append_assoc] at hnext
    refine zaa (decide_eq_false h1) (zaR hlt (zb5 (by rw [zab]; simp; omega) ?_))
    rw [zcl]
    exact hnext
 exact ztE (key xs.length 0 (by omega) [] (by simp))
end Go.Proofs.YtcpcagdialnbeaaGreat
namespace Go.Proofs.YtcpcagdialnbeaaGreat
open Go Go.RowKit
def wB (n:Int) (ys:List Int):List Int:=ys.filter fun y => !(y == n)
def wF (n:Int):List Int → List Int
 | [] => [n]
 | y :: ys => if y ≥ n then n :: wB n (y :: ys) else y :: wF n ys
theorem zFo {n:Int} {ys:List Int} (h:∀ y ∈ ys,n < y):wB n ys = ys:=by
 unfold wB
 rw [List.filter_eq_self]
 intro y hy
 have:=h y hy
 simp
 omega
theorem zvC (n y:Int) (ys:List Int):wB n (y :: ys) = if y = n then wB n ys else y :: wB n ys:=by
 unfold wB
 rw [List.filter_cons]
 by_cases h:y = n <;> simp [h]
theorem zx1 (S:Nat → Bool) (j:Nat):∀ (m a:Nat),wF (j:Int) (zat S a m) = zr6 (zat S a m) (j:Int)
 | 0,a => rfl
 | m + 1,a => by
  rw [zjy]
  split
  ·unfold wF zr6
   have hr:wB (j:Int) (zat S (a + 1) m) = zat S (a + 1) m ∨ (a:Int) < j:=by
    by_cases h:(a:Int) < j
    ·exact .inr h
    ·exact .inl (zFo fun y hy => by have:=zvF y hy; omega)
   by_cases h:(a:Int) ≥ (j:Int)
   ·rw [if_pos h,if_pos h,zvC,hr.resolve_right (by omega)]
    by_cases h2:(a:Int) = (j:Int)
    ·rw [if_pos h2,if_neg (by omega),h2]
    ·rw [if_neg h2,if_pos (by omega)]
   ·rw [if_neg h,if_neg h,zx1 S j m (a + 1)]
  ·exact zx1 S j m (a + 1)
theorem zxg (xs:List Int) (n:Int) (hx:xs.length ≤ 1048576):ze3 [.cell (.sl 1 (zad xs)),.cell (.int n)] = rL (wF n xs):=by
 have rest:∀ m k:Nat,k + m = xs.length → ∀ acc:List Int,acc.length ≤ k + 1 → zbj n (zad acc) true (zad xs) ((xs.length:Nat):Int) (k:Int) = rL (acc ++ wB n (xs.drop k)):=by
  intro m
  induction m with
  | zero =>
   intro k hk acc ha
   rw [List.drop_eq_nil_of_le (by omega)]
   refine zee (zaa (decide_eq_false (by omega)) (zaa rfl ?_))
   rw [show wB n [] = [] from rfl,List.append_nil]
  | succ m ih =>
   intro k hk acc ha
   have hlt:k < xs.length:=by omega
   have w:zae ((k:Int) + 1) = ((k + 1:Nat):Int):=wrk (by unfold zaE; omega)
   rw [List.drop_eq_getElem_cons hlt,zvC]
   refine zee (zac (decide_eq_true (by omega)) (zaR hlt ?_))
   rw [w]
   have app:∀ r,zbj n (zad (acc ++ [xs[k]])) true (zad xs) ((xs.length:Nat):Int) ((k + 1:Nat):Int) = some r → zdN (zad acc) [[.int xs[k]]] (fun l12 => zbj n l12 true (zad xs) ((xs.length:Nat):Int) ((k + 1:Nat):Int)) = some r:=fun r h => zb5 (by rw [zab]; simp; omega) (by rw [zcl]; exact h)
   by_cases h2:xs[k] = n
   ·rw [if_pos h2]
    refine zac (decide_eq_true (by omega)) (zaa rfl (zaa (nef h2) ?_))
    exact ih (k + 1) (by omega) acc (by omega)
   ·rw [if_neg h2]
    have nx:=ih (k + 1) (by omega) (acc ++ [xs[k]]) (by simp; omega)
    rw [List.append_assoc] at nx
    by_cases h:xs[k] ≥ n
    ·exact zac (decide_eq_true h) (zaa rfl (zac (net h2) (app _ (by rw [nx]; rfl))))
    ·exact zaa (decide_eq_false h) (zac (net h2) (app _ (by rw [nx]; rfl)))
 have key:∀ m k:Nat,k + m = xs.length → ∀ acc:List Int,acc.length ≤ k → zbj n (zad acc) false (zad xs) ((xs.length:Nat):Int) (k:Int) = rL (acc ++ wF n (xs.drop k)):=by
  intro m
  induction m with
  | zero =>
   intro k hk acc ha
   rw [List.drop_eq_nil_of_le (by omega)]
   refine zee (zaa (decide_eq_false (by omega)) (zac rfl (zb5 (by rw [zab]; simp; omega) ?_)))
   rw [zcl]
   rfl
  | succ m ih =>
   intro k hk acc ha
   have hlt:k < xs.length:=by omega
   have w:zae ((k:Int) + 1) = ((k + 1:Nat):Int):=wrk (by unfold zaE; omega)
   rw [List.drop_eq_getElem_cons hlt]
   refine zee (zac (decide_eq_true (by omega)) (zaR hlt ?_))
   rw [w]
   unfold wF
   by_cases h:xs[k] ≥ n
   ·rw [if_pos h,zvC]
    refine zac (decide_eq_true h) (zac rfl (zb5 (by rw [zab]; simp; omega) ?_))
    rw [zcl]
    by_cases h2:xs[k] = n
    ·rw [if_pos h2]
     refine zaa (nef h2) ?_
     rw [rest m (k + 1) (by omega) (acc ++ [n]) (by simp; omega),List.append_assoc]
     rfl
    ·rw [if_neg h2]
     refine zac (net h2) (zb5 (by rw [zab]; simp; omega) ?_)
     rw [zcl,rest m (k + 1) (by omega) (acc ++ [n] ++ [xs[k]]) (by simp; omega),List.append_assoc,List.append_assoc]
     rfl
   ·rw [if_neg h]
    refine zaa (decide_eq_false h) (zac (net (by omega)) (zb5 (by rw [zab]; simp; omega) ?_))
    rw [zcl,ih (k + 1) (by omega) (acc ++ [xs[k]]) (by simp; omega),List.append_assoc]
    rfl
 have:=key xs.length 0 (by omega) [] (by simp)
 refine zrD ?_
 rw [zab]
 exact this
theorem zbZ (S:Nat → Bool) (a m:Nat):(zat S a m).length ≤ m:=by
 unfold zat
 rw [List.length_map]
 have:=List.length_filter_le S (List.range' a m)
 simpa using this
def orS (A B:Nat → Bool):Nat → Bool:=fun i => A i || B i
def zlf (j:Nat):Nat → Bool:=fun i => i == j
theorem zAa {m j:Nat} (hj:j < m) (hm:m ≤ 1000) (A:Nat → Bool):ze3 [.cell (.sl 1 (zad (zat A 0 m))),.cell (.int (j:Int))] = rL (zat (orS A (zlf j)) 0 m):=by
 have hl:=zbZ A 0 m
 rw [zxg _ _ (by omega),zx1,zo7 A j m 0 (by omega) (by omega)]
 rfl
theorem zEX {m j:Nat} (hj:j < m) (hm:m ≤ 1000) (A:Nat → Bool):zgi [.cell (.sl 1 (zad (zat A 0 m))),.cell (.int (j:Int))] = rL (zat (orS A (zlf j)) 0 m):=by
 have hl:=zbZ A 0 m
 rw [zzl _ _ (by omega),zo7 A j m 0 (by omega) (by omega)]
 rfl
theorem znv (xs:List Int) (n:Int) (hx:xs.length ≤ 1048576):zgf [.cell (.sl 1 (zad xs)),.cell (.int n)] = rB (xs.contains n):=by
 have key:∀ m k:Nat,k + m = xs.length → zjj (zad xs) n (k:Int) = rB ((xs.drop k).contains n):=by
  intro m
  induction m with
  | zero =>
   intro k hk
   rw [List.drop_eq_nil_of_le (by omega)]
   exact zmj (zaa (decide_eq_false (by rw [zab]; omega)) rfl)
  | succ m ih =>
   intro k hk
   have hlt:k < xs.length:=by omega
   have hnext:=ih (k + 1) (by omega)
   rw [← wrk (by unfold zaE; omega)] at hnext
   rw [List.drop_eq_getElem_cons hlt,List.contains_cons]
   refine zmj (zac (decide_eq_true (by rw [zab]; omega)) (zaR hlt ?_))
   rcases e:(xs[k] == n) with _ | _
   ·rw [show (n == xs[k]) = false by rw [beq_eq_false_iff_ne] at e ⊢; exact fun h => e h.symm,Bool.false_or]
    exact zaa rfl hnext
   ·rw [show (n == xs[k]) = true by rw [beq_iff_eq] at e ⊢; exact e.symm,Bool.true_or]
    exact zac rfl rfl
 exact zvd (key xs.length 0 (by omega))
theorem zgT (xs:List Int) (hx:xs.length ≤ 1048576):za0 [.cell (.sl 1 (zad xs)),.cell (.sl 1 (zad xs))] = rB true:=by
 have key:∀ m k:Nat,k + m = xs.length → zeD (zad xs) (zad xs) (k:Int) = rB true:=by
  intro m
  induction m with
  | zero =>
   intro k hk
   exact zh8 (zaa (decide_eq_false (by rw [zab]; omega)) rfl)
  | succ m ih =>
   intro k hk
   have hlt:k < xs.length:=by omega
   have hnext:=ih (k + 1) (by omega)
   rw [← wrk (by unfold zaE; omega)] at hnext
   exact zh8 (zac (decide_eq_true (by rw [zab]; omega)) (zaR hlt (zaR hlt (zaa (nef rfl) hnext))))
 exact zoF (zaa (nef rfl) (key xs.length 0 (by omega)))
theorem zqi (xs:List Int) (hx:xs.length ≤ 1048576) (h:∀ k (hk:k + 1 < xs.length),xs[k] < xs[k + 1]):zg8 [.cell (.sl 1 (zad xs))] = rB true:=by
 have key:∀ m k:Nat,k + m = xs.length → 1 ≤ k → zfN (zad xs) (k:Int) = rB true:=by
  intro m
  induction m with
  | zero =>
   intro k hk h1
   exact zf8 (zaa (decide_eq_false (by rw [zab]; omega)) rfl)
  | succ m ih =>
   intro k hk h1
   obtain ⟨k,rfl⟩:∃ j,k = j + 1:=⟨k - 1,by omega⟩
   have hlt:k + 1 < xs.length:=by omega
   have hnext:=ih (k + 1 + 1) (by omega) (by omega)
   rw [← wrk (by unfold zaE; omega)] at hnext
   have w:zae (((k + 1:Nat):Int) - 1) = (k:Int):=by rw [wr (by omega) (by omega)]; omega
   have hlt':=h k hlt
   refine zf8 (zac (decide_eq_true (by rw [zab]; omega)) (zaR hlt ?_))
   rw [w]
   exact zaR (show k < xs.length by omega) (zaa (decide_eq_false (by omega)) hnext)
 refine zrP ?_
 rcases Nat.lt_or_ge xs.length 1 with h0 | h0
 ·exact zf8 (zaa (decide_eq_false (by rw [zab]; omega)) rfl)
 ·exact key (xs.length - 1) 1 (by omega) (by omega)
end Go.Proofs.YtcpcagdialnbeaaGreat
namespace Go.Proofs.YtcpcagdialnbeaaGreat
open Go
theorem zgb {D:List DM} {R:List PM} (n:Int):zbP [.agg [.sl 3 (zaf D),.sl 5 (zal R)],.cell (.int n)] = rB (decide (0 ≤ n ∧ n < R.length)):=zn4 n
theorem zno {R:List PM} (hR:R.length ≤ zaE) (n:Int):zaL [.cell (.int n),.cell (.int 0),.cell (.int (zae ((((zal R).length:Nat):Int) - 1)))] = rB (decide (0 ≤ n ∧ n < R.length)):=by
 have hw:zae ((((zal R).length:Nat):Int) - 1) = R.length - 1:=by rw [zaF]; unfold zaE at hR; exact wr (by omega) (by omega)
 rw [hw,zdk]
 congr 3
 rw [← Bool.decide_and]
 congr 1
 exact propext ⟨fun h => ⟨h.1,by omega⟩,fun h => ⟨h.1,by omega⟩⟩
end Go.Proofs.YtcpcagdialnbeaaGreat
namespace Go.Proofs.YtcpcagdialnbeaaGreat
open Go
theorem zxh {m:Nat} (hm:m ≤ 1000):∀ (s:Nat) (o n:Int) (kids:List (List AC)),Fit .expr [.int o,.int n,.sl 3 kids] → Nm m [.int o,.int n,.sl 3 kids] → cS [.int o,.int n,.sl 3 kids] < s → s ≤ 31 →
  ∃ C:Nat → Bool,∀ A:Nat → Bool,zbL [.cell (.sl 1 (zad (zat A 0 m))),.agg [.int o,.int n,.sl 3 kids]] = rL (zat (orS A C) 0 m) ∧ zb7 [.agg [.int o,.int n,.sl 3 kids],.cell (.sl 1 (zad (zat A 0 m)))] = rL (zat (orS A C) 0 m):=by
 intro s
 induction s with
 | zero => intro o n kids _ _ h; omega
 | succ s ihs =>
  intro o n kids hf hn hs hs31
  obtain ⟨_,_,hml,hk⟩:=zlR hf
  have hn':(o = 9 ∨ o = 10 → 0 ≤ n ∧ n < m) ∧ ∀ k,k < kids.length → Nm m (kids.getD k []):=by
   generalize hx:[AC.int o,AC.int n,AC.sl 3 kids] = x at hn
   cases hn with
   | node o' n' kids' h1 h2 =>
    simp only [List.cons.injEq,AC.int.injEq,AC.sl.injEq,true_and,and_true] at hx
    obtain ⟨rfl,rfl,rfl⟩:=hx
    exact ⟨h1,h2⟩
  have hcs:=zeL o n kids
  have kidC:∀ k,k < kids.length → ∃ C:Nat → Bool,∀ A:Nat → Bool,zbL [.cell (.sl 1 (zad (zat A 0 m))),.agg (kids.getD k [])] = rL (zat (orS A C) 0 m) ∧ zb7 [.agg (kids.getD k []),.cell (.sl 1 (zad (zat A 0 m)))] = rL (zat (orS A C) 0 m):=fun k hlt => by
   obtain ⟨o',n',ks,e,hf'⟩:=zez hk hlt
   have h1:=zlE hlt (o:=o) (n:=n)
   have h2:=hn'.2 k hlt
   rw [e] at h1 h2 ⊢
   exact ihs o' n' ks hf' h2 (by omega) (by omega)
  have rest:∀ j k:Nat,k + j = kids.length → ∃ C:Nat → Bool,∀ A:Nat → Bool,zb9 (zad (zat A 0 m)) kids ((kids.length:Nat):Int) (k:Int) = rL (zat (orS A C) 0 m) ∧ zcz (zad (zat A 0 m)) o n kids (k:Int) = rL (zat (orS A C) 0 m):=by
   intro j
   induction j with
   | zero =>
    intro k hkj
    refine ⟨fun _ => false,fun A => ?_⟩
    rw [show orS A (fun _ => false) = A by funext i; simp [orS]]
    exact ⟨zdu (zaa (decide_eq_false (by omega)) rfl),zik (zaa (decide_eq_false (by omega)) rfl)⟩
   | succ j ih =>
    intro k hkj
    have hlt:k < kids.length:=by omega
    obtain ⟨C1,h1⟩:=kidC k hlt
    obtain ⟨C2,h2⟩:=ih (k + 1) (by omega)
    obtain ⟨o',n',ks,e,_⟩:=zez hk hlt
    refine ⟨orS C1 C2,fun A => ?_⟩
    rw [show orS A (orS C1 C2) = orS (orS A C1) C2 by funext i; simp [orS,Bool.or_assoc]]
    have g1:=h1 A
    have g2:=h2 (orS A C1)
    rw [e] at g1
    refine ⟨zdu (zac (decide_eq_true (by omega)) (zcj hlt e (zan g1.1 ?_))),zik (zac (decide_eq_true (by omega)) (zcj hlt e (zan g1.2 ?_)))⟩
    ·rw [wrk (by omega)]; exact g2.1
    ·rw [wrk (by omega)]; exact g2.2
  obtain ⟨C,hC⟩:=rest kids.length 0 (by omega)
  by_cases h:o = 9 ∨ o = 10
  ·have hr:=hn'.1 h
   obtain ⟨j,rfl⟩:∃ j:Nat,n = (j:Int):=⟨n.toNat,by omega⟩
   refine ⟨orS (zlf j) C,fun A => ?_⟩
   rw [show orS A (orS (zlf j) C) = orS (orS A (zlf j)) C by funext i; simp [orS,Bool.or_assoc]]
   have g:=hC (orS A (zlf j))
   have gi:=zAa (show j < m by omega) hm A
   have gs:=zEX (show j < m by omega) hm A
   rcases h with rfl | rfl
   ·exact ⟨zcF (zac rfl (zan gi g.1)),zgG (zac rfl (zan gs g.2))⟩
   ·exact ⟨zcF (zaa rfl (zac rfl (zan gi g.1))),zgG (zaa rfl (zac rfl (zan gs g.2)))⟩
  ·refine ⟨C,fun A => ?_⟩
   have g:=hC A
   have h9:o ≠ 9:=fun h' => h (.inl h')
   have h10:o ≠ 10:=fun h' => h (.inr h')
   exact ⟨zcF (zaa (eqf h9) (zaa (eqf h10) g.1)),zgG (zaa (eqf h9) (zaa (eqf h10) g.2))⟩
end Go.Proofs.YtcpcagdialnbeaaGreat
namespace Go.Proofs.YtcpcagdialnbeaaGreat
open Go
section
variable (C:Nat → Nat → Bool) (m:Nat)
def stI (A:Nat → Bool):Nat → Bool:=fun x => A x || (List.range m).any fun i => A i && C i x
def itI (f:Nat):Nat → Nat → Bool
 | 0 => zlf f
 | r + 1 => stI C m (itI f r)
def Cl (A:Nat → Bool):Prop:=∀ i,i < m → A i = true → ∀ x,x < m → C i x = true → A x = true
variable {C m}
theorem stI_iff {A:Nat → Bool} {x:Nat}:stI C m A x = true ↔ A x = true ∨ ∃ i,i < m ∧ A i = true ∧ C i x = true:=by
 unfold stI
 simp only [Bool.or_eq_true,List.any_eq_true,List.mem_range,Bool.and_eq_true]
theorem zh6 (f:Nat):∀ r,itI C m f r f = true
 | 0 => by simp [itI,zlf]
 | r + 1 => stI_iff.2 (.inl (zh6 f r))
theorem zvb {p q:Nat → Bool} {l:List Nat} (h:∀ x ∈ l,p x = true → q x = true) {y:Nat} (hy:y ∈ l) (h1:p y = false) (h2:q y = true):l.countP p + 1 ≤ l.countP q:=by
 induction l with
 | nil => cases hy
 | cons a l ih =>
  have hm:l.countP p ≤ l.countP q:=List.countP_mono_left fun x hx => h x (List.mem_cons_of_mem _ hx)
  rcases List.mem_cons.1 hy with rfl | hy
  ·rw [List.countP_cons_of_neg (by simp [h1]),List.countP_cons_of_pos h2]
   omega
  ·have:=ih (fun x hx => h x (List.mem_cons_of_mem _ hx)) hy
   rcases hp:p a with _ | _
   ·rw [List.countP_cons_of_neg (by simp [hp])]
    rcases hq:q a with _ | _
    ·rw [List.countP_cons_of_neg (by simp [hq])]; exact this
    ·rw [List.countP_cons_of_pos hq]; omega
   ·rw [List.countP_cons_of_pos hp,List.countP_cons_of_pos (h a List.mem_cons_self hp)]
    omega
theorem zuD {f:Nat} (hf:f < m):∀ r,Cl C m (itI C m f r) ∨ r + 1 ≤ (List.range m).countP (itI C m f r)
 | 0 => .inr (by
  have:0 < (List.range m).countP (itI C m f 0):=List.countP_pos_iff.2 ⟨f,List.mem_range.2 hf,zh6 f 0⟩
  omega)
 | r + 1 => by
  by_cases hc:Cl C m (itI C m f r)
  ·left
   intro i hi h x hx hcx
   have back:∀ y,y < m → itI C m f (r + 1) y = true → itI C m f r y = true:=fun y hy h => by
    rcases stI_iff.1 h with h | ⟨k,hk,h1,h2⟩
    ·exact h
    ·exact hc k hk h1 y hy h2
   exact stI_iff.2 (.inl (hc i hi (back i hi h) x hx hcx))
  ·right
   have hle:=(zuD hf r).resolve_left hc
   obtain ⟨i,hi⟩:=Classical.not_forall.1 hc
   have h1:i < m:=Classical.byContradiction fun h => hi fun h' => absurd h' h
   have h2:itI C m f r i = true:=Classical.byContradiction fun h => hi fun _ h' => absurd h' h
   obtain ⟨x,hx⟩:=Classical.not_forall.1 fun h => hi fun _ _ => h
   have h3:x < m:=Classical.byContradiction fun h => hx fun h' => absurd h' h
   have h4:C i x = true:=Classical.byContradiction fun h => hx fun _ h' => absurd h' h
   have h5:¬ itI C m f r x = true:=fun h => hx fun _ _ => h
   have:=zvb (l:=List.range m) (p:=itI C m f r) (q:=itI C m f (r + 1)) (fun z _ h => stI_iff.2 (.inl h)) (List.mem_range.2 h3) (by simpa using h5) (stI_iff.2 (.inr ⟨i,h1,h2,h4⟩))
   omega
theorem zlN {f:Nat} (hf:f < m):Cl C m (itI C m f m):=by
 rcases zuD (C:=C) hf m with h | h
 ·exact h
 ·have:=List.countP_le_length (p:=itI C m f m) (l:=List.range m)
  rw [List.length_range] at this
  omega
end
theorem zDP {a b:List Int} (h:a = b):rL a = rL b:=by rw [h]
theorem zoY (m:Nat):zat (fun _ => false) 0 m = []:=by
 unfold zat
 rw [List.filter_eq_nil_iff.2 (by simp)]
 rfl
theorem zyt {m j:Nat} (hj:j < m):zat (zlf j) 0 m = [(j:Int)]:=by
 have:=zo7 (fun _ => false) j m 0 (by omega) (by omega)
 rw [zoY] at this
 exact this.symm.trans rfl |>.symm ▸ this.symm
theorem znd {S:Nat → Bool} {m:Nat} {y:Int} (h:y ∈ zat S 0 m):∃ j:Nat,y = (j:Int) ∧ j < m ∧ S j = true:=by
 unfold zat at h
 obtain ⟨i,hi,rfl⟩:=List.mem_map.1 h
 obtain ⟨h1,h2⟩:=List.mem_filter.1 hi
 exact ⟨i,rfl,by have:=List.mem_range'_1.1 h1; omega,h2⟩
theorem zET {m:Nat} {P:Nat → (Nat → Bool) → Prop} (h:∀ k,k < m → ∃ t,P k t):∃ T:Nat → Nat → Bool,∀ k,k < m → P k (T k) :=
 ⟨fun k => open Classical in if hk:k < m then (h k hk).choose else fun _ => false,fun k hk => by
  simp only [dif_pos hk]
  exact (h k hk).choose_spec⟩
def zur (C:Nat → Nat → Bool):List Int → (Nat → Bool) → Nat → Bool
 | [],O => O
 | f :: fs,O => zur C fs (orS O (C f.toNat))
theorem zuM {C:Nat → Nat → Bool} {x:Nat}:∀ {xs:List Int} {O:Nat → Bool},zur C xs O x = true ↔ O x = true ∨ ∃ f ∈ xs,C f.toNat x = true
 | [],O => by simp [zur]
 | f :: fs,O => by
  rw [zur,zuM]
  simp only [orS,Bool.or_eq_true,List.mem_cons,or_assoc]
  constructor
  ·rintro (h | h | ⟨g,hg,h⟩)
   ·exact .inl h
   ·exact .inr ⟨f,.inl rfl,h⟩
   ·exact .inr ⟨g,.inr hg,h⟩
  ·rintro (h | ⟨g,rfl | hg,h⟩)
   ·exact .inl h
   ·exact .inr (.inl h)
   ·exact .inr (.inr ⟨g,hg,h⟩)
section
variable {D:List DM} {R:List PM}
def zBP (R:List PM) (C:Nat → Nat → Bool):Prop:=∀ k,k < R.length → ∀ A:Nat → Bool,zbL [.cell (.sl 1 (zad (zat A 0 R.length))),.agg (za5 (gP R k))] = rL (zat (orS A (C k)) 0 R.length) ∧ zb7 [.agg (za5 (gP R k)),.cell (.sl 1 (zad (zat A 0 R.length)))] = rL (zat (orS A (C k)) 0 R.length)
theorem zBI (hi:PIn D R) (hv:VP D R):∃ C,zBP R C:=by
 have hR:=hv.cp.rl
 exact zET fun k hk => by
  have hs:=hv.small k hk
  exact zxh (by omega) 30 _ _ _ (hi.r _ (zgS hk)).b (hv.nm k hk) (by show cS (za5 (gP R k)) < 30; omega) (by omega)
theorem zr5 (C:Nat → Bool):orS (fun _ => false) C = C:=by funext i; simp [orS]
variable {C:Nat → Nat → Bool} (hN:zBP R C) (h4:R.length ≤ 4)
include hN h4
omit h4 in
theorem zzB {k:Nat} (hk:k < R.length):zbL [.cell (.sl 1 []),.agg (za5 (gP R k))] = rL (zat (C k) 0 R.length):=by
 have:=(hN k hk (fun _ => false)).1
 rw [zoY,zr5] at this
 exact this
omit h4 in
theorem zqk {k:Nat} (hk:k < R.length):zb7 [.agg (za5 (gP R k)),.cell (.sl 1 [])] = rL (zat (C k) 0 R.length):=by
 have:=(hN k hk (fun _ => false)).2
 rw [zoY,zr5] at this
 exact this
theorem zCl (ds:List (List AC)) (A:Nat → Bool):zhT [.agg [.sl 3 ds,.sl 5 (zal R)],.cell (.sl 1 (zad (zat A 0 R.length)))] = rL (zat (stI C R.length A) 0 R.length):=by
 have hl:=zbZ A 0 R.length
 generalize hxs:zat A 0 R.length = xs at hl
 have hx:∀ y ∈ xs,∃ j:Nat,y = (j:Int) ∧ j < R.length ∧ A j = true:=fun y hy => znd (by rw [hxs]; exact hy)
 have key:∀ j k:Nat,k + j = xs.length → ∀ O:Nat → Bool,zdJ ds (zal R) (zad (zat O 0 R.length)) (zad xs) ((xs.length:Nat):Int) (k:Int) = rL (zat (zur C (xs.drop k) O) 0 R.length):=by
  intro j
  induction j with
  | zero =>
   intro k hk O
   rw [List.drop_eq_nil_of_le (by omega)]
   exact zg2 (zaa (decide_eq_false (by omega)) rfl)
  | succ j ih =>
   intro k hk O
   have hlt:k < xs.length:=by omega
   obtain ⟨i,e,hi,_⟩:=hx _ (List.getElem_mem hlt)
   rw [List.drop_eq_getElem_cons hlt,zur]
   refine zg2 (zac (decide_eq_true (by omega)) (zaR hlt (zaH (k:=i) e hi (zan (hN i hi O).1 ?_))))
   rw [wrk (by unfold zaE; omega),ih (k + 1) (by omega),e,Int.toNat_natCast]
 refine znI ?_
 have:=key xs.length 0 (by omega) A
 rw [hxs] at this
 rw [zab]
 refine this.trans ?_
 rw [List.drop_zero]
 refine zDP (zjB fun x _ hx' => ?_)
 rw [Bool.eq_iff_iff,zuM,stI_iff]
 constructor
 ·rintro (h | ⟨f,hf,h⟩)
  ·exact .inl h
  ·obtain ⟨i,rfl,hi,ha⟩:=hx f hf
   exact .inr ⟨i,hi,ha,by simpa using h⟩
 ·rintro (h | ⟨i,hi,ha,h⟩)
  ·exact .inl h
  ·refine .inr ⟨(i:Int),?_,by simpa using h⟩
   rw [← hxs,← List.contains_iff_mem,zhZ A hi]
   exact ha
theorem zyF (hi:PIn D R) (hval:zaN [.agg [.sl 3 (zaf D),.sl 5 (zal R)]] = rB true) {f:Nat} (hf:f < R.length):za3 [.agg [.sl 3 (zaf D),.sl 5 (zal R)],.cell (.int (f:Int))] = rL (zat (itI C R.length f R.length) 0 R.length):=by
 have key:∀ j k:Nat,k + j = R.length → zdM (zaf D) (zal R) (zad (zat (itI C R.length f k) 0 R.length)) (k:Int) = rL (zat (itI C R.length f R.length) 0 R.length):=by
  intro j
  induction j with
  | zero =>
   intro k hk
   refine zg7 (zaa (decide_eq_false (by rw [zaF]; omega)) ?_)
   rw [show k = R.length by omega]
  | succ j ih =>
   intro k hk
   refine zg7 (zac (decide_eq_true (by rw [zaF]; omega)) (zan (zCl hN h4 (zaf D) _) ?_))
   rw [wrk (by unfold zaE; omega)]
   exact ih (k + 1) (by omega)
 refine zfy (zai hval (zaa rfl (zai (zgb _) (zaa (by rw [decide_eq_true (by omega)]; rfl) ?_))))
 have:=key R.length 0 (by omega)
 rw [itI,zyt hf] at this
 exact this
end
end Go.Proofs.YtcpcagdialnbeaaGreat
namespace Go.Proofs.YtcpcagdialnbeaaGreat
open Go Go.RowKit
theorem zs6 (S:Nat → Bool):∀ (m a k:Nat) (hk:k + 1 < (zat S a m).length),(zat S a m)[k] < (zat S a m)[k + 1]:=by
 intro m
 induction m with
 | zero => intro a k hk; simp [zat] at hk
 | succ m ih =>
  intro a k hk
  have e:=zjy S a m
  by_cases hS:S a = true
  ·rw [if_pos hS] at e
   have hl:(zat S a (m + 1)).length = (zat S (a + 1) m).length + 1:=by rw [e]; rfl
   cases k with
   | zero =>
    have h1:0 < (zat S (a + 1) m).length:=by omega
    have hm1:(zat S (a + 1) m)[0] ∈ zat S (a + 1) m:=List.getElem_mem h1
    have hge:=zvF _ hm1
    simp only [e,List.getElem_cons_zero,List.getElem_cons_succ]
    omega
   | succ k =>
    simp only [e,List.getElem_cons_succ]
    exact ih (a + 1) k (by omega)
  ·rw [if_neg hS] at e
   simp only [e]
   exact ih (a + 1) k (by rw [e] at hk; exact hk)
theorem zwt {S:Nat → Bool} {a m:Nat} {y:Int} (hy:y ∈ zat S a m):(a:Int) ≤ y ∧ y < a + m:=by
 unfold zat at hy
 obtain ⟨i,hi,rfl⟩:=List.mem_map.1 hy
 have:=List.mem_range'_1.1 (List.mem_filter.1 hi).1
 omega
end Go.Proofs.YtcpcagdialnbeaaGreat
namespace Go.Proofs.YtcpcagdialnbeaaGreat
open Go Go.RowKit
structure PV (D:List DM) (R:List PM) (C:Nat → Nat → Bool):Prop where
 hi:PIn D R
 vp:VP D R
 nm:zBP R C
 h1:zaN [.agg [.sl 3 (zaf D),.sl 5 (zal R)]] = rB true
 h2:zbe [.agg [.sl 3 (zaf D),.sl 5 (zal R)]] = rB true
theorem PV.r4 {D:List DM} {R:List PM} {C:Nat → Nat → Bool} (h:PV D R C):R.length ≤ 4:=h.vp.cp.rl
theorem zlC {ds fs:List (List AC)} (h:Fit .prog [.sl 3 ds,.sl 5 fs]):∃ D R,ds = zaf D ∧ fs = zal R ∧ PIn D R ∧
  ((zaN [.agg [.sl 3 (zaf D),.sl 5 (zal R)]] = rB false ∧ zbe [.agg [.sl 3 (zaf D),.sl 5 (zal R)]] = rB false) ∨ ∃ C,PV D R C):=by
 obtain ⟨D,R,rfl,rfl,hi⟩:=zzO h
 refine ⟨D,R,rfl,rfl,hi,?_⟩
 obtain ⟨b,h1,h2,h3⟩:=zyb hi
 cases b with
 | false => exact .inl ⟨h1,h2⟩
 | true =>
  obtain ⟨C,hN⟩:=zBI hi (h3 rfl)
  exact .inr ⟨C,hi,h3 rfl,hN,h1,h2⟩
theorem zsh (xs ys:List Int) (hx:xs.length ≤ 1048576) (hy:ys.length ≤ 1048576) (h:∀ x ∈ xs,ys.contains x = true):zh9 [.cell (.sl 1 (zad xs)),.cell (.sl 1 (zad ys))] = rB true:=by
 have key:∀ m k:Nat,k + m = xs.length → zgC (zad xs) (zad ys) (k:Int) = rB true:=by
  intro m
  induction m with
  | zero =>
   intro k hk
   exact zkJ (zaa (decide_eq_false (by rw [zab]; omega)) rfl)
  | succ m ih =>
   intro k hk
   have hlt:k < xs.length:=by omega
   have hnext:=ih (k + 1) (by omega)
   rw [← wrk (by unfold zaE; omega)] at hnext
   have hin:=znv ys xs[k] hy
   rw [h _ (List.getElem_mem hlt)] at hin
   exact zkJ (zac (decide_eq_true (by rw [zab]; omega)) (zaR hlt (zai hin (zaa rfl hnext))))
 exact zsg (key xs.length 0 (by omega))
section
variable {D:List DM} {R:List PM} {C:Nat → Nat → Bool}
theorem zr3 {n:Int} (h:¬ (0 ≤ n ∧ n < R.length)):zbP [.agg [.sl 3 (zaf D),.sl 5 (zal R)],.cell (.int n)] = rB false:=by
 rw [zgb,decide_eq_false h]
theorem zmT {f:Nat} (h:f < R.length):zbP [.agg [.sl 3 (zaf D),.sl 5 (zal R)],.cell (.int (f:Int))] = rB true:=by
 rw [zgb,decide_eq_true (by omega)]
theorem zxK {n:Int} (hR:R.length ≤ 4) (h:¬ (0 ≤ n ∧ n < R.length)):zaL [.cell (.int n),.cell (.int 0),.cell (.int (zae ((((zal R).length:Nat):Int) - 1)))] = rB false:=by
 rw [zno (by unfold zaE; omega),decide_eq_false h]
theorem zu6 {f:Nat} (hR:R.length ≤ 4) (h:f < R.length):zaL [.cell (.int (f:Int)),.cell (.int 0),.cell (.int (zae ((((zal R).length:Nat):Int) - 1)))] = rB true:=by
 rw [zno (by unfold zaE; omega),decide_eq_true (by omega)]
theorem zFg (h1:zaN [.agg [.sl 3 (zaf D),.sl 5 (zal R)]] = rB false) (n:Int):zbA [.agg [.sl 3 (zaf D),.sl 5 (zal R)],.cell (.int n)] = rL [] :=
 zeF (zai h1 (zac rfl rfl))
theorem zFz (h2:zbe [.agg [.sl 3 (zaf D),.sl 5 (zal R)]] = rB false) (n:Int):zcw [.agg [.sl 3 (zaf D),.sl 5 (zal R)],.cell (.int n)] = rL [] :=
 zhi (zai h2 (zac rfl rfl))
variable (h:PV D R C)
include h
theorem zGP {n:Int} (hn:¬ (0 ≤ n ∧ n < R.length)):zbA [.agg [.sl 3 (zaf D),.sl 5 (zal R)],.cell (.int n)] = rL [] :=
 zeF (zai h.h1 (zaa rfl (zai (zr3 hn) (zac rfl rfl))))
theorem zGW {n:Int} (hn:¬ (0 ≤ n ∧ n < R.length)):zcw [.agg [.sl 3 (zaf D),.sl 5 (zal R)],.cell (.int n)] = rL [] :=
 zhi (zai h.h2 (zaa rfl (zai (zxK h.r4 hn) (zac rfl rfl))))
theorem zvm {f:Nat} (hf:f < R.length):zbA [.agg [.sl 3 (zaf D),.sl 5 (zal R)],.cell (.int (f:Int))] = rL (zat (C f) 0 R.length) :=
 zeF (zai h.h1 (zaa rfl (zai (zmT hf) (zaa rfl (zaH (k:=f) rfl hf (zan (zzB h.nm hf) rfl))))))
theorem zF1 {f:Nat} (hf:f < R.length):zcw [.agg [.sl 3 (zaf D),.sl 5 (zal R)],.cell (.int (f:Int))] = rL (zat (C f) 0 R.length) :=
 zhi (zai h.h2 (zaa rfl (zai (zu6 h.r4 hf) (zaa rfl (zaH (k:=f) rfl hf (zan (zqk h.nm hf) rfl))))))
theorem zqa {f:Nat} (hf:f < R.length):za3 [.agg [.sl 3 (zaf D),.sl 5 (zal R)],.cell (.int (f:Int))] = rL (zat (itI C R.length f R.length) 0 R.length) :=
 zyF h.nm h.r4 h.hi h.h1 hf
end
theorem zDi {C:Nat → Nat → Bool} {m f x:Nat} (hf:f < m) (hx:x < m) (h:C f x = true):itI C m f m x = true :=
 zlN hf f hf (zh6 f m) x hx h
theorem zok {S S':Nat → Bool} {m:Nat} (h:∀ x,x < m → S x = true → S' x = true):∀ y ∈ zat S 0 m,(zat S' 0 m).contains y = true:=fun y hy => by
 obtain ⟨j,rfl,hj,hS⟩:=znd hy
 rw [zhZ S' hj]
 exact h j hj hS
end Go.Proofs.YtcpcagdialnbeaaGreat
namespace Go.Proofs.YtcpcagdialnbeaaGreat
open Go Go.RowKit
section
variable {D:List DM} {R:List PM} {C:Nat → Nat → Bool}
theorem ztI {ds fs:List (List AC)} {y:Int} (hp:zod ds fs) :
  evM zdb 100000 (.run (zbC 3 (cOf Tryz.f3))) [] [(3,.box [.sl 3 ds,.sl 5 fs]),(4,.v (.cell (.int y)))] = some (.v (.cell (.bool true))):=by
 obtain ⟨D,R,rfl,rfl,hi,hv⟩:=zlC hp.1
 have none_:zbA [.agg [.sl 3 (zaf D),.sl 5 (zal R)],.cell (.int y)] = rL [] → zcw [.agg [.sl 3 (zaf D),.sl 5 (zal R)],.cell (.int y)] = rL [] → evM zdb 100000 (.run (zbC 3 (cOf Tryz.f3))) [] [(3,.box [.sl 3 (zaf D),.sl 5 (zal R)]),(4,.v (.cell (.int y)))] = some (.v (.cell (.bool true))):=fun g1 g2 =>
  zho (zan g1 (zan g2 (zai (zgT [] (by simp)) (zaa rfl (zac rfl (zan g2 (zai (zgT [] (by simp)) rfl)))))))
 rcases hv with ⟨h1,h2⟩ | ⟨C,hv⟩
 ·exact none_ (zFg h1 y) (zFz h2 y)
 by_cases hy:0 ≤ y ∧ y < R.length
 rotate_left
 ·exact none_ (zGP hv hy) (zGW hv hy)
 obtain ⟨f,rfl⟩:∃ f:Nat,y = (f:Int):=⟨y.toNat,by omega⟩
 have hf:f < R.length:=by omega
 have hR:=hv.r4
 have hl:=zbZ (C f) 0 R.length
 have gi:=zvm hv hf
 have gs:=zF1 hv hf
 by_cases h0:(zat (C f) 0 R.length).length = 0
 ·rw [List.length_eq_zero_iff.1 h0] at gi gs
  exact none_ gi gs
 have heq:=zgT (zat (C f) 0 R.length) (by omega)
 have hpos:0 < (zat (C f) 0 R.length).length:=by omega
 have b1:=zwt (List.getElem_mem hpos)
 have hlast:(zat (C f) 0 R.length).length - 1 < (zat (C f) 0 R.length).length:=by omega
 have b2:=zwt (List.getElem_mem hlast)
 have w:zae (((((zad (zat (C f) 0 R.length)).length:Nat):Int)) - 1) = (((zat (C f) 0 R.length).length - 1:Nat):Int):=by rw [zab,wr (by omega) (by omega)]; omega
 have hl2:=zbZ (itI C R.length f R.length) 0 R.length
 refine zho (zan gi (zan gs (zai heq (zaa rfl (zaa (eqf (by rw [zab]; omega)) (zai (zqi _ (by omega) (zs6 _ _ _)) (zac rfl (zaR hpos (zac (decide_eq_true (by omega)) ?_)))))))))
 rw [w]
 exact zaR hlast (zac (decide_eq_true (by rw [zaF]; omega)) (zan (zqa hv hf) (zai (zsh (zat (C f) 0 R.length) (zat (itI C R.length f R.length) 0 R.length) (by omega) (by omega) (zok fun x hx h => zDi hf hx h)) rfl)))
end
theorem zqe (A:Option Addr) (n c:Nat) (w:World) (h:zdi w A n c):Calls Tryz.prog 3 #[.slice A n c] w fun e w' => e = .returned (.bool true) ∧ Below w.heap.size w w' :=
 znD (fun _ _ _ hp _ => ztI hp) (fun _ _ _ _ h => zpn h) A n c w h
end Go.Proofs.YtcpcagdialnbeaaGreat

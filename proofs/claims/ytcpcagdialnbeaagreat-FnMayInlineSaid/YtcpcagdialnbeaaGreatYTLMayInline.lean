/- What this law needs beside: its draw, its rest over values, its models. -/
import Derived.Test.YtcpcagdialnbeaaGreatY37
import Derived.StillTailTactics
import Derived.Deep.RegionHeld3
import Derived.WalkKit
set_option linter.unusedVariables false
set_option linter.unusedSimpArgs false
namespace Go.Proofs.YtcpcagdialnbeaaGreat
open Go Go.RowKit Go.BigFrame
def zuX (B:Nat) (w0:World) (v:Value) (w':World):Prop:=∃ N p' D1 d1 d2 E1 e1 e2 ds fs,v = .agg #[.slice D1 d1 d2,.slice E1 e1 e2] ∧ Rep p' w' (.slice D1 d1 d2) (.sl 3 ds) ∧ Rep p' w' (.slice E1 e1 e2) (.sl 5 fs) ∧ zod ds fs ∧ Evo (fun _ => False) (zkO B N) w0 p' w' ∧ Zp p' w'
set_option maxHeartbeats 4000000 in
theorem zmd {B:Nat} {A:Option Addr} {n c:Nat} {w:World} (hB:B ≤ w.heap.size) (h:CodeB B w A n c) :
  Calls Tryz.prog 25 #[.slice A n c] w fun e w' => ∃ v y,e = .returned (.tuple #[v,.int .i64 y]) ∧ (y ∈ ([1,2,3,1,3,0,-1,4]:List Int)) ∧ zuX B w v w':=by
 have hnr:=znU (B:=B) (w:=w.alloc (.cells #[.slice none 0 0,.slice none 0 0] 26)) (by simp; omega) (CodeB.alloc h hB _)
 have HR:=Lib.hid hnr
 clear hnr h
 go_enter Tryz.func25,Tryz.ntmps25
 go_wp2_with fail
 refine HR.out.mono ?_
 rintro e w2 ⟨rfl,N,ns,hns,ht,hs2,hev⟩
 have hev0:=(zgp B N w (.cells #[.slice none 0 0,.slice none 0 0] 26) (fun _ => False)).trans (hev (fun _ => False)) (C:=fun _ => False) (fun _ _ h => h) (fun _ _ h => h)
 have hx2:=((hev (fun _ => False)).block w.heap.size (by simp) (fun h => h)).trans (heap_alloc_new w (.cells #[.slice none 0 0,.slice none 0 0] 26))
 have hs1:(w.alloc (.cells #[.slice none 0 0,.slice none 0 0] 26)).heap.size = w.heap.size + 1:=by simp
 rw [hs1] at ht hs2 ⊢
 have hse:=zmx hns (by omega) (zwN (by omega) N) ht
 have HS:=Lib.hid hse
 have HE:=Lib.hid hev0
 clear hse hev0 hev HR ht
 go_wp2_with fail
 refine HS.out.mono ?_
 rintro e w3 ⟨D1,d1,d2,E1,e1,e2,p3,ds,fs,pos,rfl,r0,r1,hf,hev3,hz3,ht3,hpos⟩
 have hne:w.heap.size ≠ w.heap.size + 1:=by omega
 have hb3:=ht3.lt
 have hx3:=(hev3.block w.heap.size (by omega) hne).trans hx2
 have hp3:=(hev3.same w.heap.size (by omega) hne).trans (zh7 hB)
 have hea:=zaO (p:=p3) (w:=w3) (.cells #[.slice D1 d1 d2,.slice E1 e1 e2] 26) 0 (fun _ => False)
 have hz4:Zp (upP p3 w3.heap.size 0) (w3.alloc (.cells #[.slice D1 d1 d2,.slice E1 e1 e2] 26)):=⟨fun c hc => by
  rw [zby]
  split
  ·rfl
  ·exact hz3.1 c (by simp at hc; omega),fun _ _ _ => trivial⟩
 have hx4:=(hea.block w.heap.size (by omega) (fun h => h)).trans hx3
 have hp4:=(hea.same w.heap.size (by omega) (fun h => h)).trans hp3
 have hx5:=heap_alloc_new w3 (.cells #[.slice D1 d1 d2,.slice E1 e1 e2] 26)
 have hs4:(w3.alloc (.cells #[.slice D1 d1 d2,.slice E1 e1 e2] 26)).heap.size = w3.heap.size + 1:=by simp
 have hE4:=(HE.out.trans hev3 (C:=fun _ => False) (fun _ _ h => h) (fun q hq e => absurd hq (by have:q = w.heap.size + 1:=e; omega))).trans hea (C:=fun _ => False) (fun _ _ h => h) (fun _ _ h => h)
 have t4:=r0.evo hea
 have t5:=r1.evo hea
 have ht4:=ht3.evo hea
 have c0:(w3.alloc (.cells #[.slice D1 d1 d2,.slice E1 e1 e2] 26)).cell? ⟨w3.heap.size,0,none⟩ = some (.slice D1 d1 d2):=zam (j:=0) hx5 rfl
 have c1:(w3.alloc (.cells #[.slice D1 d1 d2,.slice E1 e1 e2] 26)).cell? ⟨w3.heap.size,1,none⟩ = some (.slice E1 e1 e2):=zam (j:=1) hx5 rfl
 have n1:w3.heap.size ≠ w.heap.size + 1:=by omega
 have n2:w.heap.size ≠ w3.heap.size:=by omega
 clear hea HS HE r0 r1 ht3 hz3 hev3 hx2 hx3 hp3 hs2 hs1
 go_wp2_with fail
 have h5lt:w3.heap.size < (w3.alloc (.cells #[.slice D1 d1 d2,.slice E1 e1 e2] 26)).heap.size:=by omega
 have h2lt:w.heap.size < (w3.alloc (.cells #[.slice D1 d1 d2,.slice E1 e1 e2] 26)).heap.size:=by omega
 clear hs4
 generalize w3.alloc (.cells #[.slice D1 d1 d2,.slice E1 e1 e2] 26) = W at *
 generalize upP p3 w3.heap.size 0 = p4 at *
 generalize w3.heap.size = c5 at *
 obtain ⟨y,hy,hone⟩:=zgn hns (pos:=pos) (by omega) 3 (xs:=[1,2,3,1,3,0,-1,4]) (by simp) (by simp) hz4 ht4
 have CK:Hid (Calls Tryz.prog 40 #[.pointer (some ⟨w.heap.size + 1,0,none⟩),.slice (some ⟨W.heap.size,0,none⟩) 8 8] (W.drew.alloc (.cells #[.int .i64 1,.int .i64 2,.int .i64 3,.int .i64 1,.int .i64 3,.int .i64 0,.int .i64 (-1),.int .i64 4] 3)) fun e w' => e = .returned (.int .i64 y) ∧ ∃ p',Evo (· = w.heap.size + 1) p4 W p' w' ∧ Zp p' w'):=Lib.hid (by
  refine Calls.mono (hone _ (.inr rfl)) ?_
  rintro e w' ⟨h1,p',h2,h3,_⟩
  exact ⟨h1,p',h2,h3⟩)
 have H4:=Lib.hid hE4
 have H5:=Lib.hid t4
 have H6:=Lib.hid t5
 clear hone hE4 t4 t5 hz4 ht4
 go_region_held3 (fun w' => w'.cell? ⟨c5,0,none⟩ = some (.slice D1 d1 d2) ∧ w'.cell? ⟨c5,1,none⟩ = some (.slice E1 e1 e2))
  (first | go_keep | (exact ⟨by assumption,by assumption⟩) | (exact ⟨(World.cell?_alloc_lt _ _ _ h5lt).trans c0,(World.cell?_alloc_lt _ _ _ h5lt).trans c1⟩) | (exact ⟨by rw [World.cell?_setCell_far _ _ _ _ n2,World.cell?_setCell_far _ _ _ _ n2]; assumption,by rw [World.cell?_setCell_far _ _ _ _ n2,World.cell?_setCell_far _ _ _ _ n2]; assumption⟩))
  (first | (go_at_call 40; refine CK.out.mono ?_; rintro e w' ⟨rfl,p',hev',hz'⟩; have q2:=(hev'.block _ h2lt hne).trans hx4; have e0:w'.cell? ⟨c5,0,none⟩ = some (.slice D1 d1 d2):=(World.cell?_of_block (hev'.block _ h5lt n1)).trans c0; have e1':w'.cell? ⟨c5,1,none⟩ = some (.slice E1 e1 e2):=(World.cell?_of_block (hev'.block _ h5lt n1)).trans c1; have k0:w'.cell? ⟨w.heap.size,0,none⟩ = some (.slice none 0 0):=zam (j:=0) q2 rfl; have k1:w'.cell? ⟨w.heap.size,1,none⟩ = some (.slice none 0 0):=zam (j:=1) q2 rfl; have k3:=frozen_of_row w' _ 0 _ _ q2; have k4:=frozen_of_row w' _ 1 _ _ q2))
 have hp5:=(hev'.same _ h2lt hne).trans hp4
 have g2:=zjv (x0:=.slice D1 d1 d2) (x1:=.slice E1 e1 e2) q2
 have y0:=zam (j:=0) g2 rfl
 have y1:=zam (j:=1) g2 rfl
 have hevc:Evo (· = w.heap.size) p' w' p' (zlw w' w.heap.size (.slice D1 d1 d2) (.slice E1 e1 e2)):=zlp p' hp5
 have hfin:zuX B w (.agg #[.slice D1 d1 d2,.slice E1 e1 e2]) (zlw w' w.heap.size (.slice D1 d1 d2) (.slice E1 e1 e2)) :=
  ⟨N,p',D1,d1,d2,E1,e1,e2,ds,fs,rfl,(H5.out.evo hev').evo hevc,(H6.out.evo hev').evo hevc,hf,(H4.out.trans hev' (C:=fun _ => False) (fun _ _ h => h) (fun q hq e => absurd hq (by have:q = w.heap.size + 1:=e; omega))).trans hevc (fun _ _ h => h) (fun q hq e => absurd hq (by have:q = w.heap.size:=e; omega)),⟨fun y hy => hz'.1 y (Nat.le_trans hevc.size hy),fun _ _ _ => trivial⟩⟩
 have HF:=Lib.hid hfin
 clear hfin hevc g2 q2 hev' CK H4 H5 H6 hx4 hx5 c0 c1 e0 e1' k0 k1 k3 k4
 go_wp2_with fail
 refine bodyPost_ret (v:=.tuple #[.agg #[.slice D1 d1 d2,.slice E1 e1 e2],.int .i64 y]) ?_ rfl ⟨_,y,rfl,hy,HF.out⟩
 have y0':(((w'.setCell ⟨w.heap.size,0,none⟩ (.slice D1 d1 d2)).setCell ⟨w.heap.size,1,none⟩ (.slice E1 e1 e2))).cell? ⟨w.heap.size,0,none⟩ = some (.slice D1 d1 d2):=y0
 have y1':(((w'.setCell ⟨w.heap.size,0,none⟩ (.slice D1 d1 d2)).setCell ⟨w.heap.size,1,none⟩ (.slice E1 e1 e2))).cell? ⟨w.heap.size,1,none⟩ = some (.slice E1 e1 e2):=y1
 simp [results,Tryz.results25,go_sem,y0',y1']
theorem zoO {A:Option Addr} {n c:Nat} {w:World} (h:zdi w A n c) :
  Calls Tryz.prog 25 #[.slice A n c] w fun e w' => ∃ v y,e = .returned (.tuple #[v,.int .i64 y]) ∧ (y ∈ ([1,2,3,1,3,0,-1,4]:List Int)) ∧ zdY w v w':=zmd (Nat.le_refl _) h
end Go.Proofs.YtcpcagdialnbeaaGreat
set_option maxRecDepth 100000
namespace Go.Proofs.YtcpcagdialnbeaaGreat
open Go Go.RowKit
noncomputable def X_laws_FnMayInline:Ctx:={ P:=Tryz.prog,L:=lay,F:=sig.has,E:=ext,fn:=Tryz.f7,lv:=[(0,[3,4,5,6,7,8])],jv:=[],tp:=[] }
noncomputable def zcN (l12:List (List AC)) (l13:List (List AC)) (n14:Int) (b15:Bool) (b16:Bool) (l17:List (List AC)) (n18:Int):Option AV:=GL X_laws_FnMayInline 0 [(3,.box [.sl 3 l12,.sl 5 l13]),(4,.v (.cell (.int n14))),(5,.v (.cell (.bool b15))),(6,.v (.cell (.bool b16))),(7,.v (.cell (.sl 1 l17))),(8,.v (.cell (.int n18)))]
theorem zgM {l12:List (List AC)} {l13:List (List AC)} {n14:Int} {b15:Bool} {b16:Bool} {l17:List (List AC)} {n18:Int} {r:AV} (h:( bif (decide (n18 < ((l17.length:Nat):Int))) then bif b16 then zcN l12 l13 n14 b15 true l17 (zae (n18 + 1)) else zdZ l17 n18 [.int 0] fun n19 => zao (za3 [.agg [.sl 3 l12,.sl 5 l13],.cell (.int n19)]) false [(false,[.sl 1 []])] fun l20 => zao (zgf [.cell (.sl 1 l20),.cell (.int n14)]) false [(false,[.bool false])] fun b21 => zcN l12 l13 n14 b15 b21 l17 (zae (n18 + 1)) else bif (decide (n14 > 0)) then some (.v (.cell (.bool (b15 == (!b16))))) else some (.v (.cell (.bool (b15 == false)))):Option AV) = some r):zcN l12 l13 n14 b15 b16 l17 n18 = some r:=zut (X:=X_laws_FnMayInline) (n:=100000) (by kernel_rfl) (by kernel_rfl:(X_laws_FnMayInline.fn.body.bind fun c => zes 0 c []) = some (.loop (zjC (X_laws_FnMayInline.fn.body.bind fun c => zes 0 c [])),zpT (X_laws_FnMayInline.fn.body.bind fun c => zes 0 c []))) (Eq.trans (by kernel_rfl) h)
theorem zep {l1:List (List AC)} {l2:List (List AC)} {n3:Int} {r:AV} (h:( zao (zd2 [.agg [.sl 3 l1,.sl 5 l2],.cell (.int n3)]) false [(false,[.bool false])] fun b4 => zao (zbO [.agg [.sl 3 l1,.sl 5 l2],.cell (.int n3)]) false [(false,[.bool false])] fun b5 => bif (b4 != b5) then zao (zbO [.agg [.sl 3 l1,.sl 5 l2],.cell (.int n3)]) false [(false,[.bool false])] fun b6 => some (.v (.cell (.bool (b4 == b6)))) else zao (zaN [.agg [.sl 3 l1,.sl 5 l2]]) false [(false,[.bool false])] fun b7 => bif (!b7) then zao (zbO [.agg [.sl 3 l1,.sl 5 l2],.cell (.int n3)]) false [(false,[.bool false])] fun b8 => some (.v (.cell (.bool (b4 == b8)))) else bif (decide (n3 < 0)) then zao (zbO [.agg [.sl 3 l1,.sl 5 l2],.cell (.int n3)]) false [(false,[.bool false])] fun b9 => some (.v (.cell (.bool (b4 == b9)))) else bif (decide (n3 ≥ ((l2.length:Nat):Int))) then zao (zbO [.agg [.sl 3 l1,.sl 5 l2],.cell (.int n3)]) false [(false,[.bool false])] fun b10 => some (.v (.cell (.bool (b4 == b10)))) else zao (zbA [.agg [.sl 3 l1,.sl 5 l2],.cell (.int n3)]) false [(false,[.sl 1 []])] fun l11 => zcN l1 l2 n3 b4 false l11 0:Option AV) = some r):evM X_laws_FnMayInline 100000 (.run (zbC 3 (cOf Tryz.f7))) [] [(3,.box [.sl 3 l1,.sl 5 l2]),(4,.v (.cell (.int n3)))] = some r:=Eq.trans (by kernel_rfl) h
theorem znK:(zcd zak lay sig (zbC 3 (cOf Tryz.f7)) (stM 74)).isSome = true:=by kernel_rfl
def FnMayInlineR0:Code:=.region 0 #[⟨some 2,.assign (.const (.bool false)),4,"laws.go:3662",#[],none⟩] false
def FnMayInlineR1:Code:=.region 1 #[⟨some 9,.move (.tmp 0),22,"laws.go:3663",#[],none⟩,⟨some 10,.call ⟨.builtin .len,#[.tmp 9],#[22]⟩,3,"laws.go:3663",#[⟨0,.data⟩],none⟩,⟨some 11,.binOp .gtr 3 (.tmp 10) (.const (.int .i64 1048576)) 3,4,"laws.go:3663",#[⟨1,.data⟩],none⟩] false
def ztQ:Code:=.region 2 #[⟨some 2,.assign (.const (.bool true)),4,"laws.go:3664",#[],none⟩] false
def FnMayInlineR3:Code:=.region 3 #[⟨some 13,.move (.tmp 0),22,"laws.go:3666",#[],none⟩,⟨some 14,.call ⟨.value (.func 25),#[.tmp 13],#[22]⟩,27,"laws.go:3666",#[⟨0,.data⟩],none⟩,⟨some 12,.move (.tmp 14),27,"laws.go:3666",#[⟨1,.data⟩],none⟩,⟨some 15,.extract (.tmp 12) 0,26,"laws.go:3666",#[⟨2,.data⟩],none⟩,⟨some 16,.extract (.tmp 12) 1,3,"laws.go:3666",#[⟨2,.data⟩,{ on:=6,ground:=Go.Ground.gcOnly Go.Departure.lateStores }],none⟩,⟨some 3,.alloc 26,0,"laws.go:3666",#[],none⟩,⟨none,.store 26 (.tmp 3) (.tmp 15),0,"laws.go:3666",#[⟨5,.data⟩,⟨3,.data⟩,⟨1,.chain⟩,⟨0,.phase⟩,⟨1,.phase⟩,⟨2,.phase⟩,⟨3,.phase⟩,{ on:=4,ground:=Go.Ground.textOnly Go.Departure.lateStores },⟨5,.phase⟩],none⟩,⟨some 4,.assign (.tmp 16),3,"laws.go:3666",#[⟨4,.data⟩,⟨6,.chain⟩,⟨0,.phase⟩,⟨1,.phase⟩,⟨2,.phase⟩,⟨3,.phase⟩,⟨4,.phase⟩,⟨5,.phase⟩,⟨6,.phase⟩],none⟩] false
theorem zqf:cOf Tryz.f7 = .seq FnMayInlineR0 (.seq (.seq FnMayInlineR1 (.cond (.tmp 11) (.seq ztQ .ret) .skip)) (.seq FnMayInlineR3 (zbC 3 (cOf Tryz.f7)))):=by kernel_rfl
theorem ziU {m:Array Value} (h:m.size = 74):m = List.toArray (m.getD 0 undef :: m.getD 1 undef :: m.getD 2 undef :: m.getD 3 undef :: m.getD 4 undef :: m.getD 5 undef :: m.getD 6 undef :: m.getD 7 undef :: m.getD 8 undef :: m.getD 9 undef :: m.getD 10 undef :: m.getD 11 undef :: m.getD 12 undef :: m.getD 13 undef :: m.getD 14 undef :: m.getD 15 undef :: m.getD 16 undef :: m.getD 17 undef :: m.getD 18 undef :: m.getD 19 undef :: m.getD 20 undef :: m.getD 21 undef :: m.getD 22 undef :: m.getD 23 undef :: m.getD 24 undef :: m.getD 25 undef :: m.getD 26 undef :: m.getD 27 undef :: m.getD 28 undef :: m.getD 29 undef :: m.getD 30 undef :: m.getD 31 undef :: m.getD 32 undef :: m.getD 33 undef :: m.getD 34 undef :: m.getD 35 undef :: m.getD 36 undef :: m.getD 37 undef :: m.getD 38 undef :: m.getD 39 undef :: m.getD 40 undef :: m.getD 41 undef :: m.getD 42 undef :: m.getD 43 undef :: m.getD 44 undef :: m.getD 45 undef :: m.getD 46 undef :: m.getD 47 undef :: m.getD 48 undef :: m.getD 49 undef :: m.getD 50 undef :: m.getD 51 undef :: m.getD 52 undef :: m.getD 53 undef :: m.getD 54 undef :: m.getD 55 undef :: m.getD 56 undef :: m.getD 57 undef :: m.getD 58 undef :: m.getD 59 undef :: m.getD 60 undef :: m.getD 61 undef :: m.getD 62 undef :: m.getD 63 undef :: m.getD 64 undef :: m.getD 65 undef :: m.getD 66 undef :: m.getD 67 undef :: m.getD 68 undef :: m.getD 69 undef :: m.getD 70 undef :: m.getD 71 undef :: m.getD 72 undef :: m.getD 73 undef :: []):=by
 apply Array.ext'
 have h1:m.toList = (List.range 74).map (fun i => m.getD i undef):=by
  apply List.ext_getElem
  ·simp [h]
  ·intro i h1 h2
   simp only [Array.length_toList] at h1
   simp [Array.getD,h1]
 exact h1.trans rfl
set_option maxHeartbeats 4000000 in
theorem zq1 {f:Nat → Value} {A:Option Addr} {n c:Nat} {w:World}  (Q:Exit → Act → World → Prop) (hQ:∀ a':Act,a'.defers = [] → a'.tmps.size = 74 → a'.tmps.getD 0 undef = .slice A n c → Q .normal a' (w)) :
 FnMayInlineR0.wp Tryz.prog Q { tmps:=List.toArray (.slice A n c :: f 1 :: f 2 :: f 3 :: f 4 :: f 5 :: f 6 :: f 7 :: f 8 :: f 9 :: f 10 :: f 11 :: f 12 :: f 13 :: f 14 :: f 15 :: f 16 :: f 17 :: f 18 :: f 19 :: f 20 :: f 21 :: f 22 :: f 23 :: f 24 :: f 25 :: f 26 :: f 27 :: f 28 :: f 29 :: f 30 :: f 31 :: f 32 :: f 33 :: f 34 :: f 35 :: f 36 :: f 37 :: f 38 :: f 39 :: f 40 :: f 41 :: f 42 :: f 43 :: f 44 :: f 45 :: f 46 :: f 47 :: f 48 :: f 49 :: f 50 :: f 51 :: f 52 :: f 53 :: f 54 :: f 55 :: f 56 :: f 57 :: f 58 :: f 59 :: f 60 :: f 61 :: f 62 :: f 63 :: f 64 :: f 65 :: f 66 :: f 67 :: f 68 :: f 69 :: f 70 :: f 71 :: f 72 :: f 73 :: []),defers:=[] } w:=by
 unfold FnMayInlineR0
 go_wp2
 exact hQ _ rfl rfl rfl
theorem zq6 {m:Array Value} {A:Option Addr} {n c:Nat} {w:World}  (hs:m.size = 74) (m0:m.getD 0 undef = .slice A n c) (Q:Exit → Act → World → Prop) (hQ:∀ a':Act,a'.defers = [] → a'.tmps.size = 74 → a'.tmps.getD 0 undef = .slice A n c → Q .normal a' (w)) :
 FnMayInlineR0.wp Tryz.prog Q { tmps:=m,defers:=[] } w:=by
 have e:=ziU hs
 rw [m0] at e
 rw [e]
 exact zq1 (f:=fun i => m.getD i undef)  Q hQ
set_option maxHeartbeats 4000000 in
theorem zrG {f:Nat → Value} {A:Option Addr} {n c:Nat} {w:World} (hn:¬ (1048576:Int) < (n:Int)) (Q:Exit → Act → World → Prop) (hQ:∀ a':Act,a'.defers = [] → a'.tmps.size = 74 → a'.tmps.getD 0 undef = .slice A n c → a'.tmps.getD 11 undef = .bool false → Q .normal a' (w)) :
 FnMayInlineR1.wp Tryz.prog Q { tmps:=List.toArray (.slice A n c :: f 1 :: f 2 :: f 3 :: f 4 :: f 5 :: f 6 :: f 7 :: f 8 :: f 9 :: f 10 :: f 11 :: f 12 :: f 13 :: f 14 :: f 15 :: f 16 :: f 17 :: f 18 :: f 19 :: f 20 :: f 21 :: f 22 :: f 23 :: f 24 :: f 25 :: f 26 :: f 27 :: f 28 :: f 29 :: f 30 :: f 31 :: f 32 :: f 33 :: f 34 :: f 35 :: f 36 :: f 37 :: f 38 :: f 39 :: f 40 :: f 41 :: f 42 :: f 43 :: f 44 :: f 45 :: f 46 :: f 47 :: f 48 :: f 49 :: f 50 :: f 51 :: f 52 :: f 53 :: f 54 :: f 55 :: f 56 :: f 57 :: f 58 :: f 59 :: f 60 :: f 61 :: f 62 :: f 63 :: f 64 :: f 65 :: f 66 :: f 67 :: f 68 :: f 69 :: f 70 :: f 71 :: f 72 :: f 73 :: []),defers:=[] } w:=by
 unfold FnMayInlineR1
 go_wp2
 exact hQ _ rfl rfl rfl rfl
theorem zra {m:Array Value} {A:Option Addr} {n c:Nat} {w:World} (hn:¬ (1048576:Int) < (n:Int)) (hs:m.size = 74) (m0:m.getD 0 undef = .slice A n c) (Q:Exit → Act → World → Prop) (hQ:∀ a':Act,a'.defers = [] → a'.tmps.size = 74 → a'.tmps.getD 0 undef = .slice A n c → a'.tmps.getD 11 undef = .bool false → Q .normal a' (w)) :
 FnMayInlineR1.wp Tryz.prog Q { tmps:=m,defers:=[] } w:=by
 have e:=ziU hs
 rw [m0] at e
 rw [e]
 exact zrG (f:=fun i => m.getD i undef) hn Q hQ
set_option maxHeartbeats 4000000 in
theorem zrh {f:Nat → Value} {A:Option Addr} {n c:Nat} {w:World} {post:Option Addr → Nat → Nat → Option Addr → Nat → Nat → Int → World → Prop} (hcall:Calls Tryz.prog 25 #[.slice A n c] w fun e w' => ∃ D1 d1 d2 E1 e1 e2 y0,e = .returned (.tuple #[.agg #[.slice D1 d1 d2,.slice E1 e1 e2],.int .i64 y0]) ∧ post D1 d1 d2 E1 e1 e2 y0 w') (Q:Exit → Act → World → Prop) (hQ:∀ D1 d1 d2 E1 e1 e2 (y0:Int) (w':World),post D1 d1 d2 E1 e1 e2 y0 w' → ∀ a':Act,a'.defers = [] → a'.tmps.size = 74 → a'.tmps.getD 0 undef = .slice A n c → a'.tmps.getD 3 undef = .pointer (some ⟨w'.heap.size,0,none⟩) → a'.tmps.getD 4 undef = .int .i64 y0 → Q .normal a' (w'.alloc (.cells #[.slice D1 d1 d2,.slice E1 e1 e2] 26))) :
 FnMayInlineR3.wp Tryz.prog Q { tmps:=List.toArray (.slice A n c :: f 1 :: f 2 :: f 3 :: f 4 :: f 5 :: f 6 :: f 7 :: f 8 :: f 9 :: f 10 :: f 11 :: f 12 :: f 13 :: f 14 :: f 15 :: f 16 :: f 17 :: f 18 :: f 19 :: f 20 :: f 21 :: f 22 :: f 23 :: f 24 :: f 25 :: f 26 :: f 27 :: f 28 :: f 29 :: f 30 :: f 31 :: f 32 :: f 33 :: f 34 :: f 35 :: f 36 :: f 37 :: f 38 :: f 39 :: f 40 :: f 41 :: f 42 :: f 43 :: f 44 :: f 45 :: f 46 :: f 47 :: f 48 :: f 49 :: f 50 :: f 51 :: f 52 :: f 53 :: f 54 :: f 55 :: f 56 :: f 57 :: f 58 :: f 59 :: f 60 :: f 61 :: f 62 :: f 63 :: f 64 :: f 65 :: f 66 :: f 67 :: f 68 :: f 69 :: f 70 :: f 71 :: f 72 :: f 73 :: []),defers:=[] } w:=by
 unfold FnMayInlineR3
 go_wp2_with fail
 refine hcall.mono ?_
 rintro e w' ⟨D1,d1,d2,E1,e1,e2,y0,rfl,hp⟩
 go_wp2
 exact hQ _ _ _ _ _ _ _ _ hp _ rfl rfl rfl rfl rfl
theorem zry {m:Array Value} {A:Option Addr} {n c:Nat} {w:World} {post:Option Addr → Nat → Nat → Option Addr → Nat → Nat → Int → World → Prop} (hcall:Calls Tryz.prog 25 #[.slice A n c] w fun e w' => ∃ D1 d1 d2 E1 e1 e2 y0,e = .returned (.tuple #[.agg #[.slice D1 d1 d2,.slice E1 e1 e2],.int .i64 y0]) ∧ post D1 d1 d2 E1 e1 e2 y0 w') (hs:m.size = 74) (m0:m.getD 0 undef = .slice A n c) (Q:Exit → Act → World → Prop) (hQ:∀ D1 d1 d2 E1 e1 e2 (y0:Int) (w':World),post D1 d1 d2 E1 e1 e2 y0 w' → ∀ a':Act,a'.defers = [] → a'.tmps.size = 74 → a'.tmps.getD 0 undef = .slice A n c → a'.tmps.getD 3 undef = .pointer (some ⟨w'.heap.size,0,none⟩) → a'.tmps.getD 4 undef = .int .i64 y0 → Q .normal a' (w'.alloc (.cells #[.slice D1 d1 d2,.slice E1 e1 e2] 26))) :
 FnMayInlineR3.wp Tryz.prog Q { tmps:=m,defers:=[] } w:=by
 have e:=ziU hs
 rw [m0] at e
 rw [e]
 exact zrh (f:=fun i => m.getD i undef) hcall Q hQ
set_option maxHeartbeats 4000000 in
theorem znF (hval:∀ (ds fs:List (List AC)) (y0:Int),zod ds fs → (y0 ∈ ([1,2,3,1,3,0,-1,4]:List Int)) → evM X_laws_FnMayInline 100000 (.run (zbC 3 (cOf Tryz.f7))) [] [(3,.box [.sl 3 ds,.sl 5 fs]),(4,.v (.cell (.int y0)))] = some (.v (.cell (.bool true))))
  (hdraw:∀ (A:Option Addr) (n c:Nat) (w:World),zdi w A n c → Calls Tryz.prog 25 #[.slice A n c] w fun e w' => ∃ v y0,e = .returned (.tuple #[v,.int .i64 y0]) ∧ (y0 ∈ ([1,2,3,1,3,0,-1,4]:List Int)) ∧ zdY w v w')
  (A:Option Addr) (n c:Nat) (w:World) (h:zdi w A n c):Calls Tryz.prog 7 #[.slice A n c] w fun e w' => e = .returned (.bool true) ∧ Below w.heap.size w w':=by
 by_cases hbig:1048576 < n
 ·go_enter Tryz.func7,Tryz.ntmps7
  go_wp2_with fail
  go_ret
  exact ⟨rfl,Below.refl _ _⟩
 ·refine calls_of_wp Tryz.func7 (c:=cOf Tryz.f7) (by kernel_rfl) ?_
  rw [zqf]
  have hs0:(#[Value.slice A n c] ++ Array.replicate (Tryz.f7.ntmps - (#[.slice A n c]:Array Value).size) undef).size = 74:=by simp [Tryz.ntmps7]
  have h0:(#[Value.slice A n c] ++ Array.replicate (Tryz.f7.ntmps - (#[.slice A n c]:Array Value).size) undef).getD 0 undef = Value.slice A n c:=by simp [Array.getD]
  generalize (#[Value.slice A n c] ++ Array.replicate (Tryz.f7.ntmps - (#[.slice A n c]:Array Value).size) undef) = m0 at hs0 h0
  refine wp_seq (zq6 hs0 h0 _ fun a1 hd1 hs1 h1 => ?_)
  obtain ⟨m1,dd⟩:=a1
  have hd1:dd = []:=hd1
  subst hd1
  refine wp_seq (wp_seq (zra (by omega) hs1 h1 _ fun a2 hd2 hs2 h2 h29 => ?_))
  obtain ⟨m2,dd⟩:=a2
  have hd2:dd = []:=hd2
  subst hd2
  refine wp_cond (t:=false) h29 ?_
  simp only [Bool.false_eq_true,if_false]
  refine wp_skip ?_
  show Code.wp _ (.seq FnMayInlineR3 (zbC 3 (cOf Tryz.f7))) _ ⟨m2,[]⟩ w
  refine wp_seq (zry (post:=fun D1 d1 d2 E1 e1 e2 y0 w' => (y0 ∈ ([1,2,3,1,3,0,-1,4]:List Int)) ∧ zdY w (.agg #[.slice D1 d1 d2,.slice E1 e1 e2]) w') ?_ hs2 h2 _ ?_)
  ·refine (hdraw A n c w h).mono ?_
   rintro e w' ⟨v,y0,rfl,hy,N,p',D1,d1,d2,E1,e1,e2,ds,fs,rfl,hd⟩
   exact ⟨_,_,_,_,_,_,_,rfl,hy,N,p',D1,d1,d2,E1,e1,e2,ds,fs,rfl,hd⟩
  rintro D1 d1 d2 E1 e1 e2 y0 w1 ⟨hy,N,p1,D1',d1',d2',E1',e1',e2',ds,fs,hv,hrep,hrep2,hf,hev,hz⟩ a3 hd3 hs3 h3 h33 h34
  injection hv with hv
  have hv:=congrArg Array.toList hv
  obtain ⟨⟨rfl,rfl,rfl⟩,rfl,rfl,rfl⟩:(D1 = D1' ∧ d1 = d1' ∧ d2 = d2') ∧ E1 = E1' ∧ e1 = e1' ∧ e2 = e2':=by simpa using hv
  obtain ⟨m3,dd⟩:=a3
  have hd3:dd = []:=hd3
  subst hd3
  have hs3:m3.size = 74:=hs3
  have h33:m3.getD 3 undef = .pointer (some ⟨w1.heap.size,0,none⟩):=h33
  have h34:m3.getD 4 undef = .int .i64 y0:=h34
  have hea:=zaO (p:=p1) (w:=w1) (.cells #[.slice D1 d1 d2,.slice E1 e1 e2] 26) 0 (fun _ => False)
  have hx:=heap_alloc_new w1 (.cells #[.slice D1 d1 d2,.slice E1 e1 e2] 26)
  have hz1:Zp (upP p1 w1.heap.size 0) (w1.alloc (.cells #[.slice D1 d1 d2,.slice E1 e1 e2] 26)):=⟨fun c hc => by
   rw [zby]
   split
   ·rfl
   ·exact hz.1 c (by simp at hc; omega),fun _ _ _ => trivial⟩
  have hE:=hev.trans hea (C:=fun _ => False) (fun _ _ h => h) (fun _ _ h => h)
  have hr1:=hrep.evo hea
  have hr2:=hrep2.evo hea
  have hK:zoL (upP p1 w1.heap.size 0) (w1.alloc (.cells #[.slice D1 d1 d2,.slice E1 e1 e2] 26)) m3 74 [(3,.box [.sl 3 ds,.sl 5 fs]),(4,.v (.cell (.int y0)))] (fun x => w.heap.size ≤ x):=by
   have look:∀ t x,List.lookup t [(3,.box [.sl 3 ds,.sl 5 fs]),(4,.v (.cell (.int y0)))] = some x → (t = 3 ∧ x = AV.box [.sl 3 ds,.sl 5 fs]) ∨ (t = 4 ∧ x = AV.v (.cell (.int y0))) ∨ False:=fun t x hx => by
    simp only [List.lookup_cons] at hx
    by_cases h3:t = 3
    ·subst h3; simp at hx; exact .inl ⟨rfl,hx.symm⟩
    rw [show (t == 3) = false by simpa using h3] at hx
    by_cases h4:t = 4
    ·subst h4; simp at hx; exact .inr (.inl ⟨rfl,hx.symm⟩)
    rw [show (t == 4) = false by simpa using h4] at hx
    simp at hx
   refine ⟨fun t x hx' => ?_,fun t x hx' => ?_,fun t t' cs cs' x ht h1 h2 h3 h4 => ?_⟩
   ·rcases look t x hx' with ⟨rfl,rfl⟩ | ⟨rfl,rfl⟩ | h
    ·exact ⟨by omega,_,_,_,h33,hx,hr1,hr2,trivial⟩
    ·exact ⟨by omega,by rw [h34]; exact .int _⟩
    ·exact h.elim
   ·rcases look t x hx' with ⟨rfl,rfl⟩ | ⟨rfl,rfl⟩ | h
    ·exact .inr ⟨_,_,rfl,h33,by rw [zby,if_pos rfl],hev.size⟩
    ·exact .inl ⟨_,rfl⟩
    ·exact h.elim
   ·rcases look _ _ h1 with ⟨rfl,_⟩ | ⟨_,h⟩ | h
    ·rcases look _ _ h2 with ⟨rfl,_⟩ | ⟨_,h⟩ | h
     ·exact ht rfl
     ·cases h
     ·exact h.elim
    ·cases h
    ·exact h.elim
  obtain ⟨O,hO⟩:=Option.isSome_iff_exists.1 znK
  have hI:=zhz hs3 hK hz1 (fun x hx => Nat.le_trans hE.size hx)
  refine zcn (zlv (X:=X_laws_FnMayInline) (a:={ tmps:=m3,defers:=[] }) zcZ zfv vok (hval ds fs y0 hf hy) (zcK _ _ _) (zjx fun t x hx => (hK.lt t x hx).1) hO hI rfl hE) ?_
  rintro e w' ⟨v,rfl,p',hsr,_,_,hev',hz'⟩
  have hsr:Rep p' w' v (.bool true):=hsr
  cases hsr
  exact ⟨rfl,hev'.os,hev'.tape,hev'.output,hev'.size,fun b hb => hev'.block b hb (fun h => h)⟩
end Go.Proofs.YtcpcagdialnbeaaGreat
namespace Go.Proofs.YtcpcagdialnbeaaGreat
open Go
def zr6:List Int → Int → List Int
 | [],x => [x]
 | y :: ys,x => if y ≥ x then (if y > x then x :: y :: ys else y :: ys) else y :: zr6 ys x
def zat (S:Nat → Bool) (a m:Nat):List Int:=((List.range' a m).filter S).map fun i:Nat => (i:Int)
theorem zvF {S:Nat → Bool} {a m:Nat}:∀ y ∈ zat S a m,(a:Int) ≤ y:=by
 intro y hy
 unfold zat at hy
 obtain ⟨i,hi,rfl⟩:=List.mem_map.1 hy
 have:=List.mem_range'_1.1 (List.mem_filter.1 hi).1
 omega
theorem zxT {x:Int}:∀ {l:List Int},(∀ y ∈ l,x < y) → zr6 l x = x :: l
 | [],_ => rfl
 | y :: ys,h => by
  have:=h y List.mem_cons_self
  unfold zr6
  rw [if_pos (by omega),if_pos (by omega)]
theorem zjy (S:Nat → Bool) (a m:Nat):zat S a (m + 1) = if S a then (a:Int) :: zat S (a + 1) m else zat S (a + 1) m:=by
 unfold zat
 rw [List.range'_succ,List.filter_cons]
 split <;> rfl
theorem zjB {S S':Nat → Bool}:∀ {m a:Nat},(∀ i,a ≤ i → i < a + m → S i = S' i) → zat S a m = zat S' a m
 | 0,_,_ => rfl
 | m + 1,a,h => by
  rw [zjy,zjy,h a (by omega) (by omega),zjB (m:=m) (a:=a + 1) fun i h1 h2 => h i (by omega) (by omega)]
theorem zo7 (S:Nat → Bool) (j:Nat):∀ (m a:Nat),a ≤ j → j < a + m → zr6 (zat S a m) (j:Int) = zat (fun i => S i || i == j) a m
 | 0,a,h1,h2 => by omega
 | m + 1,a,h1,h2 => by
  rw [zjy,zjy]
  by_cases hj:a = j
  ·subst hj
   have e:zat (fun i => S i || i == a) (a + 1) m = zat S (a + 1) m:=zjB fun i g1 g2 => by
    have:(i == a) = false:=by simp; omega
    rw [this,Bool.or_false]
   rw [beq_self_eq_true,Bool.or_true,if_pos rfl,e]
   split
   ·unfold zr6
    rw [if_pos (by omega),if_neg (by omega)]
   ·exact zxT fun y hy => by have:=zvF y hy; omega
  ·have e:(a == j) = false:=by simp [hj]
   rw [e,Bool.or_false]
   have ih:=zo7 S j m (a + 1) (by omega) (by omega)
   split
   ·conv => lhs; unfold zr6
    rw [if_neg (by omega),ih]
   ·exact ih
theorem zhZ (S:Nat → Bool) {n k:Nat} (hk:k < n):(zat S 0 n).contains (k:Int) = S k:=by
 rw [Bool.eq_iff_iff,List.contains_iff_mem]
 unfold zat
 rw [List.mem_map]
 constructor
 ·rintro ⟨i,hi,e⟩
  have:i = k:=by omega
  subst this
  exact (List.mem_filter.1 hi).2
 ·intro h
  exact ⟨k,List.mem_filter.2 ⟨List.mem_range'_1.2 ⟨by omega,by omega⟩,h⟩,rfl⟩
theorem zcl (xs:List Int) (x:Int):zad xs ++ [[AC.int x]] = zad (xs ++ [x]):=by simp [zad]
theorem zyx (xs:List Int) (n:Int) (hx:xs.length ≤ 1048576):ze4 [.cell (.sl 1 (zad xs)),.cell (.int n)] = some (.v (.cell (.bool (xs.contains n)))):=by
 have key:∀ m k:Nat,k + m = xs.length → zgB (zad xs) n (k:Int) = some (.v (.cell (.bool ((xs.drop k).contains n)))):=by
  intro m
  induction m with
  | zero =>
   intro k hk
   rw [List.drop_eq_nil_of_le (by omega)]
   exact zfM (zaa (decide_eq_false (by rw [zab]; omega)) rfl)
  | succ m ih =>
   intro k hk
   have hlt:k < xs.length:=by omega
   have hnext:=ih (k + 1) (by omega)
   rw [← wrk (by unfold zaE; omega)] at hnext
   rw [List.drop_eq_getElem_cons hlt,List.contains_cons]
   refine zfM (zac (decide_eq_true (by rw [zab]; omega)) (zaR hlt ?_))
   rcases e:(xs[k] == n) with _ | _
   ·rw [show (n == xs[k]) = false by rw [beq_eq_false_iff_ne] at e ⊢; exact fun h => e h.symm,Bool.false_or]
    exact zaa rfl hnext
   ·rw [show (n == xs[k]) = true by rw [beq_iff_eq] at e ⊢; exact e.symm,Bool.true_or]
    exact zac rfl rfl
 exact zpp (key xs.length 0 (by omega))
theorem zzl (xs:List Int) (n:Int) (hx:xs.length ≤ 1048576):zgi [.cell (.sl 1 (zad xs)),.cell (.int n)] = some (.v (.cell (.sl 1 (zad (zr6 xs n))))):=by
 have rest:∀ m k:Nat,k + m = xs.length → ∀ acc:List Int,acc.length ≤ k + 1 → zcy (zad xs) n (zad acc) true (k:Int) = some (.v (.cell (.sl 1 (zad (acc ++ xs.drop k))))):=by
  intro m
  induction m with
  | zero =>
   intro k hk acc ha
   rw [List.drop_eq_nil_of_le (by omega),List.append_nil]
   exact zey (zaa (decide_eq_false (by rw [zab]; omega)) (zaa rfl rfl))
  | succ m ih =>
   intro k hk acc ha
   have hlt:k < xs.length:=by omega
   have hnext:=ih (k + 1) (by omega) (acc ++ [xs[k]]) (by simp; omega)
   rw [← wrk (by unfold zaE; omega),List.append_assoc,List.singleton_append,← List.drop_eq_getElem_cons hlt] at hnext
   refine zey (zac (decide_eq_true (by rw [zab]; omega)) (zaa rfl (zaR hlt (zb5 (by rw [zab]; simp; omega) ?_))))
   rw [zcl]
   exact hnext
 have key:∀ m k:Nat,k + m = xs.length → ∀ acc:List Int,acc.length ≤ k → zcy (zad xs) n (zad acc) false (k:Int) = some (.v (.cell (.sl 1 (zad (acc ++ zr6 (xs.drop k) n))))):=by
  intro m
  induction m with
  | zero =>
   intro k hk acc ha
   rw [List.drop_eq_nil_of_le (by omega)]
   refine zey (zaa (decide_eq_false (by rw [zab]; omega)) (zac rfl (zb5 (by rw [zab]; simp; omega) ?_)))
   rw [zcl]
   rfl
  | succ m ih =>
   intro k hk acc ha
   have hlt:k < xs.length:=by omega
   rw [List.drop_eq_getElem_cons hlt]
   refine zey (zac (decide_eq_true (by rw [zab]; omega)) (zac rfl (zaR hlt ?_)))
   unfold zr6
   by_cases h1:xs[k] ≥ n
   ·rw [if_pos h1]
    refine zac (decide_eq_true h1) (zaR hlt ?_)
    by_cases h2:xs[k] > n
    ·rw [if_pos h2]
     have hnext:=rest m (k + 1) (by omega) (acc ++ [n] ++ [xs[k]]) (by simp; omega)
     rw [← wrk (by unfold zaE; omega),List.append_assoc,List.append_assoc] at hnext
     refine zac (decide_eq_true h2) (zb5 (by rw [zab]; simp; omega) (zaR hlt ?_))
     rw [zcl]
     refine zb5 (by rw [zab]; simp; omega) ?_
     rw [zcl,List.append_assoc]
     exact hnext
    ·rw [if_neg h2]
     have hnext:=rest m (k + 1) (by omega) (acc ++ [xs[k]]) (by simp; omega)
     rw [← wrk (by unfold zaE; omega),List.append_assoc] at hnext
     refine zaa (decide_eq_false h2) (zaR hlt (zb5 (by rw [zab]; simp; omega) ?_))
     rw [zcl]
     exact hnext
   ·rw [if_neg h1]
    have hnext:=ih (k + 1) (by omega) (acc ++ [xs[k]]) (by simp; omega)
    rw [← wrk (by unfold zaE; omega),List.append_assoc] at hnext
    refine zaa (decide_eq_false h1) (zaR hlt (zb5 (by rw [zab]; simp; omega) ?_))
    rw [zcl]
    exact hnext
 exact ztE (key xs.length 0 (by omega) [] (by simp))
end Go.Proofs.YtcpcagdialnbeaaGreat
namespace Go.Proofs.YtcpcagdialnbeaaGreat
open Go Go.RowKit
def wB (n:Int) (ys:List Int):List Int:=ys.filter fun y => !(y == n)
def wF (n:Int):List Int → List Int
 | [] => [n]
 | y :: ys => if y ≥ n then n :: wB n (y :: ys) else y :: wF n ys
theorem zFo {n:Int} {ys:List Int} (h:∀ y ∈ ys,n < y):wB n ys = ys:=by
 unfold wB
 rw [List.filter_eq_self]
 intro y hy
 have:=h y hy
 simp
 omega
theorem zvC (n y:Int) (ys:List Int):wB n (y :: ys) = if y = n then wB n ys else y :: wB n ys:=by
 unfold wB
 rw [List.filter_cons]
 by_cases h:y = n <;> simp [h]
theorem zx1 (S:Nat → Bool) (j:Nat):∀ (m a:Nat),wF (j:Int) (zat S a m) = zr6 (zat S a m) (j:Int)
 | 0,a => rfl
 | m + 1,a => by
  rw [zjy]
  split
  ·unfold wF zr6
   have hr:wB (j:Int) (zat S (a + 1) m) = zat S (a + 1) m ∨ (a:Int) < j:=by
    by_cases h:(a:Int) < j
    ·exact .inr h
    ·exact .inl (zFo fun y hy => by have:=zvF y hy; omega)
   by_cases h:(a:Int) ≥ (j:Int)
   ·rw [if_pos h,if_pos h,zvC,hr.resolve_right (by omega)]
    by_cases h2:(a:Int) = (j:Int)
    ·rw [if_pos h2,if_neg (by omega),h2]
    ·rw [if_neg h2,if_pos (by omega)]
   ·rw [if_neg h,if_neg h,zx1 S j m (a + 1)]
  ·exact zx1 S j m (a + 1)
theorem zxg (xs:List Int) (n:Int) (hx:xs.length ≤ 1048576):ze3 [.cell (.sl 1 (zad xs)),.cell (.int n)] = rL (wF n xs):=by
 have rest:∀ m k:Nat,k + m = xs.length → ∀ acc:List Int,acc.length ≤ k + 1 → zbj n (zad acc) true (zad xs) ((xs.length:Nat):Int) (k:Int) = rL (acc ++ wB n (xs.drop k)):=by
  intro m
  induction m with
  | zero =>
   intro k hk acc ha
   rw [List.drop_eq_nil_of_le (by omega)]
   refine zee (zaa (decide_eq_false (by omega)) (zaa rfl ?_))
   rw [show wB n [] = [] from rfl,List.append_nil]
  | succ m ih =>
   intro k hk acc ha
   have hlt:k < xs.length:=by omega
   have w:zae ((k:Int) + 1) = ((k + 1:Nat):Int):=wrk (by unfold zaE; omega)
   rw [List.drop_eq_getElem_cons hlt,zvC]
   refine zee (zac (decide_eq_true (by omega)) (zaR hlt ?_))
   rw [w]
   have app:∀ r,zbj n (zad (acc ++ [xs[k]])) true (zad xs) ((xs.length:Nat):Int) ((k + 1:Nat):Int) = some r → zdN (zad acc) [[.int xs[k]]] (fun l12 => zbj n l12 true (zad xs) ((xs.length:Nat):Int) ((k + 1:Nat):Int)) = some r:=fun r h => zb5 (by rw [zab]; simp; omega) (by rw [zcl]; exact h)
   by_cases h2:xs[k] = n
   ·rw [if_pos h2]
    refine zac (decide_eq_true (by omega)) (zaa rfl (zaa (nef h2) ?_))
    exact ih (k + 1) (by omega) acc (by omega)
   ·rw [if_neg h2]
    have nx:=ih (k + 1) (by omega) (acc ++ [xs[k]]) (by simp; omega)
    rw [List.append_assoc] at nx
    by_cases h:xs[k] ≥ n
    ·exact zac (decide_eq_true h) (zaa rfl (zac (net h2) (app _ (by rw [nx]; rfl))))
    ·exact zaa (decide_eq_false h) (zac (net h2) (app _ (by rw [nx]; rfl)))
 have key:∀ m k:Nat,k + m = xs.length → ∀ acc:List Int,acc.length ≤ k → zbj n (zad acc) false (zad xs) ((xs.length:Nat):Int) (k:Int) = rL (acc ++ wF n (xs.drop k)):=by
  intro m
  induction m with
  | zero =>
   intro k hk acc ha
   rw [List.drop_eq_nil_of_le (by omega)]
   refine zee (zaa (decide_eq_false (by omega)) (zac rfl (zb5 (by rw [zab]; simp; omega) ?_)))
   rw [zcl]
   rfl
  | succ m ih =>
   intro k hk acc ha
   have hlt:k < xs.length:=by omega
   have w:zae ((k:Int) + 1) = ((k + 1:Nat):Int):=wrk (by unfold zaE; omega)
   rw [List.drop_eq_getElem_cons hlt]
   refine zee (zac (decide_eq_true (by omega)) (zaR hlt ?_))
   rw [w]
   unfold wF
   by_cases h:xs[k] ≥ n
   ·rw [if_pos h,zvC]
    refine zac (decide_eq_true h) (zac rfl (zb5 (by rw [zab]; simp; omega) ?_))
    rw [zcl]
    by_cases h2:xs[k] = n
    ·rw [if_pos h2]
     refine zaa (nef h2) ?_
     rw [rest m (k + 1) (by omega) (acc ++ [n]) (by simp; omega),List.append_assoc]
     rfl
    ·rw [if_neg h2]
     refine zac (net h2) (zb5 (by rw [zab]; simp; omega) ?_)
     rw [zcl,rest m (k + 1) (by omega) (acc ++ [n] ++ [xs[k]]) (by simp; omega),List.append_assoc,List.append_assoc]
     rfl
   ·rw [if_neg h]
    refine zaa (decide_eq_false h) (zac (net (by omega)) (zb5 (by rw [zab]; simp; omega) ?_))
    rw [zcl,ih (k + 1) (by omega) (acc ++ [xs[k]]) (by simp; omega),List.append_assoc]
    rfl
 have:=key xs.length 0 (by omega) [] (by simp)
 refine zrD ?_
 rw [zab]
 exact this
theorem zbZ (S:Nat → Bool) (a m:Nat):(zat S a m).length ≤ m:=by
 unfold zat
 rw [List.length_map]
 have:=List.length_filter_le S (List.range' a m)
 simpa using this
def orS (A B:Nat → Bool):Nat → Bool:=fun i => A i || B i
def zlf (j:Nat):Nat → Bool:=fun i => i == j
theorem zAa {m j:Nat} (hj:j < m) (hm:m ≤ 1000) (A:Nat → Bool):ze3 [.cell (.sl 1 (zad (zat A 0 m))),.cell (.int (j:Int))] = rL (zat (orS A (zlf j)) 0 m):=by
 have hl:=zbZ A 0 m
 rw [zxg _ _ (by omega),zx1,zo7 A j m 0 (by omega) (by omega)]
 rfl
theorem zEX {m j:Nat} (hj:j < m) (hm:m ≤ 1000) (A:Nat → Bool):zgi [.cell (.sl 1 (zad (zat A 0 m))),.cell (.int (j:Int))] = rL (zat (orS A (zlf j)) 0 m):=by
 have hl:=zbZ A 0 m
 rw [zzl _ _ (by omega),zo7 A j m 0 (by omega) (by omega)]
 rfl
theorem znv (xs:List Int) (n:Int) (hx:xs.length ≤ 1048576):zgf [.cell (.sl 1 (zad xs)),.cell (.int n)] = rB (xs.contains n):=by
 have key:∀ m k:Nat,k + m = xs.length → zjj (zad xs) n (k:Int) = rB ((xs.drop k).contains n):=by
  intro m
  induction m with
  | zero =>
   intro k hk
   rw [List.drop_eq_nil_of_le (by omega)]
   exact zmj (zaa (decide_eq_false (by rw [zab]; omega)) rfl)
  | succ m ih =>
   intro k hk
   have hlt:k < xs.length:=by omega
   have hnext:=ih (k + 1) (by omega)
   rw [← wrk (by unfold zaE; omega)] at hnext
   rw [List.drop_eq_getElem_cons hlt,List.contains_cons]
   refine zmj (zac (decide_eq_true (by rw [zab]; omega)) (zaR hlt ?_))
   rcases e:(xs[k] == n) with _ | _
   ·rw [show (n == xs[k]) = false by rw [beq_eq_false_iff_ne] at e ⊢; exact fun h => e h.symm,Bool.false_or]
    exact zaa rfl hnext
   ·rw [show (n == xs[k]) = true by rw [beq_iff_eq] at e ⊢; exact e.symm,Bool.true_or]
    exact zac rfl rfl
 exact zvd (key xs.length 0 (by omega))
end Go.Proofs.YtcpcagdialnbeaaGreat
namespace Go.Proofs.YtcpcagdialnbeaaGreat
open Go
theorem zgb {D:List DM} {R:List PM} (n:Int):zbP [.agg [.sl 3 (zaf D),.sl 5 (zal R)],.cell (.int n)] = rB (decide (0 ≤ n ∧ n < R.length)):=zn4 n
end Go.Proofs.YtcpcagdialnbeaaGreat
namespace Go.Proofs.YtcpcagdialnbeaaGreat
open Go
theorem zzn (xs:List Int) (n:Int) (hx:xs.length ≤ 1048576):znb [.cell (.sl 1 (zad xs)),.cell (.int n)] = rB (xs.contains n):=by
 have key:∀ m k:Nat,k + m = xs.length → zg4 n (zad xs) ((xs.length:Nat):Int) (k:Int) = rB ((xs.drop k).contains n):=by
  intro m
  induction m with
  | zero =>
   intro k hk
   rw [List.drop_eq_nil_of_le (by omega)]
   exact zkB (zaa (decide_eq_false (by omega)) rfl)
  | succ m ih =>
   intro k hk
   have hlt:k < xs.length:=by omega
   have hnext:=ih (k + 1) (by omega)
   rw [← wrk (by unfold zaE; omega)] at hnext
   rw [List.drop_eq_getElem_cons hlt,List.contains_cons]
   refine zkB (zac (decide_eq_true (by omega)) (zaR hlt ?_))
   rcases e:(xs[k] == n) with _ | _
   ·rw [show (n == xs[k]) = false by rw [beq_eq_false_iff_ne] at e ⊢; exact fun h => e h.symm,Bool.false_or]
    exact zaa rfl hnext
   ·rw [show (n == xs[k]) = true by rw [beq_iff_eq] at e ⊢; exact e.symm,Bool.true_or]
    exact zac rfl rfl
 refine zte ?_
 rw [zab]
 exact key xs.length 0 (by omega)
theorem zxh {m:Nat} (hm:m ≤ 1000):∀ (s:Nat) (o n:Int) (kids:List (List AC)),Fit .expr [.int o,.int n,.sl 3 kids] → Nm m [.int o,.int n,.sl 3 kids] → cS [.int o,.int n,.sl 3 kids] < s → s ≤ 31 →
  ∃ C:Nat → Bool,∀ A:Nat → Bool,zbL [.cell (.sl 1 (zad (zat A 0 m))),.agg [.int o,.int n,.sl 3 kids]] = rL (zat (orS A C) 0 m) ∧ zb7 [.agg [.int o,.int n,.sl 3 kids],.cell (.sl 1 (zad (zat A 0 m)))] = rL (zat (orS A C) 0 m):=by
 intro s
 induction s with
 | zero => intro o n kids _ _ h; omega
 | succ s ihs =>
  intro o n kids hf hn hs hs31
  obtain ⟨_,_,hml,hk⟩:=zlR hf
  have hn':(o = 9 ∨ o = 10 → 0 ≤ n ∧ n < m) ∧ ∀ k,k < kids.length → Nm m (kids.getD k []):=by
   generalize hx:[AC.int o,AC.int n,AC.sl 3 kids] = x at hn
   cases hn with
   | node o' n' kids' h1 h2 =>
    simp only [List.cons.injEq,AC.int.injEq,AC.sl.injEq,true_and,and_true] at hx
    obtain ⟨rfl,rfl,rfl⟩:=hx
    exact ⟨h1,h2⟩
  have hcs:=zeL o n kids
  have kidC:∀ k,k < kids.length → ∃ C:Nat → Bool,∀ A:Nat → Bool,zbL [.cell (.sl 1 (zad (zat A 0 m))),.agg (kids.getD k [])] = rL (zat (orS A C) 0 m) ∧ zb7 [.agg (kids.getD k []),.cell (.sl 1 (zad (zat A 0 m)))] = rL (zat (orS A C) 0 m):=fun k hlt => by
   obtain ⟨o',n',ks,e,hf'⟩:=zez hk hlt
   have h1:=zlE hlt (o:=o) (n:=n)
   have h2:=hn'.2 k hlt
   rw [e] at h1 h2 ⊢
   exact ihs o' n' ks hf' h2 (by omega) (by omega)
  have rest:∀ j k:Nat,k + j = kids.length → ∃ C:Nat → Bool,∀ A:Nat → Bool,zb9 (zad (zat A 0 m)) kids ((kids.length:Nat):Int) (k:Int) = rL (zat (orS A C) 0 m) ∧ zcz (zad (zat A 0 m)) o n kids (k:Int) = rL (zat (orS A C) 0 m):=by
   intro j
   induction j with
   | zero =>
    intro k hkj
    refine ⟨fun _ => false,fun A => ?_⟩
    rw [show orS A (fun _ => false) = A by funext i; simp [orS]]
    exact ⟨zdu (zaa (decide_eq_false (by omega)) rfl),zik (zaa (decide_eq_false (by omega)) rfl)⟩
   | succ j ih =>
    intro k hkj
    have hlt:k < kids.length:=by omega
    obtain ⟨C1,h1⟩:=kidC k hlt
    obtain ⟨C2,h2⟩:=ih (k + 1) (by omega)
    obtain ⟨o',n',ks,e,_⟩:=zez hk hlt
    refine ⟨orS C1 C2,fun A => ?_⟩
    rw [show orS A (orS C1 C2) = orS (orS A C1) C2 by funext i; simp [orS,Bool.or_assoc]]
    have g1:=h1 A
    have g2:=h2 (orS A C1)
    rw [e] at g1
    refine ⟨zdu (zac (decide_eq_true (by omega)) (zcj hlt e (zan g1.1 ?_))),zik (zac (decide_eq_true (by omega)) (zcj hlt e (zan g1.2 ?_)))⟩
    ·rw [wrk (by omega)]; exact g2.1
    ·rw [wrk (by omega)]; exact g2.2
  obtain ⟨C,hC⟩:=rest kids.length 0 (by omega)
  by_cases h:o = 9 ∨ o = 10
  ·have hr:=hn'.1 h
   obtain ⟨j,rfl⟩:∃ j:Nat,n = (j:Int):=⟨n.toNat,by omega⟩
   refine ⟨orS (zlf j) C,fun A => ?_⟩
   rw [show orS A (orS (zlf j) C) = orS (orS A (zlf j)) C by funext i; simp [orS,Bool.or_assoc]]
   have g:=hC (orS A (zlf j))
   have gi:=zAa (show j < m by omega) hm A
   have gs:=zEX (show j < m by omega) hm A
   rcases h with rfl | rfl
   ·exact ⟨zcF (zac rfl (zan gi g.1)),zgG (zac rfl (zan gs g.2))⟩
   ·exact ⟨zcF (zaa rfl (zac rfl (zan gi g.1))),zgG (zaa rfl (zac rfl (zan gs g.2)))⟩
  ·refine ⟨C,fun A => ?_⟩
   have g:=hC A
   have h9:o ≠ 9:=fun h' => h (.inl h')
   have h10:o ≠ 10:=fun h' => h (.inr h')
   exact ⟨zcF (zaa (eqf h9) (zaa (eqf h10) g.1)),zgG (zaa (eqf h9) (zaa (eqf h10) g.2))⟩
end Go.Proofs.YtcpcagdialnbeaaGreat
namespace Go.Proofs.YtcpcagdialnbeaaGreat
open Go
section
variable (C:Nat → Nat → Bool) (m:Nat)
def stI (A:Nat → Bool):Nat → Bool:=fun x => A x || (List.range m).any fun i => A i && C i x
def itI (f:Nat):Nat → Nat → Bool
 | 0 => zlf f
 | r + 1 => stI C m (itI f r)
def gF:Nat → Nat → (Nat → Bool) → Nat → Bool
 | _,0,O => O
 | i,j + 1,O => gF (i + 1) j (if O i then orS O (C i) else O)
def itS (f:Nat):Nat → Nat → Bool
 | 0 => zlf f
 | r + 1 => gF C 0 m (itS f r)
inductive Rch (f:Nat):Nat → Prop
 | refl:Rch f f
 | step {i x:Nat} (h:Rch f i) (hi:i < m) (hx:x < m) (hc:C i x = true):Rch f x
def Cl (A:Nat → Bool):Prop:=∀ i,i < m → A i = true → ∀ x,x < m → C i x = true → A x = true
variable {C m}
theorem stI_iff {A:Nat → Bool} {x:Nat}:stI C m A x = true ↔ A x = true ∨ ∃ i,i < m ∧ A i = true ∧ C i x = true:=by
 unfold stI
 simp only [Bool.or_eq_true,List.any_eq_true,List.mem_range,Bool.and_eq_true]
theorem zuE {f:Nat} {A:Nat → Bool} (hC:Cl C m A) (hf:A f = true) {x:Nat} (h:Rch C m f x):A x = true:=by
 induction h with
 | refl => exact hf
 | step _ hi hx hc ih => exact hC _ hi ih _ hx hc
theorem zh6 (f:Nat):∀ r,itI C m f r f = true
 | 0 => by simp [itI,zlf]
 | r + 1 => stI_iff.2 (.inl (zh6 f r))
theorem zvb {p q:Nat → Bool} {l:List Nat} (h:∀ x ∈ l,p x = true → q x = true) {y:Nat} (hy:y ∈ l) (h1:p y = false) (h2:q y = true):l.countP p + 1 ≤ l.countP q:=by
 induction l with
 | nil => cases hy
 | cons a l ih =>
  have hm:l.countP p ≤ l.countP q:=List.countP_mono_left fun x hx => h x (List.mem_cons_of_mem _ hx)
  rcases List.mem_cons.1 hy with rfl | hy
  ·rw [List.countP_cons_of_neg (by simp [h1]),List.countP_cons_of_pos h2]
   omega
  ·have:=ih (fun x hx => h x (List.mem_cons_of_mem _ hx)) hy
   rcases hp:p a with _ | _
   ·rw [List.countP_cons_of_neg (by simp [hp])]
    rcases hq:q a with _ | _
    ·rw [List.countP_cons_of_neg (by simp [hq])]; exact this
    ·rw [List.countP_cons_of_pos hq]; omega
   ·rw [List.countP_cons_of_pos hp,List.countP_cons_of_pos (h a List.mem_cons_self hp)]
    omega
theorem zuD {f:Nat} (hf:f < m):∀ r,Cl C m (itI C m f r) ∨ r + 1 ≤ (List.range m).countP (itI C m f r)
 | 0 => .inr (by
  have:0 < (List.range m).countP (itI C m f 0):=List.countP_pos_iff.2 ⟨f,List.mem_range.2 hf,zh6 f 0⟩
  omega)
 | r + 1 => by
  by_cases hc:Cl C m (itI C m f r)
  ·left
   intro i hi h x hx hcx
   have back:∀ y,y < m → itI C m f (r + 1) y = true → itI C m f r y = true:=fun y hy h => by
    rcases stI_iff.1 h with h | ⟨k,hk,h1,h2⟩
    ·exact h
    ·exact hc k hk h1 y hy h2
   exact stI_iff.2 (.inl (hc i hi (back i hi h) x hx hcx))
  ·right
   have hle:=(zuD hf r).resolve_left hc
   obtain ⟨i,hi⟩:=Classical.not_forall.1 hc
   have h1:i < m:=Classical.byContradiction fun h => hi fun h' => absurd h' h
   have h2:itI C m f r i = true:=Classical.byContradiction fun h => hi fun _ h' => absurd h' h
   obtain ⟨x,hx⟩:=Classical.not_forall.1 fun h => hi fun _ _ => h
   have h3:x < m:=Classical.byContradiction fun h => hx fun h' => absurd h' h
   have h4:C i x = true:=Classical.byContradiction fun h => hx fun _ h' => absurd h' h
   have h5:¬ itI C m f r x = true:=fun h => hx fun _ _ => h
   have:=zvb (l:=List.range m) (p:=itI C m f r) (q:=itI C m f (r + 1)) (fun z _ h => stI_iff.2 (.inl h)) (List.mem_range.2 h3) (by simpa using h5) (stI_iff.2 (.inr ⟨i,h1,h2,h4⟩))
   omega
theorem zlN {f:Nat} (hf:f < m):Cl C m (itI C m f m):=by
 rcases zuD (C:=C) hf m with h | h
 ·exact h
 ·have:=List.countP_le_length (p:=itI C m f m) (l:=List.range m)
  rw [List.length_range] at this
  omega
theorem zxE:∀ (j i:Nat) (O:Nat → Bool) (x:Nat),O x = true → gF C i j O x = true
 | 0,_,_,_,h => h
 | j + 1,i,O,x,h => by
  refine zxE j (i + 1) _ x ?_
  split
  ·simp [orS,h]
  ·exact h
theorem zBJ:∀ (j i:Nat) (O:Nat → Bool) (k x:Nat),i ≤ k → k < i + j → O k = true → C k x = true → gF C i j O x = true
 | 0,i,O,k,x,h1,h2,_,_ => by omega
 | j + 1,i,O,k,x,h1,h2,hk,hx => by
  unfold gF
  by_cases e:k = i
  ·subst e
   rw [if_pos hk]
   exact zxE j _ _ x (by simp [orS,hx])
  ·refine zBJ j (i + 1) _ k x (by omega) (by omega) ?_ hx
   split
   ·simp [orS,hk]
   ·exact hk
theorem zwG {f:Nat}:∀ (j i:Nat) (O:Nat → Bool),i + j = m → (∀ x,x < m → O x = true → Rch C m f x) → ∀ x,x < m → gF C i j O x = true → Rch C m f x
 | 0,_,_,_,h,x,hx,hg => h x hx hg
 | j + 1,i,O,hij,h,x,hx,hg => by
  refine zwG j (i + 1) _ (by omega) (fun y hy ho => ?_) x hx hg
  split at ho
  ·rename_i hi
   simp only [orS,Bool.or_eq_true] at ho
   rcases ho with ho | ho
   ·exact h y hy ho
   ·exact .step (h i (by omega) hi) (by omega) hy ho
  ·exact h y hy ho
theorem zuv {f:Nat}:∀ (r x:Nat),x < m → itS C m f r x = true → Rch C m f x
 | 0,x,_,h => by
  simp only [itS,zlf,beq_iff_eq] at h
  subst h
  exact .refl
 | r + 1,x,hx,h => zwG m 0 _ (by omega) (fun y hy => zuv r y hy) x hx h
theorem zuV {f:Nat}:∀ (r x:Nat),itI C m f r x = true → itS C m f r x = true
 | 0,x,h => h
 | r + 1,x,h => by
  rcases stI_iff.1 h with h | ⟨i,hi,h1,h2⟩
  ·exact zxE m 0 _ x (zuV r x h)
  ·exact zBJ m 0 _ i x (by omega) (by omega) (zuV r i h1) h2
theorem zGC {f:Nat} (hf:f < m):zat (itS C m f m) 0 m = zat (itI C m f m) 0 m:=zjB fun x _ hx => by
 rw [Bool.eq_iff_iff]
 exact ⟨fun h => zuE (zlN hf) (zh6 f m) (zuv m x (by omega) h),zuV m x⟩
end
theorem zDP {a b:List Int} (h:a = b):rL a = rL b:=by rw [h]
theorem zoY (m:Nat):zat (fun _ => false) 0 m = []:=by
 unfold zat
 rw [List.filter_eq_nil_iff.2 (by simp)]
 rfl
theorem zyt {m j:Nat} (hj:j < m):zat (zlf j) 0 m = [(j:Int)]:=by
 have:=zo7 (fun _ => false) j m 0 (by omega) (by omega)
 rw [zoY] at this
 exact this.symm.trans rfl |>.symm ▸ this.symm
theorem znd {S:Nat → Bool} {m:Nat} {y:Int} (h:y ∈ zat S 0 m):∃ j:Nat,y = (j:Int) ∧ j < m ∧ S j = true:=by
 unfold zat at h
 obtain ⟨i,hi,rfl⟩:=List.mem_map.1 h
 obtain ⟨h1,h2⟩:=List.mem_filter.1 hi
 exact ⟨i,rfl,by have:=List.mem_range'_1.1 h1; omega,h2⟩
theorem zET {m:Nat} {P:Nat → (Nat → Bool) → Prop} (h:∀ k,k < m → ∃ t,P k t):∃ T:Nat → Nat → Bool,∀ k,k < m → P k (T k) :=
 ⟨fun k => open Classical in if hk:k < m then (h k hk).choose else fun _ => false,fun k hk => by
  simp only [dif_pos hk]
  exact (h k hk).choose_spec⟩
def zur (C:Nat → Nat → Bool):List Int → (Nat → Bool) → Nat → Bool
 | [],O => O
 | f :: fs,O => zur C fs (orS O (C f.toNat))
theorem zuM {C:Nat → Nat → Bool} {x:Nat}:∀ {xs:List Int} {O:Nat → Bool},zur C xs O x = true ↔ O x = true ∨ ∃ f ∈ xs,C f.toNat x = true
 | [],O => by simp [zur]
 | f :: fs,O => by
  rw [zur,zuM]
  simp only [orS,Bool.or_eq_true,List.mem_cons,or_assoc]
  constructor
  ·rintro (h | h | ⟨g,hg,h⟩)
   ·exact .inl h
   ·exact .inr ⟨f,.inl rfl,h⟩
   ·exact .inr ⟨g,.inr hg,h⟩
  ·rintro (h | ⟨g,rfl | hg,h⟩)
   ·exact .inl h
   ·exact .inr (.inl h)
   ·exact .inr (.inr ⟨g,hg,h⟩)
def zxs:List Int → (Nat → Bool) → Nat → Bool
 | [],O => O
 | f :: fs,O => zxs fs (orS O (zlf f.toNat))
theorem zvX {x:Nat}:∀ {xs:List Int} {O:Nat → Bool},zxs xs O x = true ↔ O x = true ∨ ∃ f ∈ xs,x = f.toNat
 | [],O => by simp [zxs]
 | f :: fs,O => by
  rw [zxs,zvX]
  simp only [orS,zlf,Bool.or_eq_true,List.mem_cons,or_assoc,beq_iff_eq]
  constructor
  ·rintro (h | h | ⟨g,hg,h⟩)
   ·exact .inl h
   ·exact .inr ⟨f,.inl rfl,h⟩
   ·exact .inr ⟨g,.inr hg,h⟩
  ·rintro (h | ⟨g,rfl | hg,h⟩)
   ·exact .inl h
   ·exact .inr (.inl h)
   ·exact .inr (.inr ⟨g,hg,h⟩)
section
variable {D:List DM} {R:List PM}
def zBP (R:List PM) (C:Nat → Nat → Bool):Prop:=∀ k,k < R.length → ∀ A:Nat → Bool,zbL [.cell (.sl 1 (zad (zat A 0 R.length))),.agg (za5 (gP R k))] = rL (zat (orS A (C k)) 0 R.length) ∧ zb7 [.agg (za5 (gP R k)),.cell (.sl 1 (zad (zat A 0 R.length)))] = rL (zat (orS A (C k)) 0 R.length)
theorem zBI (hi:PIn D R) (hv:VP D R):∃ C,zBP R C:=by
 have hR:=hv.cp.rl
 exact zET fun k hk => by
  have hs:=hv.small k hk
  exact zxh (by omega) 30 _ _ _ (hi.r _ (zgS hk)).b (hv.nm k hk) (by show cS (za5 (gP R k)) < 30; omega) (by omega)
theorem zr5 (C:Nat → Bool):orS (fun _ => false) C = C:=by funext i; simp [orS]
variable {C:Nat → Nat → Bool} (hN:zBP R C) (h4:R.length ≤ 4)
include hN h4
omit h4 in
theorem zzB {k:Nat} (hk:k < R.length):zbL [.cell (.sl 1 []),.agg (za5 (gP R k))] = rL (zat (C k) 0 R.length):=by
 have:=(hN k hk (fun _ => false)).1
 rw [zoY,zr5] at this
 exact this
omit h4 in
theorem zqk {k:Nat} (hk:k < R.length):zb7 [.agg (za5 (gP R k)),.cell (.sl 1 [])] = rL (zat (C k) 0 R.length):=by
 have:=(hN k hk (fun _ => false)).2
 rw [zoY,zr5] at this
 exact this
theorem zCl (ds:List (List AC)) (A:Nat → Bool):zhT [.agg [.sl 3 ds,.sl 5 (zal R)],.cell (.sl 1 (zad (zat A 0 R.length)))] = rL (zat (stI C R.length A) 0 R.length):=by
 have hl:=zbZ A 0 R.length
 generalize hxs:zat A 0 R.length = xs at hl
 have hx:∀ y ∈ xs,∃ j:Nat,y = (j:Int) ∧ j < R.length ∧ A j = true:=fun y hy => znd (by rw [hxs]; exact hy)
 have key:∀ j k:Nat,k + j = xs.length → ∀ O:Nat → Bool,zdJ ds (zal R) (zad (zat O 0 R.length)) (zad xs) ((xs.length:Nat):Int) (k:Int) = rL (zat (zur C (xs.drop k) O) 0 R.length):=by
  intro j
  induction j with
  | zero =>
   intro k hk O
   rw [List.drop_eq_nil_of_le (by omega)]
   exact zg2 (zaa (decide_eq_false (by omega)) rfl)
  | succ j ih =>
   intro k hk O
   have hlt:k < xs.length:=by omega
   obtain ⟨i,e,hi,_⟩:=hx _ (List.getElem_mem hlt)
   rw [List.drop_eq_getElem_cons hlt,zur]
   refine zg2 (zac (decide_eq_true (by omega)) (zaR hlt (zaH (k:=i) e hi (zan (hN i hi O).1 ?_))))
   rw [wrk (by unfold zaE; omega),ih (k + 1) (by omega),e,Int.toNat_natCast]
 refine znI ?_
 have:=key xs.length 0 (by omega) A
 rw [hxs] at this
 rw [zab]
 refine this.trans ?_
 rw [List.drop_zero]
 refine zDP (zjB fun x _ hx' => ?_)
 rw [Bool.eq_iff_iff,zuM,stI_iff]
 constructor
 ·rintro (h | ⟨f,hf,h⟩)
  ·exact .inl h
  ·obtain ⟨i,rfl,hi,ha⟩:=hx f hf
   exact .inr ⟨i,hi,ha,by simpa using h⟩
 ·rintro (h | ⟨i,hi,ha,h⟩)
  ·exact .inl h
  ·refine .inr ⟨(i:Int),?_,by simpa using h⟩
   rw [← hxs,← List.contains_iff_mem,zhZ A hi]
   exact ha
theorem zyF (hi:PIn D R) (hval:zaN [.agg [.sl 3 (zaf D),.sl 5 (zal R)]] = rB true) {f:Nat} (hf:f < R.length):za3 [.agg [.sl 3 (zaf D),.sl 5 (zal R)],.cell (.int (f:Int))] = rL (zat (itI C R.length f R.length) 0 R.length):=by
 have key:∀ j k:Nat,k + j = R.length → zdM (zaf D) (zal R) (zad (zat (itI C R.length f k) 0 R.length)) (k:Int) = rL (zat (itI C R.length f R.length) 0 R.length):=by
  intro j
  induction j with
  | zero =>
   intro k hk
   refine zg7 (zaa (decide_eq_false (by rw [zaF]; omega)) ?_)
   rw [show k = R.length by omega]
  | succ j ih =>
   intro k hk
   refine zg7 (zac (decide_eq_true (by rw [zaF]; omega)) (zan (zCl hN h4 (zaf D) _) ?_))
   rw [wrk (by unfold zaE; omega)]
   exact ih (k + 1) (by omega)
 refine zfy (zai hval (zaa rfl (zai (zgb _) (zaa (by rw [decide_eq_true (by omega)]; rfl) ?_))))
 have:=key R.length 0 (by omega)
 rw [itI,zyt hf] at this
 exact this
omit hN in
theorem zFf (ds:List (List AC)) (rd i:Int) (xs:List Int) (hx:∀ y ∈ xs,∃ j:Nat,y = (j:Int) ∧ j < R.length) (hl:xs.length ≤ 1000):∀ j k:Nat,k + j = xs.length → ∀ (O:Nat → Bool) (r:AV),zcb ds (zal R) (zad (zat (zxs (xs.drop k) O) 0 R.length)) rd (zae (i + 1)) = some r →
  zdI ds (zal R) (zad (zat O 0 R.length)) rd i (zad xs) (k:Int) = some r:=by
 intro j
 induction j with
 | zero =>
  intro k hk O r h
  rw [List.drop_eq_nil_of_le (by omega)] at h
  exact zgy (zaa (decide_eq_false (by rw [zab]; omega)) h)
 | succ j ih =>
  intro k hk O r h
  have hlt:k < xs.length:=by omega
  obtain ⟨i',e,hi'⟩:=hx _ (List.getElem_mem hlt)
  rw [List.drop_eq_getElem_cons hlt,zxs,e,Int.toNat_natCast] at h
  refine zgy (zac (decide_eq_true (by rw [zab]; omega)) (zaR hlt ?_))
  rw [e]
  refine zan (zEX hi' (by omega) O) ?_
  rw [wrk (by unfold zaE; omega)]
  exact ih (k + 1) (by omega) _ r h
theorem zEb (ds:List (List AC)) (rd:Int):∀ j i:Nat,i + j = R.length → ∀ (O:Nat → Bool) (r:AV),zcM ds (zal R) (zad (zat (gF C i j O) 0 R.length)) (zae (rd + 1)) = some r → zcb ds (zal R) (zad (zat O 0 R.length)) rd (i:Int) = some r:=by
 intro j
 induction j with
 | zero =>
  intro i hi O r h
  exact zgV (zaa (decide_eq_false (by rw [zaF]; omega)) h)
 | succ j ih =>
  intro i hi O r h
  have hlt:i < R.length:=by omega
  have hl:=zbZ O 0 R.length
  have nx:=ih (i + 1) (by omega)
  have w:zae ((i:Int) + 1) = ((i + 1:Nat):Int):=wrk (by unfold zaE; omega)
  refine zgV (zac (decide_eq_true (by rw [zaF]; omega)) (zai (zyx _ _ (by omega)) ?_))
  rw [zhZ O hlt]
  unfold gF at h
  rcases ho:O i with _ | _
  ·rw [ho] at h
   refine zaa rfl ?_
   rw [w]
   exact nx O r h
  ·rw [ho,if_pos rfl] at h
   refine zac rfl (zaH (k:=i) rfl hlt (zan (zqk hN hlt) ?_))
   have hl2:=zbZ (C i) 0 R.length
   refine zFf h4 ds rd (i:Int) (zat (C i) 0 R.length) (fun y hy => by obtain ⟨k,e,hk,_⟩:=znd hy; exact ⟨k,e,hk⟩) (by omega) (zat (C i) 0 R.length).length 0 (by omega) O r ?_
   rw [List.drop_zero,w]
   have e:zat (zxs (zat (C i) 0 R.length) O) 0 R.length = zat (orS O (C i)) 0 R.length:=zjB fun x _ hx => by
    rw [Bool.eq_iff_iff,zvX]
    simp only [orS,Bool.or_eq_true]
    constructor
    ·rintro (h | ⟨g,hg,h⟩)
     ·exact .inl h
     ·obtain ⟨k,rfl,hk,hc⟩:=znd hg
      rw [Int.toNat_natCast] at h
      rw [h]
      exact .inr hc
    ·rintro (h | h)
     ·exact .inl h
     ·refine .inr ⟨(x:Int),?_,by simp⟩
      rw [← List.contains_iff_mem,zhZ (C i) (by omega)]
      exact h
   rw [e]
   exact nx _ r h
theorem zuA (ds:List (List AC)) {f:Nat} (hf:f < R.length):ze8 [.agg [.sl 3 ds,.sl 5 (zal R)],.cell (.int (f:Int))] = rL (zat (itI C R.length f R.length) 0 R.length):=by
 have key:∀ j k:Nat,k + j = R.length → zcM ds (zal R) (zad (zat (itS C R.length f k) 0 R.length)) (k:Int) = rL (zat (itS C R.length f R.length) 0 R.length):=by
  intro j
  induction j with
  | zero =>
   intro k hk
   refine zgA (zaa (decide_eq_false (by rw [zaF]; omega)) ?_)
   rw [show k = R.length by omega]
  | succ j ih =>
   intro k hk
   refine zgA (zac (decide_eq_true (by rw [zaF]; omega)) (zEb hN h4 ds _ R.length 0 (by omega) _ _ ?_))
   rw [wrk (by unfold zaE; omega)]
   exact ih (k + 1) (by omega)
 have:=key R.length 0 (by omega)
 rw [itS,zyt hf,zGC hf] at this
 exact znL this
end
end Go.Proofs.YtcpcagdialnbeaaGreat
namespace Go.Proofs.YtcpcagdialnbeaaGreat
open Go Go.RowKit
structure PV (D:List DM) (R:List PM) (C:Nat → Nat → Bool):Prop where
 hi:PIn D R
 vp:VP D R
 nm:zBP R C
 h1:zaN [.agg [.sl 3 (zaf D),.sl 5 (zal R)]] = rB true
 h2:zbe [.agg [.sl 3 (zaf D),.sl 5 (zal R)]] = rB true
theorem PV.r4 {D:List DM} {R:List PM} {C:Nat → Nat → Bool} (h:PV D R C):R.length ≤ 4:=h.vp.cp.rl
theorem zlC {ds fs:List (List AC)} (h:Fit .prog [.sl 3 ds,.sl 5 fs]):∃ D R,ds = zaf D ∧ fs = zal R ∧ PIn D R ∧
  ((zaN [.agg [.sl 3 (zaf D),.sl 5 (zal R)]] = rB false ∧ zbe [.agg [.sl 3 (zaf D),.sl 5 (zal R)]] = rB false) ∨ ∃ C,PV D R C):=by
 obtain ⟨D,R,rfl,rfl,hi⟩:=zzO h
 refine ⟨D,R,rfl,rfl,hi,?_⟩
 obtain ⟨b,h1,h2,h3⟩:=zyb hi
 cases b with
 | false => exact .inl ⟨h1,h2⟩
 | true =>
  obtain ⟨C,hN⟩:=zBI hi (h3 rfl)
  exact .inr ⟨C,hi,h3 rfl,hN,h1,h2⟩
section
variable {D:List DM} {R:List PM} {C:Nat → Nat → Bool}
theorem zmT {f:Nat} (h:f < R.length):zbP [.agg [.sl 3 (zaf D),.sl 5 (zal R)],.cell (.int (f:Int))] = rB true:=by
 rw [zgb,decide_eq_true (by omega)]
variable (h:PV D R C)
include h
theorem zvm {f:Nat} (hf:f < R.length):zbA [.agg [.sl 3 (zaf D),.sl 5 (zal R)],.cell (.int (f:Int))] = rL (zat (C f) 0 R.length) :=
 zeF (zai h.h1 (zaa rfl (zai (zmT hf) (zaa rfl (zaH (k:=f) rfl hf (zan (zzB h.nm hf) rfl))))))
theorem zqa {f:Nat} (hf:f < R.length):za3 [.agg [.sl 3 (zaf D),.sl 5 (zal R)],.cell (.int (f:Int))] = rL (zat (itI C R.length f R.length) 0 R.length) :=
 zyF h.nm h.r4 h.hi h.h1 hf
end
end Go.Proofs.YtcpcagdialnbeaaGreat
namespace Go.Proofs.YtcpcagdialnbeaaGreat
open Go Go.RowKit
def rcB (C:Nat → Nat → Bool) (m f:Nat) (ys:List Int):Bool:=ys.any fun y => itI C m y.toNat m f
section
variable {D:List DM} {R:List PM} {C:Nat → Nat → Bool} (h:PV D R C)
include h
theorem zzy {f:Nat} (hf:f < R.length):∀ j k:Nat,k + j = (zat (C f) 0 R.length).length →
  zeN (f:Int) (zaf D) (zal R) (zad (zat (C f) 0 R.length)) (((zad (zat (C f) 0 R.length)).length:Nat):Int) (k:Int) = rB (!rcB C R.length f ((zat (C f) 0 R.length).drop k)) ∧
  zeH (f:Int) (zaf D) (zal R) (zad (zat (C f) 0 R.length)) (k:Int) = rB (!rcB C R.length f ((zat (C f) 0 R.length).drop k)):=by
 have hR:=h.r4
 have hl:=zbZ (C f) 0 R.length
 have hx:∀ y ∈ zat (C f) 0 R.length,∃ j:Nat,y = (j:Int) ∧ j < R.length:=fun y hy => by obtain ⟨k,e,hk,_⟩:=znd hy; exact ⟨k,e,hk⟩
 generalize zat (C f) 0 R.length = xs at hl hx
 intro j
 induction j with
 | zero =>
  intro k hk
  rw [List.drop_eq_nil_of_le (by omega)]
  exact ⟨zif (zaa (decide_eq_false (by rw [zab]; omega)) rfl),zig (zaa (decide_eq_false (by rw [zab]; omega)) rfl)⟩
 | succ j ih =>
  intro k hk
  have hlt:k < xs.length:=by omega
  obtain ⟨g,e,hg⟩:=hx _ (List.getElem_mem hlt)
  have ri:=zqa h hg
  have rs:=zuA h.nm hR (zaf D) hg
  have hla:=zbZ (itI C R.length g R.length) 0 R.length
  have hc:=zhZ (itI C R.length g R.length) hf
  rw [List.drop_eq_getElem_cons hlt,e]
  unfold rcB
  rw [List.any_cons,Int.toNat_natCast]
  obtain ⟨b1,b2⟩:=ih (k + 1) (by omega)
  unfold rcB at b1 b2
  refine ⟨zif (zac (decide_eq_true (by rw [zab]; omega)) (zaR hlt ?_)),zig (zac (decide_eq_true (by rw [zab]; omega)) (zaR hlt ?_))⟩
  ·rw [e]
   refine zan ri (zai (zzn _ _ (by omega)) ?_)
   rw [hc]
   rcases itI C R.length g R.length f with _ | _
   ·refine zaa rfl ?_
    rw [wrk (by unfold zaE; omega),b1,Bool.false_or]
   ·exact zac rfl rfl
  ·rw [e]
   refine zan rs (zai (zyx _ _ (by omega)) ?_)
   rw [hc]
   rcases itI C R.length g R.length f with _ | _
   ·refine zaa rfl ?_
    rw [wrk (by unfold zaE; omega),b2,Bool.false_or]
   ·exact zac rfl rfl
theorem zD6 {f:Nat} (h0:1 ≤ f) (hf:f < R.length):zd2 [.agg [.sl 3 (zaf D),.sl 5 (zal R)],.cell (.int (f:Int))] = rB (!rcB C R.length f (zat (C f) 0 R.length)) ∧ zbO [.agg [.sl 3 (zaf D),.sl 5 (zal R)],.cell (.int (f:Int))] = rB (!rcB C R.length f (zat (C f) 0 R.length)):=by
 have hR:=h.r4
 obtain ⟨b1,b2⟩:=zzy h hf _ 0 (Nat.zero_add _)
 rw [List.drop_zero] at b1 b2
 have hw:zae ((((zal R).length:Nat):Int) - 1) = R.length - 1:=by rw [zaF]; exact wr (by omega) (by omega)
 refine ⟨zhj (zai h.h1 (zaa rfl (zai (zmT hf) (zaa rfl (zaa (eqf (by omega)) (zan (zvm h hf) b1)))))),zhe (zai h.h2 (zac rfl (zai (zkH (zai (zdk _ _ _) (zaa ?_ (zaH (k:=f) rfl hf (zan (zqk h.nm hf) b2))))) rfl)))⟩
 rw [hw,decide_eq_true (by omega),decide_eq_true (by omega)]
 rfl
theorem zAX {n:Int} (hn:¬ (1 ≤ n ∧ n < R.length)):zd2 [.agg [.sl 3 (zaf D),.sl 5 (zal R)],.cell (.int n)] = rB false ∧ zbO [.agg [.sl 3 (zaf D),.sl 5 (zal R)],.cell (.int n)] = rB false:=by
 have hR:=h.r4
 have hw:zae ((((zal R).length:Nat):Int) - 1) = R.length - 1:=by rw [zaF]; exact wr (by omega) (by omega)
 refine ⟨zhj (zai h.h1 (zaa rfl (zai (zgb n) ?_))),zhe (zai h.h2 (zac rfl (zai (zkH (zai (zdk _ _ _) (zac ?_ rfl))) rfl)))⟩
 ·by_cases hc:0 ≤ n ∧ n < R.length
  ·refine zaa (by rw [decide_eq_true hc]; rfl) (zac (eqt (by omega)) rfl)
  ·exact zac (by rw [decide_eq_false hc]; rfl) rfl
 ·rw [hw,Bool.not_eq_true',Bool.and_eq_false_iff,decide_eq_false_iff_not,decide_eq_false_iff_not]
  omega
end
theorem zCR (b:Bool):(b == b) = true:=by cases b <;> rfl
theorem zDu (b:Bool):(b != b) = false:=by cases b <;> rfl
theorem ztP {ds fs:List (List AC)} {y:Int} (hp:zod ds fs) :
  evM X_laws_FnMayInline 100000 (.run (zbC 3 (cOf Tryz.f7))) [] [(3,.box [.sl 3 ds,.sl 5 fs]),(4,.v (.cell (.int y)))] = some (.v (.cell (.bool true))):=by
 obtain ⟨D,R,rfl,rfl,hi,hv⟩:=zlC hp.1
 rcases hv with ⟨h1,h2⟩ | ⟨C,hv⟩
 ·have g1:zd2 [.agg [.sl 3 (zaf D),.sl 5 (zal R)],.cell (.int y)] = rB false:=zhj (zai h1 (zac rfl rfl))
  have g2:zbO [.agg [.sl 3 (zaf D),.sl 5 (zal R)],.cell (.int y)] = rB false:=zhe (zai h2 (zaa rfl rfl))
  exact zep (zai g1 (zai g2 (zaa rfl (zai h1 (zac rfl (zai g2 rfl))))))
 by_cases hy:0 ≤ y ∧ y < R.length
 rotate_left
 ·obtain ⟨g1,g2⟩:=zAX (n:=y) hv (by omega)
  refine zep (zai g1 (zai g2 (zaa rfl (zai hv.h1 (zaa rfl ?_)))))
  by_cases h0:y < 0
  ·exact zac (decide_eq_true h0) (zai g2 rfl)
  ·exact zaa (decide_eq_false h0) (zac (decide_eq_true (by rw [zaF]; omega)) (zai g2 rfl))
 obtain ⟨f,rfl⟩:∃ f:Nat,y = (f:Int):=⟨y.toNat,by omega⟩
 have hf:f < R.length:=by omega
 have hR:=hv.r4
 have hl:=zbZ (C f) 0 R.length
 have hx:∀ y ∈ zat (C f) 0 R.length,∃ j:Nat,y = (j:Int) ∧ j < R.length:=fun y hy => by obtain ⟨k,e,hk,_⟩:=znd hy; exact ⟨k,e,hk⟩
 obtain ⟨b,g1,g2,gb⟩:∃ b,zd2 [.agg [.sl 3 (zaf D),.sl 5 (zal R)],.cell (.int (f:Int))] = rB b ∧ zbO [.agg [.sl 3 (zaf D),.sl 5 (zal R)],.cell (.int (f:Int))] = rB b ∧ b = (decide (0 < f) && !rcB C R.length f (zat (C f) 0 R.length)):=by
  by_cases h0:1 ≤ f
  ·obtain ⟨g1,g2⟩:=zD6 hv h0 hf
   exact ⟨_,g1,g2,by rw [decide_eq_true (by omega),Bool.true_and]⟩
  ·obtain ⟨g1,g2⟩:=zAX (n:=(f:Int)) hv (by omega)
   exact ⟨_,g1,g2,by rw [decide_eq_false (by omega),Bool.false_and]⟩
 refine zep (zai g1 (zai g2 (zaa (zDu b) (zai hv.h1 (zaa rfl (zaa (decide_eq_false (by omega)) (zaa (decide_eq_false (by rw [zaF]; omega)) (zan (zvm hv hf) ?_))))))))
 have key:∀ j k:Nat,k + j = (zat (C f) 0 R.length).length → ∀ a:Bool,(a || rcB C R.length f ((zat (C f) 0 R.length).drop k)) = rcB C R.length f (zat (C f) 0 R.length) → zcN (zaf D) (zal R) (f:Int) b a (zad (zat (C f) 0 R.length)) (k:Int) = rB true:=by
  generalize rcB C R.length f (zat (C f) 0 R.length) = z at gb
  generalize zat (C f) 0 R.length = xs at hl hx
  intro j
  induction j with
  | zero =>
   intro k hk a ha
   rw [List.drop_eq_nil_of_le (by omega)] at ha
   have ha:(a || false) = z:=ha
   rw [Bool.or_false] at ha
   refine zgM (zaa (decide_eq_false (by rw [zab]; omega)) ?_)
   by_cases h0:0 < f
   ·refine zac (decide_eq_true (by omega)) ?_
    rw [decide_eq_true h0,Bool.true_and] at gb
    rw [gb,ha,zCR]
   ·refine zaa (decide_eq_false (by omega)) ?_
    rw [decide_eq_false h0,Bool.false_and] at gb
    rw [gb]
    rfl
  | succ j ih =>
   intro k hk a ha
   have hlt:k < xs.length:=by omega
   obtain ⟨g,e,hg⟩:=hx _ (List.getElem_mem hlt)
   rw [List.drop_eq_getElem_cons hlt,e] at ha
   unfold rcB at ha
   rw [List.any_cons,Int.toNat_natCast] at ha
   have hla:=zbZ (itI C R.length g R.length) 0 R.length
   have hin:=znv (zat (itI C R.length g R.length) 0 R.length) (f:Int) (by omega)
   rw [zhZ _ hf] at hin
   refine zgM (zac (decide_eq_true (by rw [zab]; omega)) ?_)
   cases a with
   | true =>
    refine zac rfl ?_
    rw [wrk (by unfold zaE; omega)]
    exact ih (k + 1) (by omega) true (by rw [← ha]; rfl)
   | false =>
    refine zaa rfl (zaR hlt ?_)
    rw [e]
    refine zan (zqa hv hg) (zai hin ?_)
    rw [wrk (by unfold zaE; omega)]
    exact ih (k + 1) (by omega) _ (by rw [← ha]; rfl)
 exact key _ 0 (Nat.zero_add _) false (by rw [List.drop_zero,Bool.false_or])
theorem zqt (A:Option Addr) (n c:Nat) (w:World) (h:zdi w A n c):Calls Tryz.prog 7 #[.slice A n c] w fun e w' => e = .returned (.bool true) ∧ Below w.heap.size w w' :=
 znF (fun _ _ _ hp _ => ztP hp) (fun _ _ _ _ h => zoO h) A n c w h
end Go.Proofs.YtcpcagdialnbeaaGreat

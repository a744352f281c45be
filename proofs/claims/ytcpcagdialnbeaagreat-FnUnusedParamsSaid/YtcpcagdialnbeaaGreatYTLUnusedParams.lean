/- What this law needs beside: its draw, its rest over values, its models. -/
import Derived.Test.YtcpcagdialnbeaaGreatY37
import Derived.StillTailTactics
import Derived.Deep.RegionHeld3
import Derived.WalkKit
set_option linter.unusedVariables false
set_option linter.unusedSimpArgs false
namespace Go.Proofs.YtcpcagdialnbeaaGreat
open Go Go.RowKit Go.BigFrame
def zuX (B:Nat) (w0:World) (v:Value) (w':World):Prop:=∃ N p' D1 d1 d2 E1 e1 e2 ds fs,v = .agg #[.slice D1 d1 d2,.slice E1 e1 e2] ∧ Rep p' w' (.slice D1 d1 d2) (.sl 3 ds) ∧ Rep p' w' (.slice E1 e1 e2) (.sl 5 fs) ∧ zod ds fs ∧ Evo (fun _ => False) (zkO B N) w0 p' w' ∧ Zp p' w'
set_option maxHeartbeats 4000000 in
theorem ziG {B:Nat} {A:Option Addr} {n c:Nat} {w:World} (hB:B ≤ w.heap.size) (h:CodeB B w A n c) :
  Calls Tryz.prog 10 #[.slice A n c] w fun e w' => ∃ v y,e = .returned (.tuple #[v,.int .i64 y]) ∧ (y ∈ ([0,1,2,3,0,-1,4]:List Int)) ∧ zuX B w v w':=by
 have hnr:=znU (B:=B) (w:=w.alloc (.cells #[.slice none 0 0,.slice none 0 0] 26)) (by simp; omega) (CodeB.alloc h hB _)
 have HR:=Lib.hid hnr
 clear hnr h
 go_enter Tryz.func10,Tryz.ntmps10
 go_wp2_with fail
 refine HR.out.mono ?_
 rintro e w2 ⟨rfl,N,ns,hns,ht,hs2,hev⟩
 have hev0:=(zgp B N w (.cells #[.slice none 0 0,.slice none 0 0] 26) (fun _ => False)).trans (hev (fun _ => False)) (C:=fun _ => False) (fun _ _ h => h) (fun _ _ h => h)
 have hx2:=((hev (fun _ => False)).block w.heap.size (by simp) (fun h => h)).trans (heap_alloc_new w (.cells #[.slice none 0 0,.slice none 0 0] 26))
 have hs1:(w.alloc (.cells #[.slice none 0 0,.slice none 0 0] 26)).heap.size = w.heap.size + 1:=by simp
 rw [hs1] at ht hs2 ⊢
 have hse:=zmx hns (by omega) (zwN (by omega) N) ht
 have HS:=Lib.hid hse
 have HE:=Lib.hid hev0
 clear hse hev0 hev HR ht
 go_wp2_with fail
 refine HS.out.mono ?_
 rintro e w3 ⟨D1,d1,d2,E1,e1,e2,p3,ds,fs,pos,rfl,r0,r1,hf,hev3,hz3,ht3,hpos⟩
 have hne:w.heap.size ≠ w.heap.size + 1:=by omega
 have hb3:=ht3.lt
 have hx3:=(hev3.block w.heap.size (by omega) hne).trans hx2
 have hp3:=(hev3.same w.heap.size (by omega) hne).trans (zh7 hB)
 have hea:=zaO (p:=p3) (w:=w3) (.cells #[.slice D1 d1 d2,.slice E1 e1 e2] 26) 0 (fun _ => False)
 have hz4:Zp (upP p3 w3.heap.size 0) (w3.alloc (.cells #[.slice D1 d1 d2,.slice E1 e1 e2] 26)):=⟨fun c hc => by
  rw [zby]
  split
  ·rfl
  ·exact hz3.1 c (by simp at hc; omega),fun _ _ _ => trivial⟩
 have hx4:=(hea.block w.heap.size (by omega) (fun h => h)).trans hx3
 have hp4:=(hea.same w.heap.size (by omega) (fun h => h)).trans hp3
 have hx5:=heap_alloc_new w3 (.cells #[.slice D1 d1 d2,.slice E1 e1 e2] 26)
 have hs4:(w3.alloc (.cells #[.slice D1 d1 d2,.slice E1 e1 e2] 26)).heap.size = w3.heap.size + 1:=by simp
 have hE4:=(HE.out.trans hev3 (C:=fun _ => False) (fun _ _ h => h) (fun q hq e => absurd hq (by have:q = w.heap.size + 1:=e; omega))).trans hea (C:=fun _ => False) (fun _ _ h => h) (fun _ _ h => h)
 have t4:=r0.evo hea
 have t5:=r1.evo hea
 have ht4:=ht3.evo hea
 have c0:(w3.alloc (.cells #[.slice D1 d1 d2,.slice E1 e1 e2] 26)).cell? ⟨w3.heap.size,0,none⟩ = some (.slice D1 d1 d2):=zam (j:=0) hx5 rfl
 have c1:(w3.alloc (.cells #[.slice D1 d1 d2,.slice E1 e1 e2] 26)).cell? ⟨w3.heap.size,1,none⟩ = some (.slice E1 e1 e2):=zam (j:=1) hx5 rfl
 have n1:w3.heap.size ≠ w.heap.size + 1:=by omega
 have n2:w.heap.size ≠ w3.heap.size:=by omega
 clear hea HS HE r0 r1 ht3 hz3 hev3 hx2 hx3 hp3 hs2 hs1
 go_wp2_with fail
 have h5lt:w3.heap.size < (w3.alloc (.cells #[.slice D1 d1 d2,.slice E1 e1 e2] 26)).heap.size:=by omega
 have h2lt:w.heap.size < (w3.alloc (.cells #[.slice D1 d1 d2,.slice E1 e1 e2] 26)).heap.size:=by omega
 clear hs4
 generalize w3.alloc (.cells #[.slice D1 d1 d2,.slice E1 e1 e2] 26) = W at *
 generalize upP p3 w3.heap.size 0 = p4 at *
 generalize w3.heap.size = c5 at *
 obtain ⟨y,hy,hone⟩:=zgn hns (pos:=pos) (by omega) 3 (xs:=[0,1,2,3,0,-1,4]) (by simp) (by simp) hz4 ht4
 have CK:Hid (Calls Tryz.prog 40 #[.pointer (some ⟨w.heap.size + 1,0,none⟩),.slice (some ⟨W.heap.size,0,none⟩) 7 7] (W.drew.alloc (.cells #[.int .i64 0,.int .i64 1,.int .i64 2,.int .i64 3,.int .i64 0,.int .i64 (-1),.int .i64 4] 3)) fun e w' => e = .returned (.int .i64 y) ∧ ∃ p',Evo (· = w.heap.size + 1) p4 W p' w' ∧ Zp p' w'):=Lib.hid (by
  refine Calls.mono (hone _ (.inr rfl)) ?_
  rintro e w' ⟨h1,p',h2,h3,_⟩
  exact ⟨h1,p',h2,h3⟩)
 have H4:=Lib.hid hE4
 have H5:=Lib.hid t4
 have H6:=Lib.hid t5
 clear hone hE4 t4 t5 hz4 ht4
 go_region_held3 (fun w' => w'.cell? ⟨c5,0,none⟩ = some (.slice D1 d1 d2) ∧ w'.cell? ⟨c5,1,none⟩ = some (.slice E1 e1 e2))
  (first | go_keep | (exact ⟨by assumption,by assumption⟩) | (exact ⟨(World.cell?_alloc_lt _ _ _ h5lt).trans c0,(World.cell?_alloc_lt _ _ _ h5lt).trans c1⟩) | (exact ⟨by rw [World.cell?_setCell_far _ _ _ _ n2,World.cell?_setCell_far _ _ _ _ n2]; assumption,by rw [World.cell?_setCell_far _ _ _ _ n2,World.cell?_setCell_far _ _ _ _ n2]; assumption⟩))
  (first | (go_at_call 40; refine CK.out.mono ?_; rintro e w' ⟨rfl,p',hev',hz'⟩; have q2:=(hev'.block _ h2lt hne).trans hx4; have e0:w'.cell? ⟨c5,0,none⟩ = some (.slice D1 d1 d2):=(World.cell?_of_block (hev'.block _ h5lt n1)).trans c0; have e1':w'.cell? ⟨c5,1,none⟩ = some (.slice E1 e1 e2):=(World.cell?_of_block (hev'.block _ h5lt n1)).trans c1; have k0:w'.cell? ⟨w.heap.size,0,none⟩ = some (.slice none 0 0):=zam (j:=0) q2 rfl; have k1:w'.cell? ⟨w.heap.size,1,none⟩ = some (.slice none 0 0):=zam (j:=1) q2 rfl; have k3:=frozen_of_row w' _ 0 _ _ q2; have k4:=frozen_of_row w' _ 1 _ _ q2))
 have hp5:=(hev'.same _ h2lt hne).trans hp4
 have g2:=zjv (x0:=.slice D1 d1 d2) (x1:=.slice E1 e1 e2) q2
 have y0:=zam (j:=0) g2 rfl
 have y1:=zam (j:=1) g2 rfl
 have hevc:Evo (· = w.heap.size) p' w' p' (zlw w' w.heap.size (.slice D1 d1 d2) (.slice E1 e1 e2)):=zlp p' hp5
 have hfin:zuX B w (.agg #[.slice D1 d1 d2,.slice E1 e1 e2]) (zlw w' w.heap.size (.slice D1 d1 d2) (.slice E1 e1 e2)) :=
  ⟨N,p',D1,d1,d2,E1,e1,e2,ds,fs,rfl,(H5.out.evo hev').evo hevc,(H6.out.evo hev').evo hevc,hf,(H4.out.trans hev' (C:=fun _ => False) (fun _ _ h => h) (fun q hq e => absurd hq (by have:q = w.heap.size + 1:=e; omega))).trans hevc (fun _ _ h => h) (fun q hq e => absurd hq (by have:q = w.heap.size:=e; omega)),⟨fun y hy => hz'.1 y (Nat.le_trans hevc.size hy),fun _ _ _ => trivial⟩⟩
 have HF:=Lib.hid hfin
 clear hfin hevc g2 q2 hev' CK H4 H5 H6 hx4 hx5 c0 c1 e0 e1' k0 k1 k3 k4
 go_wp2_with fail
 refine bodyPost_ret (v:=.tuple #[.agg #[.slice D1 d1 d2,.slice E1 e1 e2],.int .i64 y]) ?_ rfl ⟨_,y,rfl,hy,HF.out⟩
 have y0':(((w'.setCell ⟨w.heap.size,0,none⟩ (.slice D1 d1 d2)).setCell ⟨w.heap.size,1,none⟩ (.slice E1 e1 e2))).cell? ⟨w.heap.size,0,none⟩ = some (.slice D1 d1 d2):=y0
 have y1':(((w'.setCell ⟨w.heap.size,0,none⟩ (.slice D1 d1 d2)).setCell ⟨w.heap.size,1,none⟩ (.slice E1 e1 e2))).cell? ⟨w.heap.size,1,none⟩ = some (.slice E1 e1 e2):=y1
 simp [results,Tryz.results10,go_sem,y0',y1']
set_option maxHeartbeats 4000000 in
theorem znc {A:Option Addr} {n c:Nat} {w:World} (h:zdi w A n c) :
  Calls Tryz.prog 20 #[.slice A n c] w fun e w' => ∃ v y,e = .returned (.tuple #[v,.int .i64 y]) ∧ (y ∈ ([0,1,2,3,0,-1,4]:List Int)) ∧ zdY w v w':=by
 have hc:=ziG (B:=w.heap.size) (w:=w.alloc (.cells #[.slice none 0 0,.slice none 0 0] 26)) (by simp) (CodeB.alloc h (Nat.le_refl _) _)
 have hxa:=heap_alloc_new w (.cells #[.slice none 0 0,.slice none 0 0] 26)
 have hs1:(w.alloc (.cells #[.slice none 0 0,.slice none 0 0] 26)).heap.size = w.heap.size + 1:=by simp
 have hev0:=fun N => zgp w.heap.size N w (.cells #[.slice none 0 0,.slice none 0 0] 26) (fun _ => False)
 have HR:=Lib.hid hc
 have HX:=Lib.hid hxa
 have HV:=Lib.hid hev0
 clear hc h hxa hev0
 go_enter Tryz.func20,Tryz.ntmps20
 go_wp2_with fail
 refine HR.out.mono ?_
 rintro e w3 ⟨v,y,rfl,hy,N,p3,D1,d1,d2,E1,e1,e2,ds,fs,rfl,r0,r1,hf,hev,hz⟩
 have hx3:=(hev.block w.heap.size (by omega) (fun h => h)).trans HX.out
 have hp3:=(hev.same w.heap.size (by omega) (fun h => h)).trans (zh7 (Nat.le_refl _))
 have k0:=zam (j:=0) hx3 rfl
 have k1:=zam (j:=1) hx3 rfl
 have f0:=frozen_of_row w3 _ 0 _ _ hx3
 have f1:=frozen_of_row w3 _ 1 _ _ hx3
 have q1:=zjv (x0:=.slice D1 d1 d2) (x1:=.slice E1 e1 e2) hx3
 have y0:=zam (j:=0) q1 rfl
 have y1:=zam (j:=1) q1 rfl
 have hevc:Evo (· = w.heap.size) p3 w3 p3 (zlw w3 w.heap.size (.slice D1 d1 d2) (.slice E1 e1 e2)):=zlp p3 hp3
 have hfin:zdY w (.agg #[.slice D1 d1 d2,.slice E1 e1 e2]) (zlw w3 w.heap.size (.slice D1 d1 d2) (.slice E1 e1 e2)) :=
  ⟨N,p3,D1,d1,d2,E1,e1,e2,ds,fs,rfl,r0.evo hevc,r1.evo hevc,hf,((HV.out N).trans hev (C:=fun _ => False) (fun _ _ h => h) (fun _ _ h => h)).trans hevc (fun _ _ h => h) (fun q hq e => absurd hq (by have:q = w.heap.size:=e; omega)),⟨fun y hy => hz.1 y (Nat.le_trans hevc.size hy),fun _ _ _ => trivial⟩⟩
 have HF:=Lib.hid hfin
 clear hfin hevc q1 hx3 hev hz HR HX HV r0 r1 hp3
 go_wp2_with fail
 refine bodyPost_ret (v:=.tuple #[.agg #[.slice D1 d1 d2,.slice E1 e1 e2],.int .i64 y]) ?_ rfl ⟨_,y,rfl,hy,HF.out⟩
 have y0':(((w3.setCell ⟨w.heap.size,0,none⟩ (.slice D1 d1 d2)).setCell ⟨w.heap.size,1,none⟩ (.slice E1 e1 e2))).cell? ⟨w.heap.size,0,none⟩ = some (.slice D1 d1 d2):=y0
 have y1':(((w3.setCell ⟨w.heap.size,0,none⟩ (.slice D1 d1 d2)).setCell ⟨w.heap.size,1,none⟩ (.slice E1 e1 e2))).cell? ⟨w.heap.size,1,none⟩ = some (.slice E1 e1 e2):=y1
 simp [results,Tryz.results20,go_sem,y0',y1']
end Go.Proofs.YtcpcagdialnbeaaGreat
set_option maxRecDepth 100000
namespace Go.Proofs.YtcpcagdialnbeaaGreat
open Go Go.RowKit
noncomputable def X_laws_FnUnusedParams:Ctx:={ P:=Tryz.prog,L:=lay,F:=sig.has,E:=ext,fn:=Tryz.f6,lv:=[(0,[5,6,7,8])],jv:=[],tp:=[] }
noncomputable def zcQ (l27:List (List AC)) (n28:Int) (l29:List (List AC)) (n30:Int):Option AV:=GL X_laws_FnUnusedParams 0 [(5,.v (.cell (.sl 1 l27))),(6,.v (.cell (.int n28))),(7,.v (.cell (.sl 1 l29))),(8,.v (.cell (.int n30)))]
theorem zfl {l27:List (List AC)} {n28:Int} {l29:List (List AC)} {n30:Int} {r:AV} (h:( bif (decide (n30 < n28)) then zao (zgf [.cell (.sl 1 l27),.cell (.int n30)]) false [(false,[.bool false])] fun b31 => zao (zgf [.cell (.sl 1 l29),.cell (.int n30)]) false [(false,[.bool false])] fun b32 => bif (b31 == b32) then some (.v (.cell (.bool false))) else zcQ l27 n28 l29 (zae (n30 + 1)) else zao (zg8 [.cell (.sl 1 l27)]) false [(false,[.bool false])] fun b33 => bif b33 then some (.v (.cell (.bool ((zae (((l27.length:Nat):Int) + ((l29.length:Nat):Int))) == n28)))) else some (.v (.cell (.bool false))):Option AV) = some r):zcQ l27 n28 l29 n30 = some r:=zut (X:=X_laws_FnUnusedParams) (n:=100000) (by kernel_rfl) (by kernel_rfl:(X_laws_FnUnusedParams.fn.body.bind fun c => zes 0 c []) = some (.loop (zjC (X_laws_FnUnusedParams.fn.body.bind fun c => zes 0 c [])),zpT (X_laws_FnUnusedParams.fn.body.bind fun c => zes 0 c []))) (Eq.trans (by kernel_rfl) h)
theorem zdD {l1:List (List AC)} {l2:List (List AC)} {n3:Int} {r:AV} (h:( zao (zdp [.agg [.sl 3 l1,.sl 5 l2],.cell (.int n3)]) false [(false,[.sl 1 []])] fun l4 => zao (zbt [.agg [.sl 3 l1,.sl 5 l2],.cell (.int n3)]) false [(false,[.sl 1 []])] fun l5 => zao (za0 [.cell (.sl 1 l4),.cell (.sl 1 l5)]) false [(false,[.bool false])] fun b6 => bif (!b6) then zao (zbt [.agg [.sl 3 l1,.sl 5 l2],.cell (.int n3)]) false [(false,[.sl 1 []])] fun l7 => zao (za0 [.cell (.sl 1 l4),.cell (.sl 1 l7)]) false [(false,[.bool false])] fun b8 => some (.v (.cell (.bool b8))) else zao (zaN [.agg [.sl 3 l1,.sl 5 l2]]) false [(false,[.bool false])] fun b9 => bif (!b9) then zao (zbt [.agg [.sl 3 l1,.sl 5 l2],.cell (.int n3)]) false [(false,[.sl 1 []])] fun l10 => zao (za0 [.cell (.sl 1 l4),.cell (.sl 1 l10)]) false [(false,[.bool false])] fun b11 => some (.v (.cell (.bool b11))) else bif (decide (n3 < 0)) then zao (zbt [.agg [.sl 3 l1,.sl 5 l2],.cell (.int n3)]) false [(false,[.sl 1 []])] fun l12 => zao (za0 [.cell (.sl 1 l4),.cell (.sl 1 l12)]) false [(false,[.bool false])] fun b13 => some (.v (.cell (.bool b13))) else bif (decide (n3 ≥ ((l2.length:Nat):Int))) then zao (zbt [.agg [.sl 3 l1,.sl 5 l2],.cell (.int n3)]) false [(false,[.sl 1 []])] fun l14 => zao (za0 [.cell (.sl 1 l4),.cell (.sl 1 l14)]) false [(false,[.bool false])] fun b15 => some (.v (.cell (.bool b15))) else zdZ l2 n3 [.sl 1 [],.int 0,.int 0,.int 0,.sl 3 []] fun l16 n17 n18 n19 l20 => zdZ l2 n3 [.sl 1 [],.int 0,.int 0,.int 0,.sl 3 []] fun l21 n22 n23 n24 l25 => zao (zmH [.agg [.int n23,.int n24,.sl 3 l25],.cell (.int ((l16.length:Nat):Int))]) false [(false,[.sl 1 []])] fun l26 => zcQ l4 ((l16.length:Nat):Int) l26 0:Option AV) = some r):evM X_laws_FnUnusedParams 100000 (.run (zbC 3 (cOf Tryz.f6))) [] [(3,.box [.sl 3 l1,.sl 5 l2]),(4,.v (.cell (.int n3)))] = some r:=Eq.trans (by kernel_rfl) h
theorem zlW:(zcd zak lay sig (zbC 3 (cOf Tryz.f6)) (stM 85)).isSome = true:=by kernel_rfl
def FnUnusedParamsR0:Code:=.region 0 #[⟨some 2,.assign (.const (.bool false)),4,"laws.go:867",#[],none⟩] false
def FnUnusedParamsR1:Code:=.region 1 #[⟨some 9,.move (.tmp 0),22,"laws.go:868",#[],none⟩,⟨some 10,.call ⟨.builtin .len,#[.tmp 9],#[22]⟩,3,"laws.go:868",#[⟨0,.data⟩],none⟩,⟨some 11,.binOp .gtr 3 (.tmp 10) (.const (.int .i64 1048576)) 3,4,"laws.go:868",#[⟨1,.data⟩],none⟩] false
def zpZ:Code:=.region 2 #[⟨some 2,.assign (.const (.bool true)),4,"laws.go:869",#[],none⟩] false
def FnUnusedParamsR3:Code:=.region 3 #[⟨some 13,.move (.tmp 0),22,"laws.go:871",#[],none⟩,⟨some 14,.call ⟨.value (.func 20),#[.tmp 13],#[22]⟩,27,"laws.go:871",#[⟨0,.data⟩],none⟩,⟨some 12,.move (.tmp 14),27,"laws.go:871",#[⟨1,.data⟩],none⟩,⟨some 15,.extract (.tmp 12) 0,26,"laws.go:871",#[⟨2,.data⟩],none⟩,⟨some 16,.extract (.tmp 12) 1,3,"laws.go:871",#[⟨2,.data⟩,{ on:=6,ground:=Go.Ground.gcOnly Go.Departure.lateStores }],none⟩,⟨some 3,.alloc 26,0,"laws.go:871",#[],none⟩,⟨none,.store 26 (.tmp 3) (.tmp 15),0,"laws.go:871",#[⟨5,.data⟩,⟨3,.data⟩,⟨1,.chain⟩,⟨0,.phase⟩,⟨1,.phase⟩,⟨2,.phase⟩,⟨3,.phase⟩,{ on:=4,ground:=Go.Ground.textOnly Go.Departure.lateStores },⟨5,.phase⟩],none⟩,⟨some 4,.assign (.tmp 16),3,"laws.go:871",#[⟨4,.data⟩,⟨6,.chain⟩,⟨0,.phase⟩,⟨1,.phase⟩,⟨2,.phase⟩,⟨3,.phase⟩,⟨4,.phase⟩,⟨5,.phase⟩,⟨6,.phase⟩],none⟩] false
theorem znG:cOf Tryz.f6 = .seq FnUnusedParamsR0 (.seq (.seq FnUnusedParamsR1 (.cond (.tmp 11) (.seq zpZ .ret) .skip)) (.seq FnUnusedParamsR3 (zbC 3 (cOf Tryz.f6)))):=by kernel_rfl
theorem zf4 {m:Array Value} (h:m.size = 85):m = List.toArray (m.getD 0 undef :: m.getD 1 undef :: m.getD 2 undef :: m.getD 3 undef :: m.getD 4 undef :: m.getD 5 undef :: m.getD 6 undef :: m.getD 7 undef :: m.getD 8 undef :: m.getD 9 undef :: m.getD 10 undef :: m.getD 11 undef :: m.getD 12 undef :: m.getD 13 undef :: m.getD 14 undef :: m.getD 15 undef :: m.getD 16 undef :: m.getD 17 undef :: m.getD 18 undef :: m.getD 19 undef :: m.getD 20 undef :: m.getD 21 undef :: m.getD 22 undef :: m.getD 23 undef :: m.getD 24 undef :: m.getD 25 undef :: m.getD 26 undef :: m.getD 27 undef :: m.getD 28 undef :: m.getD 29 undef :: m.getD 30 undef :: m.getD 31 undef :: m.getD 32 undef :: m.getD 33 undef :: m.getD 34 undef :: m.getD 35 undef :: m.getD 36 undef :: m.getD 37 undef :: m.getD 38 undef :: m.getD 39 undef :: m.getD 40 undef :: m.getD 41 undef :: m.getD 42 undef :: m.getD 43 undef :: m.getD 44 undef :: m.getD 45 undef :: m.getD 46 undef :: m.getD 47 undef :: m.getD 48 undef :: m.getD 49 undef :: m.getD 50 undef :: m.getD 51 undef :: m.getD 52 undef :: m.getD 53 undef :: m.getD 54 undef :: m.getD 55 undef :: m.getD 56 undef :: m.getD 57 undef :: m.getD 58 undef :: m.getD 59 undef :: m.getD 60 undef :: m.getD 61 undef :: m.getD 62 undef :: m.getD 63 undef :: m.getD 64 undef :: m.getD 65 undef :: m.getD 66 undef :: m.getD 67 undef :: m.getD 68 undef :: m.getD 69 undef :: m.getD 70 undef :: m.getD 71 undef :: m.getD 72 undef :: m.getD 73 undef :: m.getD 74 undef :: m.getD 75 undef :: m.getD 76 undef :: m.getD 77 undef :: m.getD 78 undef :: m.getD 79 undef :: m.getD 80 undef :: m.getD 81 undef :: m.getD 82 undef :: m.getD 83 undef :: m.getD 84 undef :: []):=by
 apply Array.ext'
 have h1:m.toList = (List.range 85).map (fun i => m.getD i undef):=by
  apply List.ext_getElem
  ·simp [h]
  ·intro i h1 h2
   simp only [Array.length_toList] at h1
   simp [Array.getD,h1]
 exact h1.trans rfl
set_option maxHeartbeats 4000000 in
theorem zou {f:Nat → Value} {A:Option Addr} {n c:Nat} {w:World}  (Q:Exit → Act → World → Prop) (hQ:∀ a':Act,a'.defers = [] → a'.tmps.size = 85 → a'.tmps.getD 0 undef = .slice A n c → Q .normal a' (w)) :
 FnUnusedParamsR0.wp Tryz.prog Q { tmps:=List.toArray (.slice A n c :: f 1 :: f 2 :: f 3 :: f 4 :: f 5 :: f 6 :: f 7 :: f 8 :: f 9 :: f 10 :: f 11 :: f 12 :: f 13 :: f 14 :: f 15 :: f 16 :: f 17 :: f 18 :: f 19 :: f 20 :: f 21 :: f 22 :: f 23 :: f 24 :: f 25 :: f 26 :: f 27 :: f 28 :: f 29 :: f 30 :: f 31 :: f 32 :: f 33 :: f 34 :: f 35 :: f 36 :: f 37 :: f 38 :: f 39 :: f 40 :: f 41 :: f 42 :: f 43 :: f 44 :: f 45 :: f 46 :: f 47 :: f 48 :: f 49 :: f 50 :: f 51 :: f 52 :: f 53 :: f 54 :: f 55 :: f 56 :: f 57 :: f 58 :: f 59 :: f 60 :: f 61 :: f 62 :: f 63 :: f 64 :: f 65 :: f 66 :: f 67 :: f 68 :: f 69 :: f 70 :: f 71 :: f 72 :: f 73 :: f 74 :: f 75 :: f 76 :: f 77 :: f 78 :: f 79 :: f 80 :: f 81 :: f 82 :: f 83 :: f 84 :: []),defers:=[] } w:=by
 unfold FnUnusedParamsR0
 go_wp2
 exact hQ _ rfl rfl rfl
theorem zoq {m:Array Value} {A:Option Addr} {n c:Nat} {w:World}  (hs:m.size = 85) (m0:m.getD 0 undef = .slice A n c) (Q:Exit → Act → World → Prop) (hQ:∀ a':Act,a'.defers = [] → a'.tmps.size = 85 → a'.tmps.getD 0 undef = .slice A n c → Q .normal a' (w)) :
 FnUnusedParamsR0.wp Tryz.prog Q { tmps:=m,defers:=[] } w:=by
 have e:=zf4 hs
 rw [m0] at e
 rw [e]
 exact zou (f:=fun i => m.getD i undef)  Q hQ
set_option maxHeartbeats 4000000 in
theorem zn2 {f:Nat → Value} {A:Option Addr} {n c:Nat} {w:World} (hn:¬ (1048576:Int) < (n:Int)) (Q:Exit → Act → World → Prop) (hQ:∀ a':Act,a'.defers = [] → a'.tmps.size = 85 → a'.tmps.getD 0 undef = .slice A n c → a'.tmps.getD 11 undef = .bool false → Q .normal a' (w)) :
 FnUnusedParamsR1.wp Tryz.prog Q { tmps:=List.toArray (.slice A n c :: f 1 :: f 2 :: f 3 :: f 4 :: f 5 :: f 6 :: f 7 :: f 8 :: f 9 :: f 10 :: f 11 :: f 12 :: f 13 :: f 14 :: f 15 :: f 16 :: f 17 :: f 18 :: f 19 :: f 20 :: f 21 :: f 22 :: f 23 :: f 24 :: f 25 :: f 26 :: f 27 :: f 28 :: f 29 :: f 30 :: f 31 :: f 32 :: f 33 :: f 34 :: f 35 :: f 36 :: f 37 :: f 38 :: f 39 :: f 40 :: f 41 :: f 42 :: f 43 :: f 44 :: f 45 :: f 46 :: f 47 :: f 48 :: f 49 :: f 50 :: f 51 :: f 52 :: f 53 :: f 54 :: f 55 :: f 56 :: f 57 :: f 58 :: f 59 :: f 60 :: f 61 :: f 62 :: f 63 :: f 64 :: f 65 :: f 66 :: f 67 :: f 68 :: f 69 :: f 70 :: f 71 :: f 72 :: f 73 :: f 74 :: f 75 :: f 76 :: f 77 :: f 78 :: f 79 :: f 80 :: f 81 :: f 82 :: f 83 :: f 84 :: []),defers:=[] } w:=by
 unfold FnUnusedParamsR1
 go_wp2
 exact hQ _ rfl rfl rfl rfl
theorem zoC {m:Array Value} {A:Option Addr} {n c:Nat} {w:World} (hn:¬ (1048576:Int) < (n:Int)) (hs:m.size = 85) (m0:m.getD 0 undef = .slice A n c) (Q:Exit → Act → World → Prop) (hQ:∀ a':Act,a'.defers = [] → a'.tmps.size = 85 → a'.tmps.getD 0 undef = .slice A n c → a'.tmps.getD 11 undef = .bool false → Q .normal a' (w)) :
 FnUnusedParamsR1.wp Tryz.prog Q { tmps:=m,defers:=[] } w:=by
 have e:=zf4 hs
 rw [m0] at e
 rw [e]
 exact zn2 (f:=fun i => m.getD i undef) hn Q hQ
set_option maxHeartbeats 4000000 in
theorem zoa {f:Nat → Value} {A:Option Addr} {n c:Nat} {w:World} {post:Option Addr → Nat → Nat → Option Addr → Nat → Nat → Int → World → Prop} (hcall:Calls Tryz.prog 20 #[.slice A n c] w fun e w' => ∃ D1 d1 d2 E1 e1 e2 y0,e = .returned (.tuple #[.agg #[.slice D1 d1 d2,.slice E1 e1 e2],.int .i64 y0]) ∧ post D1 d1 d2 E1 e1 e2 y0 w') (Q:Exit → Act → World → Prop) (hQ:∀ D1 d1 d2 E1 e1 e2 (y0:Int) (w':World),post D1 d1 d2 E1 e1 e2 y0 w' → ∀ a':Act,a'.defers = [] → a'.tmps.size = 85 → a'.tmps.getD 0 undef = .slice A n c → a'.tmps.getD 3 undef = .pointer (some ⟨w'.heap.size,0,none⟩) → a'.tmps.getD 4 undef = .int .i64 y0 → Q .normal a' (w'.alloc (.cells #[.slice D1 d1 d2,.slice E1 e1 e2] 26))) :
 FnUnusedParamsR3.wp Tryz.prog Q { tmps:=List.toArray (.slice A n c :: f 1 :: f 2 :: f 3 :: f 4 :: f 5 :: f 6 :: f 7 :: f 8 :: f 9 :: f 10 :: f 11 :: f 12 :: f 13 :: f 14 :: f 15 :: f 16 :: f 17 :: f 18 :: f 19 :: f 20 :: f 21 :: f 22 :: f 23 :: f 24 :: f 25 :: f 26 :: f 27 :: f 28 :: f 29 :: f 30 :: f 31 :: f 32 :: f 33 :: f 34 :: f 35 :: f 36 :: f 37 :: f 38 :: f 39 :: f 40 :: f 41 :: f 42 :: f 43 :: f 44 :: f 45 :: f 46 :: f 47 :: f 48 :: f 49 :: f 50 :: f 51 :: f 52 :: f 53 :: f 54 :: f 55 :: f 56 :: f 57 :: f 58 :: f 59 :: f 60 :: f 61 :: f 62 :: f 63 :: f 64 :: f 65 :: f 66 :: f 67 :: f 68 :: f 69 :: f 70 :: f 71 :: f 72 :: f 73 :: f 74 :: f 75 :: f 76 :: f 77 :: f 78 :: f 79 :: f 80 :: f 81 :: f 82 :: f 83 :: f 84 :: []),defers:=[] } w:=by
 unfold FnUnusedParamsR3
 go_wp2_with fail
 refine hcall.mono ?_
 rintro e w' ⟨D1,d1,d2,E1,e1,e2,y0,rfl,hp⟩
 go_wp2
 exact hQ _ _ _ _ _ _ _ _ hp _ rfl rfl rfl rfl rfl
theorem zoD {m:Array Value} {A:Option Addr} {n c:Nat} {w:World} {post:Option Addr → Nat → Nat → Option Addr → Nat → Nat → Int → World → Prop} (hcall:Calls Tryz.prog 20 #[.slice A n c] w fun e w' => ∃ D1 d1 d2 E1 e1 e2 y0,e = .returned (.tuple #[.agg #[.slice D1 d1 d2,.slice E1 e1 e2],.int .i64 y0]) ∧ post D1 d1 d2 E1 e1 e2 y0 w') (hs:m.size = 85) (m0:m.getD 0 undef = .slice A n c) (Q:Exit → Act → World → Prop) (hQ:∀ D1 d1 d2 E1 e1 e2 (y0:Int) (w':World),post D1 d1 d2 E1 e1 e2 y0 w' → ∀ a':Act,a'.defers = [] → a'.tmps.size = 85 → a'.tmps.getD 0 undef = .slice A n c → a'.tmps.getD 3 undef = .pointer (some ⟨w'.heap.size,0,none⟩) → a'.tmps.getD 4 undef = .int .i64 y0 → Q .normal a' (w'.alloc (.cells #[.slice D1 d1 d2,.slice E1 e1 e2] 26))) :
 FnUnusedParamsR3.wp Tryz.prog Q { tmps:=m,defers:=[] } w:=by
 have e:=zf4 hs
 rw [m0] at e
 rw [e]
 exact zoa (f:=fun i => m.getD i undef) hcall Q hQ
set_option maxHeartbeats 4000000 in
theorem zlJ (hval:∀ (ds fs:List (List AC)) (y0:Int),zod ds fs → (y0 ∈ ([0,1,2,3,0,-1,4]:List Int)) → evM X_laws_FnUnusedParams 100000 (.run (zbC 3 (cOf Tryz.f6))) [] [(3,.box [.sl 3 ds,.sl 5 fs]),(4,.v (.cell (.int y0)))] = some (.v (.cell (.bool true))))
  (hdraw:∀ (A:Option Addr) (n c:Nat) (w:World),zdi w A n c → Calls Tryz.prog 20 #[.slice A n c] w fun e w' => ∃ v y0,e = .returned (.tuple #[v,.int .i64 y0]) ∧ (y0 ∈ ([0,1,2,3,0,-1,4]:List Int)) ∧ zdY w v w')
  (A:Option Addr) (n c:Nat) (w:World) (h:zdi w A n c):Calls Tryz.prog 6 #[.slice A n c] w fun e w' => e = .returned (.bool true) ∧ Below w.heap.size w w':=by
 by_cases hbig:1048576 < n
 ·go_enter Tryz.func6,Tryz.ntmps6
  go_wp2_with fail
  go_ret
  exact ⟨rfl,Below.refl _ _⟩
 ·refine calls_of_wp Tryz.func6 (c:=cOf Tryz.f6) (by kernel_rfl) ?_
  rw [znG]
  have hs0:(#[Value.slice A n c] ++ Array.replicate (Tryz.f6.ntmps - (#[.slice A n c]:Array Value).size) undef).size = 85:=by simp [Tryz.ntmps6]
  have h0:(#[Value.slice A n c] ++ Array.replicate (Tryz.f6.ntmps - (#[.slice A n c]:Array Value).size) undef).getD 0 undef = Value.slice A n c:=by simp [Array.getD]
  generalize (#[Value.slice A n c] ++ Array.replicate (Tryz.f6.ntmps - (#[.slice A n c]:Array Value).size) undef) = m0 at hs0 h0
  refine wp_seq (zoq hs0 h0 _ fun a1 hd1 hs1 h1 => ?_)
  obtain ⟨m1,dd⟩:=a1
  have hd1:dd = []:=hd1
  subst hd1
  refine wp_seq (wp_seq (zoC (by omega) hs1 h1 _ fun a2 hd2 hs2 h2 h29 => ?_))
  obtain ⟨m2,dd⟩:=a2
  have hd2:dd = []:=hd2
  subst hd2
  refine wp_cond (t:=false) h29 ?_
  simp only [Bool.false_eq_true,if_false]
  refine wp_skip ?_
  show Code.wp _ (.seq FnUnusedParamsR3 (zbC 3 (cOf Tryz.f6))) _ ⟨m2,[]⟩ w
  refine wp_seq (zoD (post:=fun D1 d1 d2 E1 e1 e2 y0 w' => (y0 ∈ ([0,1,2,3,0,-1,4]:List Int)) ∧ zdY w (.agg #[.slice D1 d1 d2,.slice E1 e1 e2]) w') ?_ hs2 h2 _ ?_)
  ·refine (hdraw A n c w h).mono ?_
   rintro e w' ⟨v,y0,rfl,hy,N,p',D1,d1,d2,E1,e1,e2,ds,fs,rfl,hd⟩
   exact ⟨_,_,_,_,_,_,_,rfl,hy,N,p',D1,d1,d2,E1,e1,e2,ds,fs,rfl,hd⟩
  rintro D1 d1 d2 E1 e1 e2 y0 w1 ⟨hy,N,p1,D1',d1',d2',E1',e1',e2',ds,fs,hv,hrep,hrep2,hf,hev,hz⟩ a3 hd3 hs3 h3 h33 h34
  injection hv with hv
  have hv:=congrArg Array.toList hv
  obtain ⟨⟨rfl,rfl,rfl⟩,rfl,rfl,rfl⟩:(D1 = D1' ∧ d1 = d1' ∧ d2 = d2') ∧ E1 = E1' ∧ e1 = e1' ∧ e2 = e2':=by simpa using hv
  obtain ⟨m3,dd⟩:=a3
  have hd3:dd = []:=hd3
  subst hd3
  have hs3:m3.size = 85:=hs3
  have h33:m3.getD 3 undef = .pointer (some ⟨w1.heap.size,0,none⟩):=h33
  have h34:m3.getD 4 undef = .int .i64 y0:=h34
  have hea:=zaO (p:=p1) (w:=w1) (.cells #[.slice D1 d1 d2,.slice E1 e1 e2] 26) 0 (fun _ => False)
  have hx:=heap_alloc_new w1 (.cells #[.slice D1 d1 d2,.slice E1 e1 e2] 26)
  have hz1:Zp (upP p1 w1.heap.size 0) (w1.alloc (.cells #[.slice D1 d1 d2,.slice E1 e1 e2] 26)):=⟨fun c hc => by
   rw [zby]
   split
   ·rfl
   ·exact hz.1 c (by simp at hc; omega),fun _ _ _ => trivial⟩
  have hE:=hev.trans hea (C:=fun _ => False) (fun _ _ h => h) (fun _ _ h => h)
  have hr1:=hrep.evo hea
  have hr2:=hrep2.evo hea
  have hK:zoL (upP p1 w1.heap.size 0) (w1.alloc (.cells #[.slice D1 d1 d2,.slice E1 e1 e2] 26)) m3 85 [(3,.box [.sl 3 ds,.sl 5 fs]),(4,.v (.cell (.int y0)))] (fun x => w.heap.size ≤ x):=by
   have look:∀ t x,List.lookup t [(3,.box [.sl 3 ds,.sl 5 fs]),(4,.v (.cell (.int y0)))] = some x → (t = 3 ∧ x = AV.box [.sl 3 ds,.sl 5 fs]) ∨ (t = 4 ∧ x = AV.v (.cell (.int y0))) ∨ False:=fun t x hx => by
    simp only [List.lookup_cons] at hx
    by_cases h3:t = 3
    ·subst h3; simp at hx; exact .inl ⟨rfl,hx.symm⟩
    rw [show (t == 3) = false by simpa using h3] at hx
    by_cases h4:t = 4
    ·subst h4; simp at hx; exact .inr (.inl ⟨rfl,hx.symm⟩)
    rw [show (t == 4) = false by simpa using h4] at hx
    simp at hx
   refine ⟨fun t x hx' => ?_,fun t x hx' => ?_,fun t t' cs cs' x ht h1 h2 h3 h4 => ?_⟩
   ·rcases look t x hx' with ⟨rfl,rfl⟩ | ⟨rfl,rfl⟩ | h
    ·exact ⟨by omega,_,_,_,h33,hx,hr1,hr2,trivial⟩
    ·exact ⟨by omega,by rw [h34]; exact .int _⟩
    ·exact h.elim
   ·rcases look t x hx' with ⟨rfl,rfl⟩ | ⟨rfl,rfl⟩ | h
    ·exact .inr ⟨_,_,rfl,h33,by rw [zby,if_pos rfl],hev.size⟩
    ·exact .inl ⟨_,rfl⟩
    ·exact h.elim
   ·rcases look _ _ h1 with ⟨rfl,_⟩ | ⟨_,h⟩ | h
    ·rcases look _ _ h2 with ⟨rfl,_⟩ | ⟨_,h⟩ | h
     ·exact ht rfl
     ·cases h
     ·exact h.elim
    ·cases h
    ·exact h.elim
  obtain ⟨O,hO⟩:=Option.isSome_iff_exists.1 zlW
  have hI:=zhz hs3 hK hz1 (fun x hx => Nat.le_trans hE.size hx)
  refine zcn (zlv (X:=X_laws_FnUnusedParams) (a:={ tmps:=m3,defers:=[] }) zcZ zfv vok (hval ds fs y0 hf hy) (zcK _ _ _) (zjx fun t x hx => (hK.lt t x hx).1) hO hI rfl hE) ?_
  rintro e w' ⟨v,rfl,p',hsr,_,_,hev',hz'⟩
  have hsr:Rep p' w' v (.bool true):=hsr
  cases hsr
  exact ⟨rfl,hev'.os,hev'.tape,hev'.output,hev'.size,fun b hb => hev'.block b hb (fun h => h)⟩
end Go.Proofs.YtcpcagdialnbeaaGreat
namespace Go.Proofs.YtcpcagdialnbeaaGreat
open Go
def zr6:List Int → Int → List Int
 | [],x => [x]
 | y :: ys,x => if y ≥ x then (if y > x then x :: y :: ys else y :: ys) else y :: zr6 ys x
def zat (S:Nat → Bool) (a m:Nat):List Int:=((List.range' a m).filter S).map fun i:Nat => (i:Int)
theorem zvF {S:Nat → Bool} {a m:Nat}:∀ y ∈ zat S a m,(a:Int) ≤ y:=by
 intro y hy
 unfold zat at hy
 obtain ⟨i,hi,rfl⟩:=List.mem_map.1 hy
 have:=List.mem_range'_1.1 (List.mem_filter.1 hi).1
 omega
theorem zxT {x:Int}:∀ {l:List Int},(∀ y ∈ l,x < y) → zr6 l x = x :: l
 | [],_ => rfl
 | y :: ys,h => by
  have:=h y List.mem_cons_self
  unfold zr6
  rw [if_pos (by omega),if_pos (by omega)]
theorem zjy (S:Nat → Bool) (a m:Nat):zat S a (m + 1) = if S a then (a:Int) :: zat S (a + 1) m else zat S (a + 1) m:=by
 unfold zat
 rw [List.range'_succ,List.filter_cons]
 split <;> rfl
theorem zjB {S S':Nat → Bool}:∀ {m a:Nat},(∀ i,a ≤ i → i < a + m → S i = S' i) → zat S a m = zat S' a m
 | 0,_,_ => rfl
 | m + 1,a,h => by
  rw [zjy,zjy,h a (by omega) (by omega),zjB (m:=m) (a:=a + 1) fun i h1 h2 => h i (by omega) (by omega)]
theorem zo7 (S:Nat → Bool) (j:Nat):∀ (m a:Nat),a ≤ j → j < a + m → zr6 (zat S a m) (j:Int) = zat (fun i => S i || i == j) a m
 | 0,a,h1,h2 => by omega
 | m + 1,a,h1,h2 => by
  rw [zjy,zjy]
  by_cases hj:a = j
  ·subst hj
   have e:zat (fun i => S i || i == a) (a + 1) m = zat S (a + 1) m:=zjB fun i g1 g2 => by
    have:(i == a) = false:=by simp; omega
    rw [this,Bool.or_false]
   rw [beq_self_eq_true,Bool.or_true,if_pos rfl,e]
   split
   ·unfold zr6
    rw [if_pos (by omega),if_neg (by omega)]
   ·exact zxT fun y hy => by have:=zvF y hy; omega
  ·have e:(a == j) = false:=by simp [hj]
   rw [e,Bool.or_false]
   have ih:=zo7 S j m (a + 1) (by omega) (by omega)
   split
   ·conv => lhs; unfold zr6
    rw [if_neg (by omega),ih]
   ·exact ih
theorem zhZ (S:Nat → Bool) {n k:Nat} (hk:k < n):(zat S 0 n).contains (k:Int) = S k:=by
 rw [Bool.eq_iff_iff,List.contains_iff_mem]
 unfold zat
 rw [List.mem_map]
 constructor
 ·rintro ⟨i,hi,e⟩
  have:i = k:=by omega
  subst this
  exact (List.mem_filter.1 hi).2
 ·intro h
  exact ⟨k,List.mem_filter.2 ⟨List.mem_range'_1.2 ⟨by omega,by omega⟩,h⟩,rfl⟩
theorem zcl (xs:List Int) (x:Int):zad xs ++ [[AC.int x]] = zad (xs ++ [x]):=by simp [zad]
theorem zzl (xs:List Int) (n:Int) (hx:xs.length ≤ 1048576):zgi [.cell (.sl 1 (zad xs)),.cell (.int n)] = some (.v (.cell (.sl 1 (zad (zr6 xs n))))):=by
 have rest:∀ m k:Nat,k + m = xs.length → ∀ acc:List Int,acc.length ≤ k + 1 → zcy (zad xs) n (zad acc) true (k:Int) = some (.v (.cell (.sl 1 (zad (acc ++ xs.drop k))))):=by
  intro m
  induction m with
  | zero =>
   intro k hk acc ha
   rw [List.drop_eq_nil_of_le (by omega),List.append_nil]
   exact zey (zaa (decide_eq_false (by rw [zab]; omega)) (zaa rfl rfl))
  | succ m ih =>
   intro k hk acc ha
   have hlt:k < xs.length:=by omega
   have hnext:=ih (k + 1) (by omega) (acc ++ [xs[k]]) (by simp; omega)
   rw [← wrk (by unfold zaE; omega),List.append_assoc,List.singleton_append,← List.drop_eq_getElem_cons hlt] at hnext
   refine zey (zac (decide_eq_true (by rw [zab]; omega)) (zaa rfl (zaR hlt (zb5 (by rw [zab]; simp; omega) ?_))))
   rw [zcl]
   exact hnext
 have key:∀ m k:Nat,k + m = xs.length → ∀ acc:List Int,acc.length ≤ k → zcy (zad xs) n (zad acc) false (k:Int) = some (.v (.cell (.sl 1 (zad (acc ++ zr6 (xs.drop k) n))))):=by
  intro m
  induction m with
  | zero =>
   intro k hk acc ha
   rw [List.drop_eq_nil_of_le (by omega)]
   refine zey (zaa (decide_eq_false (by rw [zab]; omega)) (zac rfl (zb5 (by rw [zab]; simp; omega) ?_)))
   rw [zcl]
   rfl
  | succ m ih =>
   intro k hk acc ha
   have hlt:k < xs.length:=by omega
   rw [List.drop_eq_getElem_cons hlt]
   refine zey (zac (decide_eq_true (by rw [zab]; omega)) (zac rfl (zaR hlt ?_)))
   unfold zr6
   by_cases h1:xs[k] ≥ n
   ·rw [if_pos h1]
    refine zac (decide_eq_true h1) (zaR hlt ?_)
    by_cases h2:xs[k] > n
    ·rw [if_pos h2]
     have hnext:=rest m (k + 1) (by omega) (acc ++ [n] ++ [xs[k]]) (by simp; omega)
     rw [← wrk (by unfold zaE; omega),List.append_assoc,List.append_assoc] at hnext
     refine zac (decide_eq_true h2) (zb5 (by rw [zab]; simp; omega) (zaR hlt ?_))
     rw [zcl]
     refine zb5 (by rw [zab]; simp; omega) ?_
     rw [zcl,List.append_assoc]
     exact hnext
    ·rw [if_neg h2]
     have hnext:=rest m (k + 1) (by omega) (acc ++ [xs[k]]) (by simp; omega)
     rw [← wrk (by unfold zaE; omega),List.append_assoc] at hnext
     refine zaa (decide_eq_false h2) (zaR hlt (zb5 (by rw [zab]; simp; omega) ?_))
     rw [zcl]
     exact hnext
   ·rw [if_neg h1]
    have hnext:=ih (k + 1) (by omega) (acc ++ [xs[k]]) (by simp; omega)
    rw [← wrk (by unfold zaE; omega),List.append_assoc] at hnext
    refine zaa (decide_eq_false h1) (zaR hlt (zb5 (by rw [zab]; simp; omega) ?_))
    rw [zcl]
    exact hnext
 exact ztE (key xs.length 0 (by omega) [] (by simp))
end Go.Proofs.YtcpcagdialnbeaaGreat
namespace Go.Proofs.YtcpcagdialnbeaaGreat
open Go Go.RowKit
def wB (n:Int) (ys:List Int):List Int:=ys.filter fun y => !(y == n)
def wF (n:Int):List Int → List Int
 | [] => [n]
 | y :: ys => if y ≥ n then n :: wB n (y :: ys) else y :: wF n ys
theorem zFo {n:Int} {ys:List Int} (h:∀ y ∈ ys,n < y):wB n ys = ys:=by
 unfold wB
 rw [List.filter_eq_self]
 intro y hy
 have:=h y hy
 simp
 omega
theorem zvC (n y:Int) (ys:List Int):wB n (y :: ys) = if y = n then wB n ys else y :: wB n ys:=by
 unfold wB
 rw [List.filter_cons]
 by_cases h:y = n <;> simp [h]
theorem zx1 (S:Nat → Bool) (j:Nat):∀ (m a:Nat),wF (j:Int) (zat S a m) = zr6 (zat S a m) (j:Int)
 | 0,a => rfl
 | m + 1,a => by
  rw [zjy]
  split
  ·unfold wF zr6
   have hr:wB (j:Int) (zat S (a + 1) m) = zat S (a + 1) m ∨ (a:Int) < j:=by
    by_cases h:(a:Int) < j
    ·exact .inr h
    ·exact .inl (zFo fun y hy => by have:=zvF y hy; omega)
   by_cases h:(a:Int) ≥ (j:Int)
   ·rw [if_pos h,if_pos h,zvC,hr.resolve_right (by omega)]
    by_cases h2:(a:Int) = (j:Int)
    ·rw [if_pos h2,if_neg (by omega),h2]
    ·rw [if_neg h2,if_pos (by omega)]
   ·rw [if_neg h,if_neg h,zx1 S j m (a + 1)]
  ·exact zx1 S j m (a + 1)
theorem zxg (xs:List Int) (n:Int) (hx:xs.length ≤ 1048576):ze3 [.cell (.sl 1 (zad xs)),.cell (.int n)] = rL (wF n xs):=by
 have rest:∀ m k:Nat,k + m = xs.length → ∀ acc:List Int,acc.length ≤ k + 1 → zbj n (zad acc) true (zad xs) ((xs.length:Nat):Int) (k:Int) = rL (acc ++ wB n (xs.drop k)):=by
  intro m
  induction m with
  | zero =>
   intro k hk acc ha
   rw [List.drop_eq_nil_of_le (by omega)]
   refine zee (zaa (decide_eq_false (by omega)) (zaa rfl ?_))
   rw [show wB n [] = [] from rfl,List.append_nil]
  | succ m ih =>
   intro k hk acc ha
   have hlt:k < xs.length:=by omega
   have w:zae ((k:Int) + 1) = ((k + 1:Nat):Int):=wrk (by unfold zaE; omega)
   rw [List.drop_eq_getElem_cons hlt,zvC]
   refine zee (zac (decide_eq_true (by omega)) (zaR hlt ?_))
   rw [w]
   have app:∀ r,zbj n (zad (acc ++ [xs[k]])) true (zad xs) ((xs.length:Nat):Int) ((k + 1:Nat):Int) = some r → zdN (zad acc) [[.int xs[k]]] (fun l12 => zbj n l12 true (zad xs) ((xs.length:Nat):Int) ((k + 1:Nat):Int)) = some r:=fun r h => zb5 (by rw [zab]; simp; omega) (by rw [zcl]; exact h)
   by_cases h2:xs[k] = n
   ·rw [if_pos h2]
    refine zac (decide_eq_true (by omega)) (zaa rfl (zaa (nef h2) ?_))
    exact ih (k + 1) (by omega) acc (by omega)
   ·rw [if_neg h2]
    have nx:=ih (k + 1) (by omega) (acc ++ [xs[k]]) (by simp; omega)
    rw [List.append_assoc] at nx
    by_cases h:xs[k] ≥ n
    ·exact zac (decide_eq_true h) (zaa rfl (zac (net h2) (app _ (by rw [nx]; rfl))))
    ·exact zaa (decide_eq_false h) (zac (net h2) (app _ (by rw [nx]; rfl)))
 have key:∀ m k:Nat,k + m = xs.length → ∀ acc:List Int,acc.length ≤ k → zbj n (zad acc) false (zad xs) ((xs.length:Nat):Int) (k:Int) = rL (acc ++ wF n (xs.drop k)):=by
  intro m
  induction m with
  | zero =>
   intro k hk acc ha
   rw [List.drop_eq_nil_of_le (by omega)]
   refine zee (zaa (decide_eq_false (by omega)) (zac rfl (zb5 (by rw [zab]; simp; omega) ?_)))
   rw [zcl]
   rfl
  | succ m ih =>
   intro k hk acc ha
   have hlt:k < xs.length:=by omega
   have w:zae ((k:Int) + 1) = ((k + 1:Nat):Int):=wrk (by unfold zaE; omega)
   rw [List.drop_eq_getElem_cons hlt]
   refine zee (zac (decide_eq_true (by omega)) (zaR hlt ?_))
   rw [w]
   unfold wF
   by_cases h:xs[k] ≥ n
   ·rw [if_pos h,zvC]
    refine zac (decide_eq_true h) (zac rfl (zb5 (by rw [zab]; simp; omega) ?_))
    rw [zcl]
    by_cases h2:xs[k] = n
    ·rw [if_pos h2]
     refine zaa (nef h2) ?_
     rw [rest m (k + 1) (by omega) (acc ++ [n]) (by simp; omega),List.append_assoc]
     rfl
    ·rw [if_neg h2]
     refine zac (net h2) (zb5 (by rw [zab]; simp; omega) ?_)
     rw [zcl,rest m (k + 1) (by omega) (acc ++ [n] ++ [xs[k]]) (by simp; omega),List.append_assoc,List.append_assoc]
     rfl
   ·rw [if_neg h]
    refine zaa (decide_eq_false h) (zac (net (by omega)) (zb5 (by rw [zab]; simp; omega) ?_))
    rw [zcl,ih (k + 1) (by omega) (acc ++ [xs[k]]) (by simp; omega),List.append_assoc]
    rfl
 have:=key xs.length 0 (by omega) [] (by simp)
 refine zrD ?_
 rw [zab]
 exact this
theorem zbZ (S:Nat → Bool) (a m:Nat):(zat S a m).length ≤ m:=by
 unfold zat
 rw [List.length_map]
 have:=List.length_filter_le S (List.range' a m)
 simpa using this
def orS (A B:Nat → Bool):Nat → Bool:=fun i => A i || B i
def zlf (j:Nat):Nat → Bool:=fun i => i == j
theorem zAa {m j:Nat} (hj:j < m) (hm:m ≤ 1000) (A:Nat → Bool):ze3 [.cell (.sl 1 (zad (zat A 0 m))),.cell (.int (j:Int))] = rL (zat (orS A (zlf j)) 0 m):=by
 have hl:=zbZ A 0 m
 rw [zxg _ _ (by omega),zx1,zo7 A j m 0 (by omega) (by omega)]
 rfl
theorem zEX {m j:Nat} (hj:j < m) (hm:m ≤ 1000) (A:Nat → Bool):zgi [.cell (.sl 1 (zad (zat A 0 m))),.cell (.int (j:Int))] = rL (zat (orS A (zlf j)) 0 m):=by
 have hl:=zbZ A 0 m
 rw [zzl _ _ (by omega),zo7 A j m 0 (by omega) (by omega)]
 rfl
theorem znv (xs:List Int) (n:Int) (hx:xs.length ≤ 1048576):zgf [.cell (.sl 1 (zad xs)),.cell (.int n)] = rB (xs.contains n):=by
 have key:∀ m k:Nat,k + m = xs.length → zjj (zad xs) n (k:Int) = rB ((xs.drop k).contains n):=by
  intro m
  induction m with
  | zero =>
   intro k hk
   rw [List.drop_eq_nil_of_le (by omega)]
   exact zmj (zaa (decide_eq_false (by rw [zab]; omega)) rfl)
  | succ m ih =>
   intro k hk
   have hlt:k < xs.length:=by omega
   have hnext:=ih (k + 1) (by omega)
   rw [← wrk (by unfold zaE; omega)] at hnext
   rw [List.drop_eq_getElem_cons hlt,List.contains_cons]
   refine zmj (zac (decide_eq_true (by rw [zab]; omega)) (zaR hlt ?_))
   rcases e:(xs[k] == n) with _ | _
   ·rw [show (n == xs[k]) = false by rw [beq_eq_false_iff_ne] at e ⊢; exact fun h => e h.symm,Bool.false_or]
    exact zaa rfl hnext
   ·rw [show (n == xs[k]) = true by rw [beq_iff_eq] at e ⊢; exact e.symm,Bool.true_or]
    exact zac rfl rfl
 exact zvd (key xs.length 0 (by omega))
theorem zgT (xs:List Int) (hx:xs.length ≤ 1048576):za0 [.cell (.sl 1 (zad xs)),.cell (.sl 1 (zad xs))] = rB true:=by
 have key:∀ m k:Nat,k + m = xs.length → zeD (zad xs) (zad xs) (k:Int) = rB true:=by
  intro m
  induction m with
  | zero =>
   intro k hk
   exact zh8 (zaa (decide_eq_false (by rw [zab]; omega)) rfl)
  | succ m ih =>
   intro k hk
   have hlt:k < xs.length:=by omega
   have hnext:=ih (k + 1) (by omega)
   rw [← wrk (by unfold zaE; omega)] at hnext
   exact zh8 (zac (decide_eq_true (by rw [zab]; omega)) (zaR hlt (zaR hlt (zaa (nef rfl) hnext))))
 exact zoF (zaa (nef rfl) (key xs.length 0 (by omega)))
theorem zqi (xs:List Int) (hx:xs.length ≤ 1048576) (h:∀ k (hk:k + 1 < xs.length),xs[k] < xs[k + 1]):zg8 [.cell (.sl 1 (zad xs))] = rB true:=by
 have key:∀ m k:Nat,k + m = xs.length → 1 ≤ k → zfN (zad xs) (k:Int) = rB true:=by
  intro m
  induction m with
  | zero =>
   intro k hk h1
   exact zf8 (zaa (decide_eq_false (by rw [zab]; omega)) rfl)
  | succ m ih =>
   intro k hk h1
   obtain ⟨k,rfl⟩:∃ j,k = j + 1:=⟨k - 1,by omega⟩
   have hlt:k + 1 < xs.length:=by omega
   have hnext:=ih (k + 1 + 1) (by omega) (by omega)
   rw [← wrk (by unfold zaE; omega)] at hnext
   have w:zae (((k + 1:Nat):Int) - 1) = (k:Int):=by rw [wr (by omega) (by omega)]; omega
   have hlt':=h k hlt
   refine zf8 (zac (decide_eq_true (by rw [zab]; omega)) (zaR hlt ?_))
   rw [w]
   exact zaR (show k < xs.length by omega) (zaa (decide_eq_false (by omega)) hnext)
 refine zrP ?_
 rcases Nat.lt_or_ge xs.length 1 with h0 | h0
 ·exact zf8 (zaa (decide_eq_false (by rw [zab]; omega)) rfl)
 ·exact key (xs.length - 1) 1 (by omega) (by omega)
def zov (f:List AC → Nat) (kids:List (List AC)):Nat:=(kids.map f).sum
theorem znq (f:List AC → Nat) {kids:List (List AC)} {k:Nat} (h:k < kids.length):zov f (kids.drop k) = f (kids.getD k []) + zov f (kids.drop (k + 1)):=by
 unfold zov
 rw [List.drop_eq_getElem_cons h,List.map_cons,List.sum_cons]
 simp [List.getD,h]
def men (v:Int):Nat → List AC → Nat
 | s + 1,[.int o,.int n,.sl 3 kids] => (if o = 12 ∧ n = v then 1 else 0) + zov (men v s) kids
 | _,_ => 0
theorem zvx (v:Int) (s:Nat) (o n:Int) (kids:List (List AC)):men v (s + 1) [.int o,.int n,.sl 3 kids] = (if o = 12 ∧ n = v then 1 else 0) + zov (men v s) kids:=rfl
theorem zyD {f:List AC → Nat} {kids:List (List AC)} (h:∀ k,k < kids.length → f (kids.getD k []) ≤ 1 + cS (kids.getD k [])):∀ m k:Nat,k + m = kids.length → zov f (kids.drop k) ≤ zj3 kids k:=by
 intro m
 induction m with
 | zero =>
  intro k hk
  rw [List.drop_eq_nil_of_le (by omega)]
  exact Nat.zero_le _
 | succ m ih =>
  intro k hk
  have hlt:k < kids.length:=by omega
  have h1:=ih (k + 1) (by omega)
  have h2:=h k hlt
  rw [znq f hlt,zgq hlt]
  omega
theorem zES:∀ (s:Nat) (v o n:Int) (kids:List (List AC)),Fit .expr [.int o,.int n,.sl 3 kids] → cS [.int o,.int n,.sl 3 kids] < s → s ≤ 31 →
  men v s [.int o,.int n,.sl 3 kids] ≤ 1 + cS [.int o,.int n,.sl 3 kids] ∧ zbl [.agg [.int o,.int n,.sl 3 kids],.cell (.int 12),.cell (.int v)] = rI ((men v s [.int o,.int n,.sl 3 kids]:Nat):Int):=by
 intro s
 induction s with
 | zero => intro v o n kids _ h; omega
 | succ s ihs =>
  intro v o n kids hf hs hs31
  obtain ⟨_,hn,hml,hk⟩:=zlR hf
  have hr0:=zlA o n kids
  have hcs:=zeL o n kids
  have kid:∀ k (hlt:k < kids.length),men v s (kids.getD k []) ≤ 1 + cS (kids.getD k []) ∧ zbl [.agg (kids.getD k []),.cell (.int 12),.cell (.int v)] = rI ((men v s (kids.getD k []):Nat):Int):=fun k hlt => by
   obtain ⟨o',n',ks,e,hf'⟩:=zez hk hlt
   have h1:=zlE hlt (o:=o) (n:=n)
   rw [e] at h1 ⊢
   exact ihs v o' n' ks hf' (by omega) (by omega)
  have hb:=zyD (f:=men v s) (fun k h => (kid k h).1)
  have li:∀ m k:Nat,k + m = kids.length → ∀ c:Nat,c + zj3 kids k ≤ 1000 → zbJ 12 v (c:Int) kids ((kids.length:Nat):Int) (k:Int) = rI ((c + zov (men v s) (kids.drop k):Nat):Int):=by
   intro m
   induction m with
   | zero =>
    intro k hkm c hc
    rw [List.drop_eq_nil_of_le (by omega)]
    exact zbX (zaa (decide_eq_false (by omega)) rfl)
   | succ m ih =>
    intro k hkm c hc
    have hlt:k < kids.length:=by omega
    obtain ⟨o',n',ks,e,_⟩:=zez hk hlt
    obtain ⟨g1,g2⟩:=kid k hlt
    have hr:=zgq hlt
    rw [znq _ hlt]
    generalize men v s (kids.getD k []) = y at *
    rw [e] at g2
    refine zbX (zac (decide_eq_true (by omega)) (zcj hlt e (zay g2 ?_)))
    have w2:zae ((c:Int) + (y:Int)) = ((c + y:Nat):Int):=by rw [wr (by omega) (by omega)]; omega
    rw [w2,wrk (by unfold zaE; omega),ih (k + 1) (by omega) _ (by omega),Nat.add_assoc]
  have h0:=hb kids.length 0 (by omega)
  have i0:=fun c hc => li kids.length 0 (by omega) c hc
  rw [List.drop_zero] at h0
  simp only [List.drop_zero] at i0
  rw [zvx]
  by_cases ho:o = 12
  ·by_cases hv:n = v
   ·rw [if_pos ⟨ho,hv⟩]
    exact ⟨by omega,zbu (zac (eqt ho) (zac (eqt hv) (i0 1 (by omega))))⟩
   ·rw [if_neg (fun h => hv h.2)]
    exact ⟨by omega,zbu (zac (eqt ho) (zaa (eqf hv) (i0 0 (by omega))))⟩
  ·rw [if_neg (fun h => ho h.1)]
   exact ⟨by omega,zbu (zaa (eqf ho) (i0 0 (by omega)))⟩
theorem zGH:∀ (s:Nat) (v o n:Int) (kids:List (List AC)),Fit .expr [.int o,.int n,.sl 3 kids] → cS [.int o,.int n,.sl 3 kids] < s → s ≤ 31 →
  men v s [.int o,.int n,.sl 3 kids] ≤ 1 + cS [.int o,.int n,.sl 3 kids] ∧ zdo [.agg [.int o,.int n,.sl 3 kids],.cell (.int v)] = rI ((men v s [.int o,.int n,.sl 3 kids]:Nat):Int):=by
 intro s
 induction s with
 | zero => intro v o n kids _ h; omega
 | succ s ihs =>
  intro v o n kids hf hs hs31
  obtain ⟨_,hn,hml,hk⟩:=zlR hf
  have hr0:=zlA o n kids
  have hcs:=zeL o n kids
  have kid:∀ k (hlt:k < kids.length),men v s (kids.getD k []) ≤ 1 + cS (kids.getD k []) ∧ zdo [.agg (kids.getD k []),.cell (.int v)] = rI ((men v s (kids.getD k []):Nat):Int):=fun k hlt => by
   obtain ⟨o',n',ks,e,hf'⟩:=zez hk hlt
   have h1:=zlE hlt (o:=o) (n:=n)
   rw [e] at h1 ⊢
   exact ihs v o' n' ks hf' (by omega) (by omega)
  have hb:=zyD (f:=men v s) (fun k h => (kid k h).1)
  have ls:∀ m k:Nat,k + m = kids.length → ∀ c:Nat,c + zj3 kids k ≤ 1000 → zcm v o n kids (c:Int) (k:Int) = rI ((c + zov (men v s) (kids.drop k):Nat):Int):=by
   intro m
   induction m with
   | zero =>
    intro k hkm c hc
    rw [List.drop_eq_nil_of_le (by omega)]
    exact zhm (zaa (decide_eq_false (by omega)) rfl)
   | succ m ih =>
    intro k hkm c hc
    have hlt:k < kids.length:=by omega
    obtain ⟨o',n',ks,e,_⟩:=zez hk hlt
    obtain ⟨g1,g2⟩:=kid k hlt
    have hr:=zgq hlt
    rw [znq _ hlt]
    generalize men v s (kids.getD k []) = y at *
    rw [e] at g2
    refine zhm (zac (decide_eq_true (by omega)) (zcj hlt e (zay g2 ?_)))
    have w2:zae ((c:Int) + (y:Int)) = ((c + y:Nat):Int):=by rw [wr (by omega) (by omega)]; omega
    rw [w2,wrk (by unfold zaE; omega),ih (k + 1) (by omega) _ (by omega),Nat.add_assoc]
  have h0:=hb kids.length 0 (by omega)
  have s0:=fun c hc => ls kids.length 0 (by omega) c hc
  rw [List.drop_zero] at h0
  simp only [List.drop_zero] at s0
  rw [zvx]
  by_cases ho:o = 12
  ·by_cases hv:n = v
   ·rw [if_pos ⟨ho,hv⟩]
    exact ⟨by omega,zfZ (zac (eqt ho) (zac (eqt hv) (s0 1 (by omega))))⟩
   ·rw [if_neg (fun h => hv h.2)]
    exact ⟨by omega,zfZ (zac (eqt ho) (zaa (eqf hv) (s0 0 (by omega))))⟩
  ·rw [if_neg (fun h => ho h.1)]
   exact ⟨by omega,zfZ (zaa (eqf ho) (s0 0 (by omega)))⟩
theorem zAR (s:Nat) (v o n:Int) (kids:List (List AC)) (h1:Fit .expr [.int o,.int n,.sl 3 kids]) (h2:cS [.int o,.int n,.sl 3 kids] < s) (h3:s ≤ 31) :
  men v s [.int o,.int n,.sl 3 kids] ≤ 1 + cS [.int o,.int n,.sl 3 kids] ∧ zbl [.agg [.int o,.int n,.sl 3 kids],.cell (.int 12),.cell (.int v)] = rI ((men v s [.int o,.int n,.sl 3 kids]:Nat):Int) ∧ zdo [.agg [.int o,.int n,.sl 3 kids],.cell (.int v)] = rI ((men v s [.int o,.int n,.sl 3 kids]:Nat):Int) :=
 ⟨(zES s v o n kids h1 h2 h3).1,(zES s v o n kids h1 h2 h3).2,(zGH s v o n kids h1 h2 h3).2⟩
theorem zxu {x:List AC}:(cS x ≤ 29 ∧ decide (zsf x < 0) = false) ∨ (¬ cS x ≤ 29 ∧ decide (zsf x < 0) = true):=by
 unfold zsf
 by_cases h:cS x ≤ 29
 ·rw [if_pos h]; exact .inl ⟨h,decide_eq_false (by omega)⟩
 ·rw [if_neg h]; exact .inr ⟨h,rfl⟩
end Go.Proofs.YtcpcagdialnbeaaGreat
namespace Go.Proofs.YtcpcagdialnbeaaGreat
open Go
theorem zgb {D:List DM} {R:List PM} (n:Int):zbP [.agg [.sl 3 (zaf D),.sl 5 (zal R)],.cell (.int n)] = rB (decide (0 ≤ n ∧ n < R.length)):=zn4 n
theorem zno {R:List PM} (hR:R.length ≤ zaE) (n:Int):zaL [.cell (.int n),.cell (.int 0),.cell (.int (zae ((((zal R).length:Nat):Int) - 1)))] = rB (decide (0 ≤ n ∧ n < R.length)):=by
 have hw:zae ((((zal R).length:Nat):Int) - 1) = R.length - 1:=by rw [zaF]; unfold zaE at hR; exact wr (by omega) (by omega)
 rw [hw,zdk]
 congr 3
 rw [← Bool.decide_and]
 congr 1
 exact propext ⟨fun h => ⟨h.1,by omega⟩,fun h => ⟨h.1,by omega⟩⟩
end Go.Proofs.YtcpcagdialnbeaaGreat
namespace Go.Proofs.YtcpcagdialnbeaaGreat
open Go
theorem zxh {m:Nat} (hm:m ≤ 1000):∀ (s:Nat) (o n:Int) (kids:List (List AC)),Fit .expr [.int o,.int n,.sl 3 kids] → Nm m [.int o,.int n,.sl 3 kids] → cS [.int o,.int n,.sl 3 kids] < s → s ≤ 31 →
  ∃ C:Nat → Bool,∀ A:Nat → Bool,zbL [.cell (.sl 1 (zad (zat A 0 m))),.agg [.int o,.int n,.sl 3 kids]] = rL (zat (orS A C) 0 m) ∧ zb7 [.agg [.int o,.int n,.sl 3 kids],.cell (.sl 1 (zad (zat A 0 m)))] = rL (zat (orS A C) 0 m):=by
 intro s
 induction s with
 | zero => intro o n kids _ _ h; omega
 | succ s ihs =>
  intro o n kids hf hn hs hs31
  obtain ⟨_,_,hml,hk⟩:=zlR hf
  have hn':(o = 9 ∨ o = 10 → 0 ≤ n ∧ n < m) ∧ ∀ k,k < kids.length → Nm m (kids.getD k []):=by
   generalize hx:[AC.int o,AC.int n,AC.sl 3 kids] = x at hn
   cases hn with
   | node o' n' kids' h1 h2 =>
    simp only [List.cons.injEq,AC.int.injEq,AC.sl.injEq,true_and,and_true] at hx
    obtain ⟨rfl,rfl,rfl⟩:=hx
    exact ⟨h1,h2⟩
  have hcs:=zeL o n kids
  have kidC:∀ k,k < kids.length → ∃ C:Nat → Bool,∀ A:Nat → Bool,zbL [.cell (.sl 1 (zad (zat A 0 m))),.agg (kids.getD k [])] = rL (zat (orS A C) 0 m) ∧ zb7 [.agg (kids.getD k []),.cell (.sl 1 (zad (zat A 0 m)))] = rL (zat (orS A C) 0 m):=fun k hlt => by
   obtain ⟨o',n',ks,e,hf'⟩:=zez hk hlt
   have h1:=zlE hlt (o:=o) (n:=n)
   have h2:=hn'.2 k hlt
   rw [e] at h1 h2 ⊢
   exact ihs o' n' ks hf' h2 (by omega) (by omega)
  have rest:∀ j k:Nat,k + j = kids.length → ∃ C:Nat → Bool,∀ A:Nat → Bool,zb9 (zad (zat A 0 m)) kids ((kids.length:Nat):Int) (k:Int) = rL (zat (orS A C) 0 m) ∧ zcz (zad (zat A 0 m)) o n kids (k:Int) = rL (zat (orS A C) 0 m):=by
   intro j
   induction j with
   | zero =>
    intro k hkj
    refine ⟨fun _ => false,fun A => ?_⟩
    rw [show orS A (fun _ => false) = A by funext i; simp [orS]]
    exact ⟨zdu (zaa (decide_eq_false (by omega)) rfl),zik (zaa (decide_eq_false (by omega)) rfl)⟩
   | succ j ih =>
    intro k hkj
    have hlt:k < kids.length:=by omega
    obtain ⟨C1,h1⟩:=kidC k hlt
    obtain ⟨C2,h2⟩:=ih (k + 1) (by omega)
    obtain ⟨o',n',ks,e,_⟩:=zez hk hlt
    refine ⟨orS C1 C2,fun A => ?_⟩
    rw [show orS A (orS C1 C2) = orS (orS A C1) C2 by funext i; simp [orS,Bool.or_assoc]]
    have g1:=h1 A
    have g2:=h2 (orS A C1)
    rw [e] at g1
    refine ⟨zdu (zac (decide_eq_true (by omega)) (zcj hlt e (zan g1.1 ?_))),zik (zac (decide_eq_true (by omega)) (zcj hlt e (zan g1.2 ?_)))⟩
    ·rw [wrk (by omega)]; exact g2.1
    ·rw [wrk (by omega)]; exact g2.2
  obtain ⟨C,hC⟩:=rest kids.length 0 (by omega)
  by_cases h:o = 9 ∨ o = 10
  ·have hr:=hn'.1 h
   obtain ⟨j,rfl⟩:∃ j:Nat,n = (j:Int):=⟨n.toNat,by omega⟩
   refine ⟨orS (zlf j) C,fun A => ?_⟩
   rw [show orS A (orS (zlf j) C) = orS (orS A (zlf j)) C by funext i; simp [orS,Bool.or_assoc]]
   have g:=hC (orS A (zlf j))
   have gi:=zAa (show j < m by omega) hm A
   have gs:=zEX (show j < m by omega) hm A
   rcases h with rfl | rfl
   ·exact ⟨zcF (zac rfl (zan gi g.1)),zgG (zac rfl (zan gs g.2))⟩
   ·exact ⟨zcF (zaa rfl (zac rfl (zan gi g.1))),zgG (zaa rfl (zac rfl (zan gs g.2)))⟩
  ·refine ⟨C,fun A => ?_⟩
   have g:=hC A
   have h9:o ≠ 9:=fun h' => h (.inl h')
   have h10:o ≠ 10:=fun h' => h (.inr h')
   exact ⟨zcF (zaa (eqf h9) (zaa (eqf h10) g.1)),zgG (zaa (eqf h9) (zaa (eqf h10) g.2))⟩
end Go.Proofs.YtcpcagdialnbeaaGreat
namespace Go.Proofs.YtcpcagdialnbeaaGreat
open Go
section
variable (C:Nat → Nat → Bool) (m:Nat)
variable {C m}
end
theorem zET {m:Nat} {P:Nat → (Nat → Bool) → Prop} (h:∀ k,k < m → ∃ t,P k t):∃ T:Nat → Nat → Bool,∀ k,k < m → P k (T k) :=
 ⟨fun k => open Classical in if hk:k < m then (h k hk).choose else fun _ => false,fun k hk => by
  simp only [dif_pos hk]
  exact (h k hk).choose_spec⟩
section
variable {D:List DM} {R:List PM}
def zBP (R:List PM) (C:Nat → Nat → Bool):Prop:=∀ k,k < R.length → ∀ A:Nat → Bool,zbL [.cell (.sl 1 (zad (zat A 0 R.length))),.agg (za5 (gP R k))] = rL (zat (orS A (C k)) 0 R.length) ∧ zb7 [.agg (za5 (gP R k)),.cell (.sl 1 (zad (zat A 0 R.length)))] = rL (zat (orS A (C k)) 0 R.length)
theorem zBI (hi:PIn D R) (hv:VP D R):∃ C,zBP R C:=by
 have hR:=hv.cp.rl
 exact zET fun k hk => by
  have hs:=hv.small k hk
  exact zxh (by omega) 30 _ _ _ (hi.r _ (zgS hk)).b (hv.nm k hk) (by show cS (za5 (gP R k)) < 30; omega) (by omega)
variable {C:Nat → Nat → Bool} (hN:zBP R C) (h4:R.length ≤ 4)
include hN h4
end
end Go.Proofs.YtcpcagdialnbeaaGreat
namespace Go.Proofs.YtcpcagdialnbeaaGreat
open Go Go.RowKit
def frS (s:Nat) (x:List AC):Nat → Bool:=fun j => decide (0 < men (j:Int) s x)
def noS:Nat → Bool:=fun _ => false
theorem zD4 (a m:Nat):zat noS a m = []:=by
 unfold zat noS
 simp
theorem znp (S:Nat → Bool) (a m:Nat):zat S a (m + 1) = zat S a m ++ if S (a + m) then [((a + m:Nat):Int)] else []:=by
 unfold zat
 rw [List.range'_concat,List.filter_append,List.map_append]
 congr 1
 simp only [Nat.one_mul,List.filter_cons,List.filter_nil]
 split <;> simp
theorem zs6 (S:Nat → Bool):∀ (m a k:Nat) (hk:k + 1 < (zat S a m).length),(zat S a m)[k] < (zat S a m)[k + 1]:=by
 intro m
 induction m with
 | zero => intro a k hk; simp [zat] at hk
 | succ m ih =>
  intro a k hk
  have e:=zjy S a m
  by_cases hS:S a = true
  ·rw [if_pos hS] at e
   have hl:(zat S a (m + 1)).length = (zat S (a + 1) m).length + 1:=by rw [e]; rfl
   cases k with
   | zero =>
    have h1:0 < (zat S (a + 1) m).length:=by omega
    have hm1:(zat S (a + 1) m)[0] ∈ zat S (a + 1) m:=List.getElem_mem h1
    have hge:=zvF _ hm1
    simp only [e,List.getElem_cons_zero,List.getElem_cons_succ]
    omega
   | succ k =>
    simp only [e,List.getElem_cons_succ]
    exact ih (a + 1) k (by omega)
  ·rw [if_neg hS] at e
   simp only [e]
   exact ih (a + 1) k (by rw [e] at hk; exact hk)
end Go.Proofs.YtcpcagdialnbeaaGreat
namespace Go.Proofs.YtcpcagdialnbeaaGreat
open Go Go.RowKit
structure PV (D:List DM) (R:List PM) (C:Nat → Nat → Bool):Prop where
 hi:PIn D R
 vp:VP D R
 nm:zBP R C
 h1:zaN [.agg [.sl 3 (zaf D),.sl 5 (zal R)]] = rB true
 h2:zbe [.agg [.sl 3 (zaf D),.sl 5 (zal R)]] = rB true
theorem PV.r4 {D:List DM} {R:List PM} {C:Nat → Nat → Bool} (h:PV D R C):R.length ≤ 4:=h.vp.cp.rl
theorem zlC {ds fs:List (List AC)} (h:Fit .prog [.sl 3 ds,.sl 5 fs]):∃ D R,ds = zaf D ∧ fs = zal R ∧ PIn D R ∧
  ((zaN [.agg [.sl 3 (zaf D),.sl 5 (zal R)]] = rB false ∧ zbe [.agg [.sl 3 (zaf D),.sl 5 (zal R)]] = rB false) ∨ ∃ C,PV D R C):=by
 obtain ⟨D,R,rfl,rfl,hi⟩:=zzO h
 refine ⟨D,R,rfl,rfl,hi,?_⟩
 obtain ⟨b,h1,h2,h3⟩:=zyb hi
 cases b with
 | false => exact .inl ⟨h1,h2⟩
 | true =>
  obtain ⟨C,hN⟩:=zBI hi (h3 rfl)
  exact .inr ⟨C,hi,h3 rfl,hN,h1,h2⟩
section
variable {D:List DM} {R:List PM} {C:Nat → Nat → Bool}
theorem zr3 {n:Int} (h:¬ (0 ≤ n ∧ n < R.length)):zbP [.agg [.sl 3 (zaf D),.sl 5 (zal R)],.cell (.int n)] = rB false:=by
 rw [zgb,decide_eq_false h]
theorem zmT {f:Nat} (h:f < R.length):zbP [.agg [.sl 3 (zaf D),.sl 5 (zal R)],.cell (.int (f:Int))] = rB true:=by
 rw [zgb,decide_eq_true (by omega)]
theorem zxK {n:Int} (hR:R.length ≤ 4) (h:¬ (0 ≤ n ∧ n < R.length)):zaL [.cell (.int n),.cell (.int 0),.cell (.int (zae ((((zal R).length:Nat):Int) - 1)))] = rB false:=by
 rw [zno (by unfold zaE; omega),decide_eq_false h]
theorem zu6 {f:Nat} (hR:R.length ≤ 4) (h:f < R.length):zaL [.cell (.int (f:Int)),.cell (.int 0),.cell (.int (zae ((((zal R).length:Nat):Int) - 1)))] = rB true:=by
 rw [zno (by unfold zaE; omega),decide_eq_true (by omega)]
variable (h:PV D R C)
include h
end
end Go.Proofs.YtcpcagdialnbeaaGreat
namespace Go.Proofs.YtcpcagdialnbeaaGreat
open Go Go.RowKit
theorem zF3 {m:Nat} (hm:m ≤ 1000):∀ (s:Nat) (o n:Int) (kids:List (List AC)),Fit .expr [.int o,.int n,.sl 3 kids] → cS [.int o,.int n,.sl 3 kids] < s → s ≤ 31 →
  ∀ A:Nat → Bool,zfF [.cell (.sl 1 (zad (zat A 0 m))),.agg [.int o,.int n,.sl 3 kids],.cell (.int (m:Int))] = rL (zat (orS A (frS s [.int o,.int n,.sl 3 kids])) 0 m):=by
 intro s
 induction s with
 | zero => intro o n kids _ h; omega
 | succ s ihs =>
  intro o n kids hf hs hs31
  obtain ⟨_,_,hml,hk⟩:=zlR hf
  have rest:∀ j k:Nat,k + j = kids.length → ∀ A:Nat → Bool,zch (m:Int) (zad (zat A 0 m)) kids ((kids.length:Nat):Int) (k:Int) = rL (zat (orS A (fun i => decide (0 < zov (men (i:Int) s) (kids.drop k)))) 0 m):=by
   intro j
   induction j with
   | zero =>
    intro k hkj A
    rw [List.drop_eq_nil_of_le (by omega),show orS A (fun i => decide (0 < zov (men (i:Int) s) [])) = A by funext i; simp [orS,zov]]
    exact ziZ (zaa (decide_eq_false (by omega)) rfl)
   | succ j ih =>
    intro k hkj A
    have hlt:k < kids.length:=by omega
    obtain ⟨o',n',ks,e,hf'⟩:=zez hk hlt
    have h1:=zlE hlt (o:=o) (n:=n)
    have hsum:orS A (fun i => decide (0 < zov (men (i:Int) s) (kids.drop k))) = orS (orS A (frS s (kids.getD k []))) (fun i => decide (0 < zov (men (i:Int) s) (kids.drop (k + 1)))):=by
     funext i
     simp only [orS,frS,znq _ hlt,Bool.or_assoc]
     congr 1
     rw [← Bool.decide_or]
     exact decide_eq_decide.2 (by omega)
    rw [hsum]
    have g2:=ih (k + 1) (by omega) (orS A (frS s (kids.getD k [])))
    rw [e] at h1 g2 ⊢
    refine ziZ (zac (decide_eq_true (by omega)) (zcj hlt e (zan (ihs o' n' ks hf' (by omega) (by omega) A) ?_)))
    rw [wrk (by unfold zaE at *; omega)]
    exact g2
  intro A
  have full:=rest kids.length 0 (by omega)
  simp only [List.drop_zero] at full
  by_cases h:o = 12 ∧ 0 ≤ n ∧ n < m
  ·obtain ⟨ho,h0,h1⟩:=h
   obtain ⟨j,rfl⟩:∃ j:Nat,n = (j:Int):=⟨n.toNat,by omega⟩
   have gi:=zAa (show j < m by omega) hm A
   have e:orS A (frS (s + 1) [.int o,.int (j:Int),.sl 3 kids]) = orS (orS A (zlf j)) (fun i => decide (0 < zov (men (i:Int) s) kids)):=by
    funext i
    simp only [orS,frS,zlf,zvx,Bool.or_assoc]
    congr 1
    rw [show (i == j) = decide (i = j) from rfl,← Bool.decide_or]
    refine decide_eq_decide.2 ?_
    by_cases hij:i = j
    ·subst hij; rw [if_pos ⟨ho,rfl⟩]; omega
    ·rw [if_neg (fun h => hij (by omega))]; omega
   rw [e]
   exact ze6 (zac (eqt ho) (zac (decide_eq_true h0) (zac (decide_eq_true h1) (zan gi (full (orS A (zlf j)))))))
  ·have e:zat (orS A (frS (s + 1) [.int o,.int n,.sl 3 kids])) 0 m = zat (orS A (fun i => decide (0 < zov (men (i:Int) s) kids))) 0 m:=zjB fun i h1 h2 => by
    simp only [orS,frS,zvx]
    congr 1
    refine decide_eq_decide.2 ?_
    rw [if_neg (fun hh => h ⟨hh.1,by omega,by omega⟩)]
    omega
   rw [e]
   have g:=full A
   by_cases ho:o = 12
   ·by_cases h0:0 ≤ n
    ·exact ze6 (zac (eqt ho) (zac (decide_eq_true h0) (zaa (decide_eq_false fun h1 => h ⟨ho,h0,h1⟩) g)))
    ·exact ze6 (zac (eqt ho) (zaa (decide_eq_false h0) g))
   ·exact ze6 (zaa (eqf ho) g)
def unS (x:List AC):Nat → Bool:=fun j => !frS 31 x j
theorem zuK (S:Nat → Bool):∀ m:Nat,(zat (fun j => !S j) 0 m).length + (zat S 0 m).length = m
 | 0 => rfl
 | m + 1 => by
  rw [znp,znp,Nat.zero_add]
  have:=zuK S m
  cases S m <;> simp <;> omega
section
variable {D:List DM} {R:List PM} {C:Nat → Nat → Bool} (h:PV D R C)
include h
theorem zFn {f:Nat} (hf:f < R.length):zdp [.agg [.sl 3 (zaf D),.sl 5 (zal R)],.cell (.int (f:Int))] = rL (zat (unS (za5 (gP R f))) 0 (gP R f).ps.length) ∧ zbt [.agg [.sl 3 (zaf D),.sl 5 (zal R)],.cell (.int (f:Int))] = rL (zat (unS (za5 (gP R f))) 0 (gP R f).ps.length):=by
 have hb:=(h.hi.r _ (zgS hf)).b
 have hs:=h.vp.small f hf
 have hps:=(h.vp.cp.ps f hf).1
 have hlen:=(h.hi.r _ (zgS hf)).ps.len
 have hm:=fun v:Nat => zAR 31 (v:Int) _ _ _ hb (by show cS (za5 (gP R f)) < 31; omega) (by omega)
 have li:∀ j k:Nat,k + j = (gP R f).ps.length → zcx (f:Int) (zaf D) (zal R) (zad (zat (unS (za5 (gP R f))) 0 k)) (((gP R f).ps.length:Nat):Int) (k:Int) = rL (zat (unS (za5 (gP R f))) 0 (gP R f).ps.length):=by
  intro j
  induction j with
  | zero =>
   intro k hk
   refine zge (zaa (decide_eq_false (by omega)) ?_)
   rw [show k = (gP R f).ps.length by omega]
  | succ j ih =>
   intro k hk
   obtain ⟨_,g,_⟩:=hm k
   have hl:=zbZ (unS (za5 (gP R f))) 0 k
   have nx:=ih (k + 1) (by omega)
   rw [znp,Nat.zero_add] at nx
   refine zge (zac (decide_eq_true (by omega)) (zaH (k:=f) rfl hf (zay g ?_)))
   by_cases h0:men (k:Int) 31 (za5 (gP R f)) = 0
   ·rw [if_pos (by unfold unS frS; rw [h0]; rfl)] at nx
    refine zac (eqt (by show ((men (k:Int) 31 (za5 (gP R f)):Nat):Int) = 0; omega)) (zb5 (by rw [zab]; simp; omega) ?_)
    rw [zcl,wrk (by unfold zaE at *; omega)]
    exact nx
   ·rw [if_neg (by unfold unS frS; rw [decide_eq_true (by omega)]; simp),List.append_nil] at nx
    refine zaa (eqf (by show ¬ ((men (k:Int) 31 (za5 (gP R f)):Nat):Int) = 0; omega)) ?_
    rw [wrk (by unfold zaE at *; omega)]
    exact nx
 have ls:∀ j k:Nat,k + j = (gP R f).ps.length → zcv (f:Int) (zaf D) (zal R) (zad (zat (unS (za5 (gP R f))) 0 k)) (k:Int) = rL (zat (unS (za5 (gP R f))) 0 (gP R f).ps.length):=by
  intro j
  induction j with
  | zero =>
   intro k hk
   refine zgm (zaH (k:=f) rfl hf (zaa (decide_eq_false (by rw [zab]; omega)) ?_))
   rw [show k = (gP R f).ps.length by omega]
  | succ j ih =>
   intro k hk
   obtain ⟨_,_,g⟩:=hm k
   have hl:=zbZ (unS (za5 (gP R f))) 0 k
   have nx:=ih (k + 1) (by omega)
   rw [znp,Nat.zero_add] at nx
   refine zgm (zaH (k:=f) rfl hf (zac (decide_eq_true (by rw [zab]; omega)) (zaH (k:=f) rfl hf (zay g ?_))))
   by_cases h0:men (k:Int) 31 (za5 (gP R f)) = 0
   ·rw [if_pos (by unfold unS frS; rw [h0]; rfl)] at nx
    refine zac (eqt (by show ((men (k:Int) 31 (za5 (gP R f)):Nat):Int) = 0; omega)) (zb5 (by rw [zab]; simp; omega) ?_)
    rw [zcl,wrk (by unfold zaE at *; omega)]
    exact nx
   ·rw [if_neg (by unfold unS frS; rw [decide_eq_true (by omega)]; simp),List.append_nil] at nx
    refine zaa (eqf (by show ¬ ((men (k:Int) 31 (za5 (gP R f)):Nat):Int) = 0; omega)) ?_
    rw [wrk (by unfold zaE at *; omega)]
    exact nx
 have i0:=li _ 0 (Nat.zero_add _)
 have s0:=ls _ 0 (Nat.zero_add _)
 refine ⟨ze1 (zai h.h1 (zaa rfl (zai (zmT hf) (zaa rfl (zaH (k:=f) rfl hf ?_))))),zeY (zai h.h2 (zaa rfl (zai (zu6 h.r4 hf) (zaa rfl s0))))⟩
 rw [zab]
 exact i0
end
theorem zpX {ds fs:List (List AC)} {y:Int} (hp:zod ds fs) :
  evM X_laws_FnUnusedParams 100000 (.run (zbC 3 (cOf Tryz.f6))) [] [(3,.box [.sl 3 ds,.sl 5 fs]),(4,.v (.cell (.int y)))] = some (.v (.cell (.bool true))):=by
 obtain ⟨D,R,rfl,rfl,hi,hv⟩:=zlC hp.1
 have heq0:=zgT [] (by simp)
 rcases hv with ⟨h1,h2⟩ | ⟨C,hv⟩
 ·have g1:zdp [.agg [.sl 3 (zaf D),.sl 5 (zal R)],.cell (.int y)] = rL []:=ze1 (zai h1 (zac rfl rfl))
  have g2:zbt [.agg [.sl 3 (zaf D),.sl 5 (zal R)],.cell (.int y)] = rL []:=zeY (zai h2 (zac rfl rfl))
  exact zdD (zan g1 (zan g2 (zai heq0 (zaa rfl (zai h1 (zac rfl (zan g2 (zai heq0 rfl))))))))
 by_cases hy:0 ≤ y ∧ y < R.length
 rotate_left
 ·have g1:zdp [.agg [.sl 3 (zaf D),.sl 5 (zal R)],.cell (.int y)] = rL []:=ze1 (zai hv.h1 (zaa rfl (zai (zr3 hy) (zac rfl rfl))))
  have g2:zbt [.agg [.sl 3 (zaf D),.sl 5 (zal R)],.cell (.int y)] = rL []:=zeY (zai hv.h2 (zaa rfl (zai (zxK hv.r4 hy) (zac rfl rfl))))
  refine zdD (zan g1 (zan g2 (zai heq0 (zaa rfl (zai hv.h1 (zaa rfl ?_))))))
  by_cases h0:y < 0
  ·exact zac (decide_eq_true h0) (zan g2 (zai heq0 rfl))
  ·exact zaa (decide_eq_false h0) (zac (decide_eq_true (by rw [zaF]; omega)) (zan g2 (zai heq0 rfl)))
 obtain ⟨f,rfl⟩:∃ f:Nat,y = (f:Int):=⟨y.toNat,by omega⟩
 have hf:f < R.length:=by omega
 obtain ⟨g1,g2⟩:=zFn hv hf
 have hb:=(hi.r _ (zgS hf)).b
 have hs:=hv.vp.small f hf
 have hps:=(hv.vp.cp.ps f hf).1
 have hl1:=zbZ (unS (za5 (gP R f))) 0 (gP R f).ps.length
 have hl2:=zbZ (frS 31 (za5 (gP R f))) 0 (gP R f).ps.length
 have hsum:=zuK (frS 31 (za5 (gP R f))) (gP R f).ps.length
 have hfr:zmH [.agg (za5 (gP R f)),.cell (.int (((gP R f).ps.length:Nat):Int))] = rL (zat (frS 31 (za5 (gP R f))) 0 (gP R f).ps.length):=by
  have g:=zF3 (m:=(gP R f).ps.length) (by omega) 31 _ _ _ hb (by show cS (za5 (gP R f)) < 31; omega) (by omega) noS
  have g:zfF [.cell (.sl 1 (zad (zat noS 0 (gP R f).ps.length))),.agg (za5 (gP R f)),.cell (.int (((gP R f).ps.length:Nat):Int))] = rL (zat (orS noS (frS 31 (za5 (gP R f)))) 0 (gP R f).ps.length):=g
  rw [zD4,show orS noS (frS 31 (za5 (gP R f))) = frS 31 (za5 (gP R f)) by funext i; simp [orS,noS]] at g
  rcases zxu (x:=za5 (gP R f)) with ⟨h,e⟩ | ⟨h,e⟩
  ·exact ztu (zay (zuw hb) (zaa e (zan g rfl)))
  ·exact absurd hs h
 refine zdD (zan g1 (zan g2 (zai (zgT _ (by omega)) (zaa rfl (zai hv.h1 (zaa rfl (zaa (decide_eq_false (by omega)) (zaa (decide_eq_false (by rw [zaF]; omega)) (zaH (k:=f) rfl hf (zaH (k:=f) rfl hf ?_))))))))))
 rw [zab]
 refine zan hfr ?_
 have key:∀ j k:Nat,k + j = (gP R f).ps.length → zcQ (zad (zat (unS (za5 (gP R f))) 0 (gP R f).ps.length)) (((gP R f).ps.length:Nat):Int) (zad (zat (frS 31 (za5 (gP R f))) 0 (gP R f).ps.length)) (k:Int) = rB true:=by
  intro j
  induction j with
  | zero =>
   intro k hk
   refine zfl (zaa (decide_eq_false (by omega)) (zai (zqi _ (by omega) (zs6 _ _ _)) (zac rfl ?_)))
   rw [zab,zab,wr (by omega) (by omega),show ((((zat (unS (za5 (gP R f))) 0 (gP R f).ps.length).length:Nat):Int) + (((zat (frS 31 (za5 (gP R f))) 0 (gP R f).ps.length).length:Nat):Int) == (((gP R f).ps.length:Nat):Int)) = true from beq_iff_eq.2 (by unfold unS at *; omega)]
  | succ j ih =>
   intro k hk
   have hlt:k < (gP R f).ps.length:=by omega
   have a1:=znv (zat (unS (za5 (gP R f))) 0 (gP R f).ps.length) (k:Int) (by omega)
   have a2:=znv (zat (frS 31 (za5 (gP R f))) 0 (gP R f).ps.length) (k:Int) (by omega)
   rw [zhZ _ hlt] at a1 a2
   refine zfl (zac (decide_eq_true (by omega)) (zai a1 (zai a2 (zaa ?_ ?_))))
   ·unfold unS
    cases frS 31 (za5 (gP R f)) k <;> rfl
   ·rw [wrk (by unfold zaE; omega)]
    exact ih (k + 1) (by omega)
 exact key _ 0 (Nat.zero_add _)
theorem znE (A:Option Addr) (n c:Nat) (w:World) (h:zdi w A n c):Calls Tryz.prog 6 #[.slice A n c] w fun e w' => e = .returned (.bool true) ∧ Below w.heap.size w w' :=
 zlJ (fun _ _ _ hp _ => zpX hp) (fun _ _ _ _ h => znc h) A n c w h
end Go.Proofs.YtcpcagdialnbeaaGreat

/- Generic texts and models for the proofs of this seat: part 35. -/
import Derived.Test.YtbodfaghedolbaaY34
import Derived.WalkKit
set_option linter.unusedVariables false
set_option linter.unusedSimpArgs false
namespace Go.Proofs.Ytbodfaghedolbaa
open Go Go.RowKit
def zmN (w:World) (B:Nat) (x0 x1:Value):World:=(w.setCell ⟨B,0,none⟩ x0).setCell ⟨B,1,none⟩ x1
theorem zo2 {w:World} {B:Nat} {x0 x1 y0 y1:Value} {T:TypeId} (h:w.heap[B]? = some (.cells #[y0,y1] T (0,0))):(zmN w B x0 x1).heap[B]? = some (.cells #[x0,x1] T (0,0)) :=
 heap_setCell_same _ _ _ _ _ _ (heap_setCell_same _ _ _ _ _ _ h)
theorem zsc {w:World} {B b:Nat} {x0 x1:Value} (h:b ≠ B):(zmN w B x0 x1).heap[b]? = w.heap[b]?:=by
 unfold zmN
 rw [heap_setCell_other _ _ _ _ h,heap_setCell_other _ _ _ _ h]
theorem ztG {w:World} {B:Nat} {x0 x1:Value}:(zmN w B x0 x1).heap.size = w.heap.size:=by simp [zmN,World.setCell]
theorem zqX {w:World} {B:Nat} {x0 x1:Value} (p:Stb) (hp:p B = 0):Evo (· = B) p w p (zmN w B x0 x1):=by
 refine zch hp ztG (fun y hy => zsc hy) ?_ ?_ ?_ <;> simp [zmN,World.setCell]
theorem zAF {D:List DM} (hD:D ∈ zc8):apC 5 (.sl 3 (zak D)) = true:=zsL D hD
def zyi (ds fs:List (List AC)):Prop:=Fit .prog [.sl 3 ds,.sl 5 fs] ∧ ds.length ≤ 10 ∧ fs.length ≤ 10
section
variable {ns:List Nat} (hns:ns.length ≤ 2000) {w0:World} {p0:Stb} {b:Nat}
include hns
set_option maxHeartbeats 4000000 in
theorem zny {pos:Nat} (hpos:pos + 110000 ≤ 800000) (hz:Zp p0 w0) (ht:TK p0 w0 (fun _ => False) b (Qr ns pos)):Calls Try.prog 22 #[za6 b] w0 fun e w' => ∃ D1 d1 d2 E1 e1 e2 p' ds fs pos',e = .returned (.agg #[.slice D1 d1 d2,.slice E1 e1 e2]) ∧ Rep p' w' (.slice D1 d1 d2) (.sl 3 ds) ∧ Rep p' w' (.slice E1 e1 e2) (.sl 5 fs) ∧ zyi ds fs ∧
  Evo (· = b) p0 w0 p' w' ∧ Zp p' w' ∧ TK p' w' (fun _ => False) b (Qr ns pos') ∧ pos' ≤ pos + 58000:=by
 have hb:=ht.lt
 have hea:=za5 (p:=p0) (w:=w0) (.cells #[.slice none 0 0,.slice none 0 0] 26) 0 (· = b)
 have hz1:Zp (upP p0 w0.heap.size 0) (w0.alloc (.cells #[.slice none 0 0,.slice none 0 0] 26)):=⟨fun c hc => by
  rw [zbZ]
  split
  ·rfl
  ·exact hz.1 c (by simp at hc; omega),fun _ _ _ => trivial⟩
 have hcall:=zmE hns (by omega) hz1 (ht.evo (za5 _ 0 _))
 go_enter Try.func22,Try.ntmps22
 go_wp2_with fail
 refine hcall.mono ?_
 rintro e w1 ⟨v,p1,D,R,pos1,rfl,hD,hR,hR2,hbd,hrep,hev,hz2,ht2,hp1,D1,d1,d2,B,o,cap,rfl,gB,okB,uq,a,T,xB,hl1,hl2⟩
 clear hcall
 obtain ⟨arr,harr,hl⟩:=hrep
 injection harr with harr
 subst harr
 obtain ⟨r0,r1,_⟩:Rep p1 w1 (.slice D1 d1 d2) (.sl 3 (zak D)) ∧ Rep p1 w1 (.slice (some ⟨B,o,none⟩) R.length cap) (.sl 5 (zaD R)) ∧ True:=hl
 obtain ⟨hne,hdf,hda,hdl⟩:=zpd hD
 have hfit:∀ r ∈ zaD R,Fit .func r:=fun r hr => by
  obtain ⟨x,hx,rfl⟩:=List.mem_map.1 hr
  exact (zqQ hR hx (hbd x hx).1).1
 have hap:∀ r ∈ zaD R,apL 5 r = true:=fun r hr => by
  obtain ⟨x,hx,rfl⟩:=List.mem_map.1 hr
  exact zpu (hbd x hx).1
 have hFP:FP (upP p0 w0.heap.size 0) (w0.alloc (.cells #[.slice none 0 0,.slice none 0 0] 26)) b B o R.length cap (zaD R) (Qr ns pos1) p1 w1 :=
  ⟨r1,fun e => by have:=congrArg List.length e; simp [zaD] at this; rw [this] at hR2; simp at hR2,⟨a,T,xB,hl2⟩,okB,uq,by simpa using gB,by simp; omega,hfit,hap,ht2,hz2,hev⟩
 have hsp:=zl0 hns hFP r0 hdf (by omega) ((zAF hD)) hR hbd (by omega)
 have hsz1:w0.heap.size < w1.heap.size:=by have:=hev.size; simp at this; omega
 have nb:w0.heap.size ≠ b:=by omega
 have HS:=Lib.hid hsp
 have HE:=Lib.hid hea
 clear hsp hea hFP hev r0 r1 hfit hap hdf hda
 go_wp2_with fail
 refine HS.out.mono ?_
 rintro e w2 ⟨v,p2,ds,fs,pos2,rfl,hrep,hf,hl3,hl4,hev,hz3,ht3,hp2⟩
 obtain ⟨arr,rfl,hl⟩:=hrep
 obtain ⟨l⟩:=arr
 match l,hl with
 | [u0,u1],⟨r0,r1,_⟩ =>
 obtain ⟨D1,d1,d2,rfl⟩:=zbL r0
 obtain ⟨E1,e1,e2,rfl⟩:=zbL r1
 have hx:=(hev.block w0.heap.size (by simp) nb).trans (heap_alloc_new w0 (.cells #[.slice none 0 0,.slice none 0 0] 26))
 have hpx:p2 w0.heap.size = 0:=by rw [hev.same w0.heap.size (by simp) nb,zbZ,if_pos rfl]
 have k0:=zaz (j:=0) hx rfl
 have k1:=zaz (j:=1) hx rfl
 have f0:=frozen_of_row w2 _ 0 _ _ hx
 have f1:=frozen_of_row w2 _ 1 _ _ hx
 have q1:=zo2 (x0:=.slice D1 d1 d2) (x1:=.slice E1 e1 e2) hx
 have y0:=zaz (j:=0) q1 rfl
 have y1:=zaz (j:=1) q1 rfl
 have hevs:Evo (· = w0.heap.size) p2 w2 p2 (zmN w2 w0.heap.size (.slice D1 d1 d2) (.slice E1 e1 e2)):=zqX p2 hpx
 have hF:Evo (· = b) p0 w0 p2 (zmN w2 w0.heap.size (.slice D1 d1 d2) (.slice E1 e1 e2)) :=
  (HE.out.trans hev (C:=(· = b)) (fun _ _ e => e) (fun _ _ e => e)).trans hevs (fun _ _ e => e) (fun c hc e => absurd hc (by have:c = w0.heap.size:=e; omega))
 have hfin:=And.intro (r0.evo hevs) (And.intro (r1.evo hevs) (And.intro hF (And.intro (show Zp p2 (zmN w2 w0.heap.size (.slice D1 d1 d2) (.slice E1 e1 e2)) from ⟨fun c hc => hz3.1 c (Nat.le_trans hevs.size hc),fun _ _ _ => trivial⟩) ((ht3.own (Own':=(· = w0.heap.size)) (fun e => nb e.symm)).evo hevs))))
 have HF:=Lib.hid hfin
 clear hfin hevs hF hev hz3 ht3 r0 r1 q1 hx HE HS
 go_wp2_with fail
 refine bodyPost_ret (v:=.agg #[.slice D1 d1 d2,.slice E1 e1 e2]) ?_ rfl ⟨D1,d1,d2,E1,e1,e2,p2,ds,fs,pos2,rfl,HF.out.1,HF.out.2.1,⟨hf,hl3,hl4⟩,HF.out.2.2.1,HF.out.2.2.2.1,HF.out.2.2.2.2.own (fun h => h.elim),by omega⟩
 have y0':(((w2.setCell ⟨w0.heap.size,0,none⟩ (.slice D1 d1 d2)).setCell ⟨w0.heap.size,1,none⟩ (.slice E1 e1 e2))).cell? ⟨w0.heap.size,0,none⟩ = some (.slice D1 d1 d2):=y0
 have y1':(((w2.setCell ⟨w0.heap.size,0,none⟩ (.slice D1 d1 d2)).setCell ⟨w0.heap.size,1,none⟩ (.slice E1 e1 e2))).cell? ⟨w0.heap.size,1,none⟩ = some (.slice E1 e1 e2):=y1
 simp [results,Try.results22,go_sem,y0',y1']
end
end Go.Proofs.Ytbodfaghedolbaa
namespace Go.Proofs.Ytbodfaghedolbaa
open Go Go.RowKit Go.BigFrame
def zpW (w0:World) (v:Value) (w':World):Prop:=∃ N p' D1 d1 d2 E1 e1 e2 ds fs,v = .agg #[.slice D1 d1 d2,.slice E1 e1 e2] ∧ Rep p' w' (.slice D1 d1 d2) (.sl 3 ds) ∧ Rep p' w' (.slice E1 e1 e2) (.sl 5 fs) ∧ zyi ds fs ∧ Evo (fun _ => False) (zh1 w0.heap.size N) w0 p' w' ∧ Zp p' w'
set_option maxHeartbeats 4000000 in
theorem zi8 {A:Option Addr} {n c:Nat} {w:World} (h:zo0 w A n c) :
  Calls Try.prog 12 #[.slice A n c] w fun e w' => ∃ v,e = .returned v ∧ zpW w v w':=by
 have hnr:=zoW (B:=w.heap.size) (w:=w.alloc (.cells #[.slice none 0 0,.slice none 0 0] 26)) (by simp) (CodeB.alloc h (Nat.le_refl _) _)
 have HR:=Lib.hid hnr
 clear hnr h
 go_enter Try.func12,Try.ntmps12
 go_wp2_with fail
 refine HR.out.mono ?_
 rintro e w2 ⟨rfl,N,ns,hns,ht,hs2,hev⟩
 have hev0:=(zmh w.heap.size N w (.cells #[.slice none 0 0,.slice none 0 0] 26) (fun _ => False)).trans (hev (fun _ => False)) (C:=fun _ => False) (fun _ _ h => h) (fun _ _ h => h)
 have hx2:=((hev (fun _ => False)).block w.heap.size (by simp) (fun h => h)).trans (heap_alloc_new w (.cells #[.slice none 0 0,.slice none 0 0] 26))
 have hs1:(w.alloc (.cells #[.slice none 0 0,.slice none 0 0] 26)).heap.size = w.heap.size + 1:=by simp
 rw [hs1] at ht hs2 ⊢
 have hse:=zny hns (by omega) (zuJ (by omega) N) ht
 have HS:=Lib.hid hse
 have HE:=Lib.hid hev0
 clear hse hev0 hev HR ht
 go_wp2_with fail
 refine HS.out.mono ?_
 rintro e w3 ⟨D1,d1,d2,E1,e1,e2,p3,ds,fs,pos,rfl,r0,r1,hf,hev3,hz3,ht3,_⟩
 have hne:w.heap.size ≠ w.heap.size + 1:=by omega
 have hx3:=(hev3.block w.heap.size (by omega) hne).trans hx2
 have hp3:=(hev3.same w.heap.size (by omega) hne).trans (zky (Nat.le_refl _))
 have k0:=zaz (j:=0) hx3 rfl
 have k1:=zaz (j:=1) hx3 rfl
 have f0:=frozen_of_row w3 _ 0 _ _ hx3
 have f1:=frozen_of_row w3 _ 1 _ _ hx3
 have q1:=zo2 (x0:=.slice D1 d1 d2) (x1:=.slice E1 e1 e2) hx3
 have y0:=zaz (j:=0) q1 rfl
 have y1:=zaz (j:=1) q1 rfl
 have hevc:Evo (· = w.heap.size) p3 w3 p3 (zmN w3 w.heap.size (.slice D1 d1 d2) (.slice E1 e1 e2)):=zqX p3 hp3
 have hfin:zpW w (.agg #[.slice D1 d1 d2,.slice E1 e1 e2]) (zmN w3 w.heap.size (.slice D1 d1 d2) (.slice E1 e1 e2)) :=
  ⟨N,p3,D1,d1,d2,E1,e1,e2,ds,fs,rfl,r0.evo hevc,r1.evo hevc,hf,(HE.out.trans hev3 (C:=fun _ => False) (fun _ _ h => h) (fun q hq e => absurd hq (by have:q = w.heap.size + 1:=e; omega))).trans hevc (fun _ _ h => h) (fun q hq e => absurd hq (by have:q = w.heap.size:=e; omega)),⟨fun y hy => hz3.1 y (Nat.le_trans hevc.size hy),fun _ _ _ => trivial⟩⟩
 have HF:=Lib.hid hfin
 clear hfin hevc q1 hx3 hx2 hev3 hz3 ht3 HS HE r0 r1 hp3
 go_wp2_with fail
 refine bodyPost_ret (v:=.agg #[.slice D1 d1 d2,.slice E1 e1 e2]) ?_ rfl ⟨_,rfl,HF.out⟩
 have y0':(((w3.setCell ⟨w.heap.size,0,none⟩ (.slice D1 d1 d2)).setCell ⟨w.heap.size,1,none⟩ (.slice E1 e1 e2))).cell? ⟨w.heap.size,0,none⟩ = some (.slice D1 d1 d2):=y0
 have y1':(((w3.setCell ⟨w.heap.size,0,none⟩ (.slice D1 d1 d2)).setCell ⟨w.heap.size,1,none⟩ (.slice E1 e1 e2))).cell? ⟨w.heap.size,1,none⟩ = some (.slice E1 e1 e2):=y1
 simp [results,Try.results12,go_sem,y0',y1']
end Go.Proofs.Ytbodfaghedolbaa
set_option maxRecDepth 100000
namespace Go.Proofs.Ytbodfaghedolbaa
open Go Go.RowKit
noncomputable def X_laws_FnValidProgram:Ctx:={ P:=Try.prog,L:=lay,F:=sig.has,E:=ext,fn:=Try.f4,lv:=[(0,[3,5])],jv:=[],tp:=[] }
noncomputable def zcd (l7:List (List AC)) (l8:List (List AC)) (n9:Int):Option AV:=GL X_laws_FnValidProgram 0 [(3,.box [.sl 3 l7,.sl 5 l8]),(5,.v (.cell (.int n9)))]
theorem zd0 {l7:List (List AC)} {l8:List (List AC)} {n9:Int} {r:AV} (h:( bif (decide (n9 < ((l8.length:Nat):Int))) then zal l8 n9 [.sl 1 [],.int 0,.int 0,.int 0,.sl 3 []] fun l10 n11 n12 n13 l14 => zal l8 n9 [.sl 1 [],.int 0,.int 0,.int 0,.sl 3 []] fun l15 n16 n17 n18 l19 => zaa (zfP [.agg [.sl 3 l7,.sl 5 l8],.cell (.sl 1 l10),.agg [.int n17,.int n18,.sl 3 l19]]) false [(false,[.int 0])] fun n20 => zal l8 n9 [.sl 1 [],.int 0,.int 0,.int 0,.sl 3 []] fun l21 n22 n23 n24 l25 => bif (n20 != n22) then some (.v (.cell (.bool false))) else zcd l7 l8 (zai (n9 + 1)) else zaa (zdH [.agg [.sl 3 l7,.sl 5 l8]]) false [(false,[.bool false])] fun b26 => some (.v (.cell (.bool b26))):Option AV) = some r):zcd l7 l8 n9 = some r:=zbU (X:=X_laws_FnValidProgram) (n:=100000) (by kernel_rfl) (by kernel_rfl:(X_laws_FnValidProgram.fn.body.bind fun c => zas 0 c []) = some (.loop (zaY (X_laws_FnValidProgram.fn.body.bind fun c => zas 0 c [])),zbY (X_laws_FnValidProgram.fn.body.bind fun c => zas 0 c []))) (Eq.trans (by kernel_rfl) h)
theorem zhD {l1:List (List AC)} {l2:List (List AC)} {r:AV} (h:( zaa (zeX [.agg [.sl 3 l1,.sl 5 l2]]) false [(false,[.bool false])] fun b3 => zaa (zcD [.agg [.sl 3 l1,.sl 5 l2]]) false [(false,[.bool false])] fun b4 => bif (b3 != b4) then zaa (zcD [.agg [.sl 3 l1,.sl 5 l2]]) false [(false,[.bool false])] fun b5 => some (.v (.cell (.bool (b3 == b5)))) else bif (!b3) then zaa (zcD [.agg [.sl 3 l1,.sl 5 l2]]) false [(false,[.bool false])] fun b6 => some (.v (.cell (.bool (b3 == b6)))) else zcd l1 l2 0:Option AV) = some r):evM X_laws_FnValidProgram 100000 (.run (zid 3 (cOf Try.f4))) [] [(3,.box [.sl 3 l1,.sl 5 l2])] = some r:=Eq.trans (by kernel_rfl) h
theorem ziB:(zca zao lay sig (zid 3 (cOf Try.f4)) (stM 55)).isSome = true:=by kernel_rfl
def FnValidProgramR0:Code:=.region 0 #[⟨some 2,.assign (.const (.bool false)),4,"laws.go:640",#[],none⟩] false
def FnValidProgramR1:Code:=.region 1 #[⟨some 6,.move (.tmp 0),22,"laws.go:641",#[],none⟩,⟨some 7,.call ⟨.builtin .len,#[.tmp 6],#[22]⟩,3,"laws.go:641",#[⟨0,.data⟩],none⟩,⟨some 8,.binOp .gtr 3 (.tmp 7) (.const (.int .i64 1048576)) 3,4,"laws.go:641",#[⟨1,.data⟩],none⟩] false
def zlr:Code:=.region 2 #[⟨some 2,.assign (.const (.bool true)),4,"laws.go:642",#[],none⟩] false
def FnValidProgramR3:Code:=.region 3 #[⟨some 9,.move (.tmp 0),22,"laws.go:644",#[],none⟩,⟨some 10,.call ⟨.value (.func 12),#[.tmp 9],#[22]⟩,26,"laws.go:644",#[⟨0,.data⟩],none⟩,⟨some 3,.alloc 26,0,"laws.go:644",#[],none⟩,⟨none,.store 26 (.tmp 3) (.tmp 10),0,"laws.go:644",#[⟨2,.data⟩,⟨1,.data⟩,⟨1,.chain⟩,⟨0,.phase⟩,⟨1,.phase⟩,⟨2,.phase⟩],none⟩] false
theorem zjT:cOf Try.f4 = .seq FnValidProgramR0 (.seq (.seq FnValidProgramR1 (.cond (.tmp 8) (.seq zlr .ret) .skip)) (.seq FnValidProgramR3 (zid 3 (cOf Try.f4)))):=by kernel_rfl
theorem zez {m:Array Value} (h:m.size = 55):m = List.toArray (sM m 0 :: sM m 1 :: sM m 2 :: sM m 3 :: sM m 4 :: sM m 5 :: sM m 6 :: sM m 7 :: sM m 8 :: sM m 9 :: sM m 10 :: sM m 11 :: sM m 12 :: sM m 13 :: sM m 14 :: sM m 15 :: sM m 16 :: sM m 17 :: sM m 18 :: sM m 19 :: sM m 20 :: sM m 21 :: sM m 22 :: sM m 23 :: sM m 24 :: sM m 25 :: sM m 26 :: sM m 27 :: sM m 28 :: sM m 29 :: sM m 30 :: sM m 31 :: sM m 32 :: sM m 33 :: sM m 34 :: sM m 35 :: sM m 36 :: sM m 37 :: sM m 38 :: sM m 39 :: sM m 40 :: sM m 41 :: sM m 42 :: sM m 43 :: sM m 44 :: sM m 45 :: sM m 46 :: sM m 47 :: sM m 48 :: sM m 49 :: sM m 50 :: sM m 51 :: sM m 52 :: sM m 53 :: sM m 54 :: []):=by
 apply Array.ext'
 have h1:m.toList = (List.range 55).map (fun i => m.getD i undef):=by
  apply List.ext_getElem
  ·simp [h]
  ·intro i h1 h2
   simp only [Array.length_toList] at h1
   simp [Array.getD,h1]
 exact h1.trans rfl
set_option maxHeartbeats 4000000 in
theorem zkd {m:Array Value} {A:Option Addr} {n c:Nat} {w:World}  (hs:m.size = 55) (m0:m.getD 0 undef = .slice A n c) (Q:Exit → Act → World → Prop) (hQ:∀ a':Act,a'.defers = [] → a'.tmps.size = 55 → a'.tmps.getD 0 undef = .slice A n c → Q .normal a' (w)) :
 FnValidProgramR0.wp Try.prog Q { tmps:=m,defers:=[] } w:=by
 have e:=zez hs
 rw [show sM m 0 = _ from m0] at e
 rw [e]
 clear e
 unfold FnValidProgramR0
 go_wp2
 exact hQ _ rfl rfl rfl
set_option maxHeartbeats 4000000 in
theorem zkm {m:Array Value} {A:Option Addr} {n c:Nat} {w:World} (hn:¬ (1048576:Int) < (n:Int)) (hs:m.size = 55) (m0:m.getD 0 undef = .slice A n c) (Q:Exit → Act → World → Prop) (hQ:∀ a':Act,a'.defers = [] → a'.tmps.size = 55 → a'.tmps.getD 0 undef = .slice A n c → a'.tmps.getD 8 undef = .bool false → Q .normal a' (w)) :
 FnValidProgramR1.wp Try.prog Q { tmps:=m,defers:=[] } w:=by
 have e:=zez hs
 rw [show sM m 0 = _ from m0] at e
 rw [e]
 clear e
 unfold FnValidProgramR1
 go_wp2
 exact hQ _ rfl rfl rfl rfl
set_option maxHeartbeats 4000000 in
theorem zkr {m:Array Value} {A:Option Addr} {n c:Nat} {w:World} {post:Option Addr → Nat → Nat → Option Addr → Nat → Nat → World → Prop} (hcall:Calls Try.prog 12 #[.slice A n c] w fun e w' => ∃ D1 d1 d2 E1 e1 e2,e = .returned (.agg #[.slice D1 d1 d2,.slice E1 e1 e2]) ∧ post D1 d1 d2 E1 e1 e2 w') (hs:m.size = 55) (m0:m.getD 0 undef = .slice A n c) (Q:Exit → Act → World → Prop) (hQ:∀ D1 d1 d2 E1 e1 e2 (w':World),post D1 d1 d2 E1 e1 e2 w' → ∀ a':Act,a'.defers = [] → a'.tmps.size = 55 → a'.tmps.getD 0 undef = .slice A n c → a'.tmps.getD 3 undef = .pointer (some ⟨w'.heap.size,0,none⟩) → Q .normal a' (w'.alloc (.cells #[.slice D1 d1 d2,.slice E1 e1 e2] 26))) :
 FnValidProgramR3.wp Try.prog Q { tmps:=m,defers:=[] } w:=by
 have e:=zez hs
 rw [show sM m 0 = _ from m0] at e
 rw [e]
 clear e
 unfold FnValidProgramR3
 go_wp2_with fail
 refine hcall.mono ?_
 rintro e w' ⟨D1,d1,d2,E1,e1,e2,rfl,hp⟩
 go_wp2
 exact hQ _ _ _ _ _ _ _ hp _ rfl rfl rfl rfl
set_option maxHeartbeats 4000000 in
theorem ziz (hval:∀ (ds fs:List (List AC)),zyi ds fs → evM X_laws_FnValidProgram 100000 (.run (zid 3 (cOf Try.f4))) [] [(3,.box [.sl 3 ds,.sl 5 fs])] = some (.v (.cell (.bool true))))
  (hdraw:∀ (A:Option Addr) (n c:Nat) (w:World),zo0 w A n c → Calls Try.prog 12 #[.slice A n c] w fun e w' => ∃ v,e = .returned v ∧ zpW w v w')
  (A:Option Addr) (n c:Nat) (w:World) (h:zo0 w A n c):Calls Try.prog 4 #[.slice A n c] w fun e w' => e = .returned (.bool true) ∧ Below w.heap.size w w':=by
 by_cases hbig:1048576 < n
 ·go_enter Try.func4,Try.ntmps4
  go_wp2_with fail
  go_ret
  exact ⟨rfl,Below.refl _ _⟩
 ·refine calls_of_wp Try.func4 (c:=cOf Try.f4) (by kernel_rfl) ?_
  rw [zjT]
  have hs0:(#[Value.slice A n c] ++ Array.replicate (Try.f4.ntmps - (#[.slice A n c]:Array Value).size) undef).size = 55:=by simp [Try.ntmps4]
  have h0:(#[Value.slice A n c] ++ Array.replicate (Try.f4.ntmps - (#[.slice A n c]:Array Value).size) undef).getD 0 undef = Value.slice A n c:=by simp [Array.getD]
  generalize (#[Value.slice A n c] ++ Array.replicate (Try.f4.ntmps - (#[.slice A n c]:Array Value).size) undef) = m0 at hs0 h0
  refine wp_seq (zkd hs0 h0 _ fun a1 hd1 hs1 h1 => ?_)
  obtain ⟨m1,dd⟩:=a1
  have hd1:dd = []:=hd1
  subst hd1
  refine wp_seq (wp_seq (zkm (by omega) hs1 h1 _ fun a2 hd2 hs2 h2 h29 => ?_))
  obtain ⟨m2,dd⟩:=a2
  have hd2:dd = []:=hd2
  subst hd2
  refine wp_cond (t:=false) h29 ?_
  simp only [Bool.false_eq_true,if_false]
  refine wp_skip ?_
  show Code.wp _ (.seq FnValidProgramR3 (zid 3 (cOf Try.f4))) _ ⟨m2,[]⟩ w
  refine wp_seq (zkr (post:=fun D1 d1 d2 E1 e1 e2 w' => zpW w (.agg #[.slice D1 d1 d2,.slice E1 e1 e2]) w') ?_ hs2 h2 _ ?_)
  ·refine (hdraw A n c w h).mono ?_
   rintro e w' ⟨v,rfl,N,p',D1,d1,d2,E1,e1,e2,ds,fs,rfl,hd⟩
   exact ⟨_,_,_,_,_,_,rfl,N,p',D1,d1,d2,E1,e1,e2,ds,fs,rfl,hd⟩
  rintro D1 d1 d2 E1 e1 e2 w1 ⟨N,p1,D1',d1',d2',E1',e1',e2',ds,fs,hv,hrep,hrep2,hf,hev,hz⟩ a3 hd3 hs3 h3 h33
  injection hv with hv
  have hv:=congrArg Array.toList hv
  obtain ⟨⟨rfl,rfl,rfl⟩,rfl,rfl,rfl⟩:(D1 = D1' ∧ d1 = d1' ∧ d2 = d2') ∧ E1 = E1' ∧ e1 = e1' ∧ e2 = e2':=by simpa using hv
  obtain ⟨m3,dd⟩:=a3
  have hd3:dd = []:=hd3
  subst hd3
  have hs3:m3.size = 55:=hs3
  have h33:m3.getD 3 undef = .pointer (some ⟨w1.heap.size,0,none⟩):=h33
  have hea:=za5 (p:=p1) (w:=w1) (.cells #[.slice D1 d1 d2,.slice E1 e1 e2] 26) 0 (fun _ => False)
  have hx:=heap_alloc_new w1 (.cells #[.slice D1 d1 d2,.slice E1 e1 e2] 26)
  have hz1:Zp (upP p1 w1.heap.size 0) (w1.alloc (.cells #[.slice D1 d1 d2,.slice E1 e1 e2] 26)):=⟨fun c hc => by
   rw [zbZ]
   split
   ·rfl
   ·exact hz.1 c (by simp at hc; omega),fun _ _ _ => trivial⟩
  have hE:=hev.trans hea (C:=fun _ => False) (fun _ _ h => h) (fun _ _ h => h)
  have hr1:=hrep.evo hea
  have hr2:=hrep2.evo hea
  have hK:zsY (upP p1 w1.heap.size 0) (w1.alloc (.cells #[.slice D1 d1 d2,.slice E1 e1 e2] 26)) m3 55 [(3,.box [.sl 3 ds,.sl 5 fs])] (fun x => w.heap.size ≤ x):=by
   have look:∀ t x,List.lookup t [(3,.box [.sl 3 ds,.sl 5 fs])] = some x → (t = 3 ∧ x = AV.box [.sl 3 ds,.sl 5 fs]) ∨ False:=fun t x hx => by
    simp only [List.lookup_cons] at hx
    by_cases h3:t = 3
    ·subst h3; simp at hx; exact .inl ⟨rfl,hx.symm⟩
    rw [show (t == 3) = false by simpa using h3] at hx
    simp at hx
   refine ⟨fun t x hx' => ?_,fun t x hx' => ?_,fun t t' cs cs' x ht h1 h2 h3 h4 => ?_⟩
   ·rcases look t x hx' with ⟨rfl,rfl⟩ | h
    ·exact ⟨by omega,_,_,_,h33,hx,hr1,hr2,trivial⟩
    ·exact h.elim
   ·rcases look t x hx' with ⟨rfl,rfl⟩ | h
    ·exact .inr ⟨_,_,rfl,h33,by rw [zbZ,if_pos rfl],hev.size⟩
    ·exact h.elim
   ·rcases look _ _ h1 with ⟨rfl,_⟩ | h
    ·rcases look _ _ h2 with ⟨rfl,_⟩ | h
     ·exact ht rfl
     ·exact h.elim
    ·exact h.elim
  obtain ⟨O,hO⟩:=Option.isSome_iff_exists.1 ziB
  have hI:=zsf hs3 hK hz1 (fun x hx => Nat.le_trans hE.size hx)
  refine zh9 (zuM (X:=X_laws_FnValidProgram) (a:={ tmps:=m3,defers:=[] }) zeE zhi vok (hval ds fs hf) (zet _ _ _) (ztW fun t x hx => (hK.lt t x hx).1) hO hI rfl hE) ?_
  rintro e w' ⟨v,rfl,p',hsr,_,_,hev',hz'⟩
  have hsr:Rep p' w' v (.bool true):=hsr
  cases hsr
  exact ⟨rfl,hev'.os,hev'.tape,hev'.output,hev'.size,fun b hb => hev'.block b hb (fun h => h)⟩
end Go.Proofs.Ytbodfaghedolbaa
namespace Go.Proofs.Ytbodfaghedolbaa
open Go
def tyL (T:Nat → Int) (m:Nat):List Int:=(List.range m).map T
theorem zdd (T:Nat → Int) (m:Nat):(tyL T m).length = m:=by simp [tyL]
theorem zkD (T:Nat → Int) {m k:Nat} (h:k < m):(tyL T m).getD k 0 = T k:=by simp [tyL,List.getD,h]
theorem zpJ (T:Nat → Int) {m k:Nat} (h:k < (tyL T m).length):(tyL T m)[k] = T k:=by simp [tyL]
section
variable {D:List DM} {R:List PM}
theorem ztM (G M:List Int) (kids:List (List AC)) (hm:kids.length ≤ 68719476736) (T:Nat → Int) (hb:∀ k,k < kids.length → ∃ o n ks,kids.getD k [] = [.int o,.int n,.sl 3 ks])
  (hT:∀ k,k < kids.length → ∀ o n ks,kids.getD k [] = [.int o,.int n,.sl 3 ks] → zbk [.agg [.sl 3 (zak D),.sl 5 (zaD R)],.agg [.sl 1 (zae G),.sl 1 (zae M)],.agg [.int o,.int n,.sl 3 ks]] = rI (T k)) :
  zil [.agg [.sl 3 (zak D),.sl 5 (zaD R)],.agg [.sl 1 (zae G),.sl 1 (zae M)],.cell (.sl 3 kids)] = rL (tyL T kids.length):=by
 have key:∀ m k:Nat,k + m = kids.length → zep (zak D) (zaD R) (zae G) (zae M) (zae ((tyL T kids.length).take k)) kids ((kids.length:Nat):Int) (k:Int) = rL (tyL T kids.length):=by
  intro m
  induction m with
  | zero =>
   intro k hk
   refine zg0 (zab (decide_eq_false (by omega)) ?_)
   rw [List.take_of_length_le (by rw [zdd]; omega)]
  | succ m ih =>
   intro k hk
   have hlt:k < kids.length:=by omega
   obtain ⟨o,n,ks,e⟩:=hb k hlt
   refine zg0 (zad (decide_eq_true (by omega)) (zdm hlt e (zaC (hT k hlt _ _ _ e) (zcT (by rw [zac,List.length_take,zdd]; simp; omega) ?_))))
   have hl:k < (tyL T kids.length).length:=by rw [zdd]; exact hlt
   have:=zkx hl
   rw [zpJ] at this
   rw [this,wrk (by unfold za8; omega)]
   exact ih (k + 1) (by omega)
 exact zmz (key kids.length 0 (by omega))
variable (V:List Int) (kids:List (List AC)) (hm:kids.length ≤ za8) (T:Nat → Int) (hb:∀ k,k < kids.length → ∃ o n ks,kids.getD k [] = [.int o,.int n,.sl 3 ks])
  (hT:∀ k,k < kids.length → ∀ o n ks,kids.getD k [] = [.int o,.int n,.sl 3 ks] → zaG [.agg [.sl 3 (zak D),.sl 5 (zaD R)],.cell (.sl 1 (zae V)),.agg [.int o,.int n,.sl 3 ks]] = rI (T k))
include hm hb hT
theorem zpH (types:List Int):zg8 [.agg [.sl 3 (zak D),.sl 5 (zaD R)],.cell (.sl 1 (zae V)),.cell (.sl 3 kids),.cell (.sl 1 (zae types))] = rB (decide (tyL T kids.length = types)):=by
 refine zoO ?_
 rw [zac]
 by_cases hl:kids.length = types.length
 rotate_left
 ·rw [decide_eq_false (fun h => hl (by rw [← h,zdd]))]
  exact zad (net (by omega)) rfl
 refine zab (nef (by omega)) ?_
 have key:∀ m k:Nat,k + m = kids.length → zfw (zae V) kids (zae types) (zak D) (zaD R) (k:Int) = rB (decide ((tyL T kids.length).drop k = types.drop k)):=by
  intro m
  induction m with
  | zero =>
   intro k hk
   rw [List.drop_eq_nil_of_le (show (tyL T kids.length).length ≤ k by rw [zdd]; omega),List.drop_eq_nil_of_le (show types.length ≤ k by omega)]
   exact zh4 (zab (decide_eq_false (by rw [zac]; omega)) rfl)
  | succ m ih =>
   intro k hk
   have hlt:k < kids.length:=by omega
   have h2:k < types.length:=by omega
   have h3:k < (tyL T kids.length).length:=by rw [zdd]; exact hlt
   obtain ⟨o,n,ks,e⟩:=hb k hlt
   rw [List.drop_eq_getElem_cons h3,List.drop_eq_getElem_cons h2,zpJ]
   refine zh4 (zad (decide_eq_true (by rw [zac]; omega)) (zdm hlt e (zaC (hT k hlt _ _ _ e) (zbi h2 ?_))))
   by_cases he:T k = types[k]
   ·refine zab (nef he) ?_
    rw [wrk (by omega),ih (k + 1) (by omega)]
    simp only [he,List.cons.injEq,true_and]
   ·refine zad (net he) ?_
    simp only [List.cons.injEq]
    rw [decide_eq_false (fun h => he h.1)]
 exact key kids.length 0 (by omega)
theorem zpm (c:Nat):zgg [.agg [.sl 3 (zak D),.sl 5 (zaD R)],.cell (.sl 1 (zae V)),.cell (.sl 3 kids),.cell (.int (c:Int))] = rB (decide (tyL T kids.length = List.replicate c 0)):=by
 refine zmO ?_
 by_cases hl:kids.length = c
 rotate_left
 ·rw [decide_eq_false (fun h => hl (by have:=congrArg List.length h; rw [zdd] at this; simpa using this))]
  exact zad (net (by omega)) rfl
 refine zab (nef (by omega)) ?_
 have key:∀ m k:Nat,k + m = kids.length → zeq (zae V) kids (c:Int) (zak D) (zaD R) (k:Int) = rB (decide ((tyL T kids.length).drop k = List.replicate (c - k) 0)):=by
  intro m
  induction m with
  | zero =>
   intro k hk
   rw [List.drop_eq_nil_of_le (show (tyL T kids.length).length ≤ k by rw [zdd]; omega),show c - k = 0 by omega]
   exact zgZ (zab (decide_eq_false (by omega)) rfl)
  | succ m ih =>
   intro k hk
   have hlt:k < kids.length:=by omega
   have h3:k < (tyL T kids.length).length:=by rw [zdd]; exact hlt
   obtain ⟨o,n,ks,e⟩:=hb k hlt
   rw [List.drop_eq_getElem_cons h3,zpJ,show c - k = (c - (k + 1)) + 1 by omega,List.replicate_succ]
   refine zgZ (zad (decide_eq_true (by omega)) (zdm hlt e (zaC (hT k hlt _ _ _ e) ?_)))
   by_cases he:T k = 0
   ·refine zab (nef he) ?_
    rw [wrk (by omega),ih (k + 1) (by omega)]
    simp only [he,List.cons.injEq,true_and]
   ·refine zad (net he) ?_
    simp only [List.cons.injEq]
    rw [decide_eq_false (fun h => he h.1)]
 have:=key kids.length 0 (by omega)
 simpa using this
theorem znG (hv:CP D R) (o n:Int):zhJ [.agg [.sl 3 (zak D),.sl 5 (zaD R)],.cell (.sl 1 (zae V)),.agg [.int o,.int n,.sl 3 kids]] = rI (if 0 ≤ n ∧ n < R.length then (if o = 9 then (if tyL T kids.length = (gP R n.toNat).ps then (gP R n.toNat).r else -1)
   else if (gP R n.toNat).ps.length = 0 then -1 else if tyL T kids.length = zqh (gP R n.toNat).ps then zfL ((gP R n.toNat).ps.getD ((gP R n.toNat).ps.length - 1) 0) (gP R n.toNat).r D 0 else -1) else -1):=by
 have hR:=hv.rl
 refine zlw (zaH (zdO _ _ _) ?_)
 have hw:zai ((((zaD R).length:Nat):Int) - 1) = R.length - 1:=by rw [zbu]; exact wr (by omega) (by omega)
 rw [hw]
 by_cases h:0 ≤ n ∧ n < R.length
 rotate_left
 ·rw [if_neg h]
  refine zad ?_ rfl
  rw [Bool.not_eq_true',Bool.and_eq_false_iff,decide_eq_false_iff_not,decide_eq_false_iff_not]
  omega
 rw [if_pos h,decide_eq_true h.1,decide_eq_true (show n ≤ (R.length:Int) - 1 by omega)]
 have hp:=(hv.ps n.toNat (by omega)).1
 refine zab rfl (zaT (k:=n.toNat) (by omega) (by omega) ?_)
 by_cases h9:o = 9
 ·rw [if_pos h9]
  refine zad (eqt h9) (zaH (zpH V kids hm T hb hT _) ?_)
  by_cases hq:tyL T kids.length = (gP R n.toNat).ps
  ·rw [if_pos hq,decide_eq_true hq]
   exact zab rfl rfl
  ·rw [if_neg hq,decide_eq_false hq]
   exact zad rfl rfl
 rw [if_neg h9]
 refine zab (eqf h9) ?_
 rw [zac]
 by_cases h0:(gP R n.toNat).ps.length = 0
 ·rw [if_pos h0]
  exact zad (zr h0) rfl
 rw [if_neg h0]
 refine zab (nz h0) ?_
 have w:zai ((((gP R n.toNat).ps.length:Nat):Int) - 1) = (((gP R n.toNat).ps.length - 1:Nat):Int):=by
  rw [wr (by omega) (by omega)]
  omega
 rw [w]
 refine zsK (by omega) (by omega) (by rw [zac]; omega) ?_
 rw [show ((zae (gP R n.toNat).ps).drop (0:Int).toNat).take ((((gP R n.toNat).ps.length - 1:Nat):Int).toNat - (0:Int).toNat) = zae (zqh (gP R n.toNat).ps) by simp [zqh,zoA]]
 refine zaH (zpH V kids hm T hb hT _) ?_
 by_cases hq:tyL T kids.length = zqh (gP R n.toNat).ps
 ·rw [if_pos hq,decide_eq_true hq]
  exact zab rfl (zhP rfl (by omega) (zaC (zqa D (by have:=hv.dv.len; omega) _ _) rfl))
 ·rw [if_neg hq,decide_eq_false hq]
  exact zad rfl rfl
end
end Go.Proofs.Ytbodfaghedolbaa
namespace Go.Proofs.Ytbodfaghedolbaa
open Go
theorem zug {m:Nat} {P:Nat → Int → Prop} (h:∀ k,k < m → ∃ t,P k t):∃ T:Nat → Int,∀ k,k < m → P k (T k) :=
 ⟨fun k => open Classical in if hk:k < m then (h k hk).choose else 0,fun k hk => by
  simp only [dif_pos hk]
  exact (h k hk).choose_spec⟩
section
variable {D:List DM} {R:List PM} (hv:CP D R)
section
variable (V:List Int) (kids:List (List AC)) (hm:kids.length ≤ za8) (T:Nat → Int) (hb:∀ k,k < kids.length → ∃ o n ks,kids.getD k [] = [.int o,.int n,.sl 3 ks])
  (hT:∀ k,k < kids.length → ∀ o n ks,kids.getD k [] = [.int o,.int n,.sl 3 ks] → zaG [.agg [.sl 3 (zak D),.sl 5 (zaD R)],.cell (.sl 1 (zae V)),.agg [.int o,.int n,.sl 3 ks]] = rI (T k))
include hm hb hT
theorem zs8 (o n o':Int):zb7 (zae V) (zak D) (zaD R) o n kids (n == 0) o' true = rI (if n = 0 ∧ tyL T kids.length = [0,0] then 0 else -1):=by
 refine zcw (zad rfl ?_)
 by_cases hn:n = 0
 ·refine zad (eqt hn) (zaH (zpm V kids hm T hb hT 2) ?_)
  by_cases hq:tyL T kids.length = [0,0]
  ·rw [if_pos ⟨hn,hq⟩,decide_eq_true (show tyL T kids.length = List.replicate 2 0 from hq)]
   exact zad rfl rfl
  ·rw [if_neg (fun h => hq h.2),decide_eq_false (show ¬ tyL T kids.length = List.replicate 2 0 from hq)]
   exact zab rfl rfl
 ·rw [if_neg (fun h => hn h.1)]
  exact zab (eqf hn) rfl
include hv
theorem zzd {o n:Int} (h:¬ (o = 1 ∨ o = 2 ∨ o = 3 ∨ o = 4)) (h0:o ≠ 0) (h13:o ≠ 13) (h7:o ≠ 7) (h8:o ≠ 8):zb7 (zae V) (zak D) (zaD R) o n kids (n == 0) o false = rI (zl2 D R o n (tyL T kids.length)):=by
 refine zcw (zab rfl ?_)
 unfold zl2
 rw [if_neg h0,if_neg h]
 by_cases h5:o = 5
 ·rw [if_pos h5]
  refine zad (eqt h5) ?_
  by_cases hn:n = 0
  ·refine zad (eqt hn) (zaH (zpm V kids hm T hb hT 1) ?_)
   by_cases hq:tyL T kids.length = [0]
   ·rw [if_pos ⟨hn,hq⟩,decide_eq_true (show tyL T kids.length = List.replicate 1 0 from hq)]
    exact zad rfl rfl
   ·rw [if_neg (fun h => hq h.2),decide_eq_false (show ¬ tyL T kids.length = List.replicate 1 0 from hq)]
    exact zab rfl rfl
  ·rw [if_neg (fun h => hn h.1)]
   exact zab (eqf hn) rfl
 rw [if_neg h5]
 refine zab (eqf h5) ?_
 by_cases h6:o = 6
 ·rw [if_pos h6]
  refine zad (eqt h6) (zaC (zlZ hv.dv n) ?_)
  have hc:=zfh (D:=D) n
  by_cases hn:zgJ D n < 0
  ·rw [if_pos hn]
   exact zab (decide_eq_false (by omega)) rfl
  have h1:1 ≤ zgJ D n:=by
   rcases hc with h0 | ⟨j,i,hj,he,_⟩ <;> omega
  have hf:=zhy hv.dv n
  rw [if_neg (by omega)] at hf
  rw [if_neg hn]
  refine zad (decide_eq_true (by omega)) (zaP hf (zaH (zpH V kids hm T hb hT _) ?_))
  by_cases hq:tyL T kids.length = fld D n
  ·rw [if_pos hq,decide_eq_true hq]
   exact zad rfl (zaC (zlZ hv.dv n) rfl)
  ·rw [if_neg hq,decide_eq_false hq]
   exact zab rfl rfl
 rw [if_neg h6]
 refine zab (eqf h6) (zab (eqf h13) (zab (eqf h7) (zab (eqf h8) ?_)))
 by_cases h9:o = 9
 ·rw [if_pos h9]
  refine zad (eqt h9) (zeu (zad (eqt h9) (zaC (znG V kids hm T hb hT hv o n) ?_)))
  simp only [h9,if_true]
  rfl
 rw [if_neg h9]
 refine zab (eqf h9) ?_
 by_cases h10:o = 10
 ·rw [if_pos h10]
  refine zeu (zad (eqt h10) (zaC (znG V kids hm T hb hT hv o n) ?_))
  simp only [if_neg h9]
  rfl
 rw [if_neg h10]
 refine zeu (zab (eqf h10) ?_)
 by_cases h11:o = 11
 rotate_left
 ·rw [if_neg h11]
  exact zab (eqf h11) rfl
 rw [if_pos h11]
 refine zad (eqt h11) ?_
 by_cases hn:n = 0
 rotate_left
 ·rw [if_neg hn]
  exact zab (eqf hn) rfl
 rw [if_pos hn]
 refine zad (eqt hn) ?_
 rw [zdd]
 by_cases h2:kids.length = 2
 rotate_left
 ·rw [if_neg (fun h => h2 h.1)]
  exact zab (eqf (by omega)) rfl
 obtain ⟨o0,n0,k0,e0⟩:=hb 0 (by omega)
 obtain ⟨o1,n1,k1,e1⟩:=hb 1 (by omega)
 rw [zkD T (show 0 < kids.length by omega),zkD T (show 1 < kids.length by omega)]
 refine zad (eqt (by omega)) (zeS (by omega) e0 (zaC (hT 0 (by omega) _ _ _ e0) (zaH (zdj (by have:=hv.dv.len; omega) _) ?_)))
 rcases ha:zkb D (T 0) with _ | _
 ·rw [if_neg (fun h => by cases h.2.1)]
  exact zab rfl rfl
 have hl:=hv.dv.len
 have hbd:0 < T 0 ∧ T 0 ≤ D.length:=by
  simp only [zkb,Bool.and_eq_true,decide_eq_true_eq] at ha
  exact ⟨ha.1,(isTy_iff.1 ha.2.1).2⟩
 have w:zai (T 0 - 1) = (((T 0).toNat - 1:Nat):Int):=by rw [wr (by omega) (by omega)]; omega
 refine zad rfl (zdm (k:=1) (by omega) e1 (zaC (hT 1 (by omega) _ _ _ e1) (zbE (k:=(T 0).toNat - 1) w (by omega) ?_)))
 by_cases hq:T 1 = (gD D ((T 0).toNat - 1)).f
 ·rw [if_pos ⟨h2,rfl,hq⟩]
  exact zad (eqt hq) (zbE (k:=(T 0).toNat - 1) w (by omega) rfl)
 ·rw [if_neg (fun h => hq h.2.2)]
  exact zab (eqf hq) rfl
theorem zzq {o n:Int} (h12:o ≠ 12) (h13:o ≠ 13) (h7:o ≠ 7) (h8:o ≠ 8):zaG [.agg [.sl 3 (zak D),.sl 5 (zaD R)],.cell (.sl 1 (zae V)),.agg [.int o,.int n,.sl 3 kids]] = rI (zl2 D R o n (tyL T kids.length)):=by
 refine zc2 ?_
 by_cases h0:o = 0
 ·refine zad (eqt h0) ?_
  unfold zl2
  rw [if_pos h0,zdd]
  by_cases hl:kids.length = 0
  ·refine zad (zr hl) (zaH (zdO _ _ _) ?_)
   by_cases hn:-999 ≤ n ∧ n ≤ 999
   ·rw [if_pos ⟨hn,hl⟩,decide_eq_true hn.1,decide_eq_true hn.2]
    exact zad rfl rfl
   ·rw [if_neg (fun h => hn h.1)]
    refine zab ?_ rfl
    rw [Bool.and_eq_false_iff,decide_eq_false_iff_not,decide_eq_false_iff_not]
    omega
  ·rw [if_neg (fun h => hl h.2)]
   exact zab (nz hl) rfl
 refine zab (eqf h0) (zab (eqf h12) ?_)
 by_cases h:o = 1 ∨ o = 2 ∨ o = 3 ∨ o = 4
 ·have e:zl2 D R o n (tyL T kids.length) = (if n = 0 ∧ tyL T kids.length = [0,0] then 0 else -1):=by
   unfold zl2
   rw [if_neg h0,if_pos h]
  rw [e]
  rcases h with rfl | rfl | rfl | rfl
  ·exact zad rfl (zs8 V kids hm T hb hT _ _ _)
  ·exact zab rfl (zad rfl (zs8 V kids hm T hb hT _ _ _))
  ·exact zab rfl (zab rfl (zad rfl (zs8 V kids hm T hb hT _ _ _)))
  ·exact zab rfl (zab rfl (zab rfl (zs8 V kids hm T hb hT _ _ _)))
 ·refine zab (eqf (fun h' => h (.inl h'))) (zab (eqf (fun h' => h (.inr (.inl h')))) (zab (eqf (fun h' => h (.inr (.inr (.inl h'))))) ?_))
  rw [eqf (show o ≠ 4 from fun h' => h (.inr (.inr (.inr h'))))]
  exact zzd hv V kids hm T hb hT h h0 h13 h7 h8
end
end
end Go.Proofs.Ytbodfaghedolbaa

/- Generic texts and models for the proofs of this seat: part 35. -/
import Derived.Test.YtcpcagdialnbeaaY34
set_option linter.unusedVariables false
set_option linter.unusedSimpArgs false
namespace Go.Proofs.Ytcpcagdialnbeaa
open Go Go.RowKit
def zls (w:World) (B:Nat) (x0 x1:Value):World:=(w.setCell ⟨B,0,none⟩ x0).setCell ⟨B,1,none⟩ x1
theorem zni {w:World} {B:Nat} {x0 x1 y0 y1:Value} {T:TypeId} (h:w.heap[B]? = some (.cells #[y0,y1] T (0,0))):(zls w B x0 x1).heap[B]? = some (.cells #[x0,x1] T (0,0)) :=
 heap_setCell_same _ _ _ _ _ _ (heap_setCell_same _ _ _ _ _ _ h)
theorem zqM {w:World} {B b:Nat} {x0 x1:Value} (h:b ≠ B):(zls w B x0 x1).heap[b]? = w.heap[b]?:=by
 unfold zls
 rw [heap_setCell_other _ _ _ _ h,heap_setCell_other _ _ _ _ h]
theorem zrl {w:World} {B:Nat} {x0 x1:Value}:(zls w B x0 x1).heap.size = w.heap.size:=by simp [zls,World.setCell]
theorem zpp {w:World} {B:Nat} {x0 x1:Value} (p:Stb) (hp:p B = 0):Evo (· = B) p w p (zls w B x0 x1):=by
 refine zbI hp zrl (fun y hy => zqM hy) ?_ ?_ ?_ <;> simp [zls,World.setCell]
theorem zy0 {D:List DM} (hD:D ∈ zcJ):apC 5 (.sl 3 (zal D)) = true:=zq3 D hD
def zvD (ds fs:List (List AC)):Prop:=Fit .prog [.sl 3 ds,.sl 5 fs] ∧ ds.length ≤ 10 ∧ fs.length ≤ 10
section
variable {ns:List Nat} (hns:ns.length ≤ 2000) {w0:World} {p0:Stb} {b:Nat}
include hns
set_option maxHeartbeats 4000000 in
theorem zmP {pos:Nat} (hpos:pos + 110000 ≤ 800000) (hz:Zp p0 w0) (ht:TK p0 w0 (fun _ => False) b (Qr ns pos)):Calls Try.prog 20 #[zaV b] w0 fun e w' => ∃ D1 d1 d2 E1 e1 e2 p' ds fs pos',e = .returned (.agg #[.slice D1 d1 d2,.slice E1 e1 e2]) ∧ Rep p' w' (.slice D1 d1 d2) (.sl 3 ds) ∧ Rep p' w' (.slice E1 e1 e2) (.sl 5 fs) ∧ zvD ds fs ∧
  Evo (· = b) p0 w0 p' w' ∧ Zp p' w' ∧ TK p' w' (fun _ => False) b (Qr ns pos') ∧ pos' ≤ pos + 58000:=by
 have hb:=ht.lt
 have hea:=zaI (p:=p0) (w:=w0) (.cells #[.slice none 0 0,.slice none 0 0] 26) 0 (· = b)
 have hz1:Zp (upP p0 w0.heap.size 0) (w0.alloc (.cells #[.slice none 0 0,.slice none 0 0] 26)):=⟨fun c hc => by
  rw [zbh]
  split
  ·rfl
  ·exact hz.1 c (by simp at hc; omega),fun _ _ _ => trivial⟩
 have hcall:=zlp hns (by omega) hz1 (ht.evo (zaI _ 0 _))
 go_enter Try.func20,Try.ntmps20
 go_wp2_with fail
 refine hcall.mono ?_
 rintro e w1 ⟨v,p1,D,R,pos1,rfl,hD,hR,hR2,hbd,hrep,hev,hz2,ht2,hp1,D1,d1,d2,B,o,cap,rfl,gB,okB,uq,a,T,xB,hl1,hl2⟩
 clear hcall
 obtain ⟨arr,harr,hl⟩:=hrep
 injection harr with harr
 subst harr
 obtain ⟨r0,r1,_⟩:Rep p1 w1 (.slice D1 d1 d2) (.sl 3 (zal D)) ∧ Rep p1 w1 (.slice (some ⟨B,o,none⟩) R.length cap) (.sl 5 (zaW R)) ∧ True:=hl
 obtain ⟨hne,hdf,hda,hdl⟩:=znD hD
 have hfit:∀ r ∈ zaW R,Fit .func r:=fun r hr => by
  obtain ⟨x,hx,rfl⟩:=List.mem_map.1 hr
  exact (zpb hR hx (hbd x hx).1).1
 have hap:∀ r ∈ zaW R,apL 5 r = true:=fun r hr => by
  obtain ⟨x,hx,rfl⟩:=List.mem_map.1 hr
  exact zmB (hbd x hx).1
 have hFP:FP (· = b) (upP p0 w0.heap.size 0) (w0.alloc (.cells #[.slice none 0 0,.slice none 0 0] 26)) b B o R.length cap (zaW R) (Qr ns pos1) p1 w1 :=
  ⟨r1,fun e => by have:=congrArg List.length e; simp [zaW] at this; rw [this] at hR2; simp at hR2,⟨a,T,xB,hl2⟩,okB,uq,.inl (by simpa using gB),by simp; omega,by simp at gB; omega,rfl,hfit,hap,ht2,hz2,hev⟩
 have hsp:=zkz hns hFP r0 hdf (by omega) ((zy0 hD)) hR hbd (by omega)
 have hsz1:w0.heap.size < w1.heap.size:=by have:=hev.size; simp at this; omega
 have nb:w0.heap.size ≠ b:=by omega
 have HS:=Lib.hid hsp
 have HE:=Lib.hid hea
 clear hsp hea hFP hev r0 r1 hfit hap hdf hda
 go_wp2_with fail
 refine HS.out.mono ?_
 rintro e w2 ⟨v,p2,ds,fs,pos2,rfl,hrep,hf,hl3,hl4,hev,hz3,ht3,hp2⟩
 obtain ⟨arr,rfl,hl⟩:=hrep
 obtain ⟨l⟩:=arr
 match l,hl with
 | [u0,u1],⟨r0,r1,_⟩ =>
 obtain ⟨D1,d1,d2,rfl⟩:=zbC r0
 obtain ⟨E1,e1,e2,rfl⟩:=zbC r1
 have hx:=(hev.block w0.heap.size (by simp) nb).trans (heap_alloc_new w0 (.cells #[.slice none 0 0,.slice none 0 0] 26))
 have hpx:p2 w0.heap.size = 0:=by rw [hev.same w0.heap.size (by simp) nb,zbh,if_pos rfl]
 have k0:=zat (j:=0) hx rfl
 have k1:=zat (j:=1) hx rfl
 have f0:=frozen_of_row w2 _ 0 _ _ hx
 have f1:=frozen_of_row w2 _ 1 _ _ hx
 have q1:=zni (x0:=.slice D1 d1 d2) (x1:=.slice E1 e1 e2) hx
 have y0:=zat (j:=0) q1 rfl
 have y1:=zat (j:=1) q1 rfl
 have hevs:Evo (· = w0.heap.size) p2 w2 p2 (zls w2 w0.heap.size (.slice D1 d1 d2) (.slice E1 e1 e2)):=zpp p2 hpx
 have hF:Evo (· = b) p0 w0 p2 (zls w2 w0.heap.size (.slice D1 d1 d2) (.slice E1 e1 e2)) :=
  (HE.out.trans hev (C:=(· = b)) (fun _ _ e => e) (fun _ _ e => e)).trans hevs (fun _ _ e => e) (fun c hc e => absurd hc (by have:c = w0.heap.size:=e; omega))
 have hfin:=And.intro (r0.evo hevs) (And.intro (r1.evo hevs) (And.intro hF (And.intro (show Zp p2 (zls w2 w0.heap.size (.slice D1 d1 d2) (.slice E1 e1 e2)) from ⟨fun c hc => hz3.1 c (Nat.le_trans hevs.size hc),fun _ _ _ => trivial⟩) ((ht3.own (Own':=(· = w0.heap.size)) (fun e => nb e.symm)).evo hevs))))
 have HF:=Lib.hid hfin
 clear hfin hevs hF hev hz3 ht3 r0 r1 q1 hx HE HS
 go_wp2_with fail
 refine bodyPost_ret (v:=.agg #[.slice D1 d1 d2,.slice E1 e1 e2]) ?_ rfl ⟨D1,d1,d2,E1,e1,e2,p2,ds,fs,pos2,rfl,HF.out.1,HF.out.2.1,⟨hf,hl3,hl4⟩,HF.out.2.2.1,HF.out.2.2.2.1,HF.out.2.2.2.2.own (fun h => h.elim),by omega⟩
 have y0':(((w2.setCell ⟨w0.heap.size,0,none⟩ (.slice D1 d1 d2)).setCell ⟨w0.heap.size,1,none⟩ (.slice E1 e1 e2))).cell? ⟨w0.heap.size,0,none⟩ = some (.slice D1 d1 d2):=y0
 have y1':(((w2.setCell ⟨w0.heap.size,0,none⟩ (.slice D1 d1 d2)).setCell ⟨w0.heap.size,1,none⟩ (.slice E1 e1 e2))).cell? ⟨w0.heap.size,1,none⟩ = some (.slice E1 e1 e2):=y1
 simp [results,Try.results20,go_sem,y0',y1']
end
end Go.Proofs.Ytcpcagdialnbeaa
namespace Go.Proofs.Ytcpcagdialnbeaa
open Go Go.RowKit Go.BigFrame
def zoo (w0:World) (v:Value) (w':World):Prop:=∃ N p' D1 d1 d2 E1 e1 e2 ds fs,v = .agg #[.slice D1 d1 d2,.slice E1 e1 e2] ∧ Rep p' w' (.slice D1 d1 d2) (.sl 3 ds) ∧ Rep p' w' (.slice E1 e1 e2) (.sl 5 fs) ∧ zvD ds fs ∧ Evo (fun _ => False) (zhm w0.heap.size N) w0 p' w' ∧ Zp p' w'
set_option maxHeartbeats 4000000 in
theorem zjp {A:Option Addr} {n c:Nat} {w:World} (h:znJ w A n c) :
  Calls Try.prog 8 #[.slice A n c] w fun e w' => ∃ v,e = .returned v ∧ zoo w v w':=by
 have hnr:=zm9 (B:=w.heap.size) (w:=w.alloc (.cells #[.slice none 0 0,.slice none 0 0] 26)) (by simp) (CodeB.alloc h (Nat.le_refl _) _)
 have HR:=Lib.hid hnr
 clear hnr h
 go_enter Try.func8,Try.ntmps8
 go_wp2_with fail
 refine HR.out.mono ?_
 rintro e w2 ⟨rfl,N,ns,hns,ht,hs2,hev⟩
 have hev0:=(zkI w.heap.size N w (.cells #[.slice none 0 0,.slice none 0 0] 26) (fun _ => False)).trans (hev (fun _ => False)) (C:=fun _ => False) (fun _ _ h => h) (fun _ _ h => h)
 have hx2:=((hev (fun _ => False)).block w.heap.size (by simp) (fun h => h)).trans (heap_alloc_new w (.cells #[.slice none 0 0,.slice none 0 0] 26))
 have hs1:(w.alloc (.cells #[.slice none 0 0,.slice none 0 0] 26)).heap.size = w.heap.size + 1:=by simp
 rw [hs1] at ht hs2 ⊢
 have hse:=zmP hns (by omega) (zt8 (by omega) N) ht
 have HS:=Lib.hid hse
 have HE:=Lib.hid hev0
 clear hse hev0 hev HR ht
 go_wp2_with fail
 refine HS.out.mono ?_
 rintro e w3 ⟨D1,d1,d2,E1,e1,e2,p3,ds,fs,pos,rfl,r0,r1,hf,hev3,hz3,ht3,_⟩
 have hne:w.heap.size ≠ w.heap.size + 1:=by omega
 have hx3:=(hev3.block w.heap.size (by omega) hne).trans hx2
 have hp3:=(hev3.same w.heap.size (by omega) hne).trans (zjo (Nat.le_refl _))
 have k0:=zat (j:=0) hx3 rfl
 have k1:=zat (j:=1) hx3 rfl
 have f0:=frozen_of_row w3 _ 0 _ _ hx3
 have f1:=frozen_of_row w3 _ 1 _ _ hx3
 have q1:=zni (x0:=.slice D1 d1 d2) (x1:=.slice E1 e1 e2) hx3
 have y0:=zat (j:=0) q1 rfl
 have y1:=zat (j:=1) q1 rfl
 have hevc:Evo (· = w.heap.size) p3 w3 p3 (zls w3 w.heap.size (.slice D1 d1 d2) (.slice E1 e1 e2)):=zpp p3 hp3
 have hfin:zoo w (.agg #[.slice D1 d1 d2,.slice E1 e1 e2]) (zls w3 w.heap.size (.slice D1 d1 d2) (.slice E1 e1 e2)) :=
  ⟨N,p3,D1,d1,d2,E1,e1,e2,ds,fs,rfl,r0.evo hevc,r1.evo hevc,hf,(HE.out.trans hev3 (C:=fun _ => False) (fun _ _ h => h) (fun q hq e => absurd hq (by have:q = w.heap.size + 1:=e; omega))).trans hevc (fun _ _ h => h) (fun q hq e => absurd hq (by have:q = w.heap.size:=e; omega)),⟨fun y hy => hz3.1 y (Nat.le_trans hevc.size hy),fun _ _ _ => trivial⟩⟩
 have HF:=Lib.hid hfin
 clear hfin hevc q1 hx3 hx2 hev3 hz3 ht3 HS HE r0 r1 hp3
 go_wp2_with fail
 refine bodyPost_ret (v:=.agg #[.slice D1 d1 d2,.slice E1 e1 e2]) ?_ rfl ⟨_,rfl,HF.out⟩
 have y0':(((w3.setCell ⟨w.heap.size,0,none⟩ (.slice D1 d1 d2)).setCell ⟨w.heap.size,1,none⟩ (.slice E1 e1 e2))).cell? ⟨w.heap.size,0,none⟩ = some (.slice D1 d1 d2):=y0
 have y1':(((w3.setCell ⟨w.heap.size,0,none⟩ (.slice D1 d1 d2)).setCell ⟨w.heap.size,1,none⟩ (.slice E1 e1 e2))).cell? ⟨w.heap.size,1,none⟩ = some (.slice E1 e1 e2):=y1
 simp [results,Try.results8,go_sem,y0',y1']
end Go.Proofs.Ytcpcagdialnbeaa
namespace Go.Proofs.Ytcpcagdialnbeaa
open Go Go.RowKit
theorem zuo (D:List DM):apC 5 (.sl 3 (zal D)) = true:=by
 have hc:∀ cs:List (List Int),apR 5 (zcs cs) = true:=by
  intro cs
  induction cs with
  | nil => rfl
  | cons c cs ih =>
   have:apR 5 (zsE c :: zcs cs) = true:=by
    simp only [apR,zsE,apL,apC,zjE,ih,Bool.and_true]
    rfl
   exact this
 have:∀ D:List DM,apR 5 (zal D) = true:=by
  intro D
  induction D with
  | nil => rfl
  | cons d D ih =>
   have:apR 5 (zhe d :: zal D) = true:=by
    simp only [apR,zhe,apL,apC,hc,ih,Bool.and_true,Bool.true_and]
    rfl
   exact this
 simp only [apC,this,Bool.and_true]
 rfl
theorem ztO:∀ {R:List PM},(∀ x ∈ R,POk x) → apR 5 (zaW R) = true
 | [],_ => rfl
 | x :: R,h => by
  have h1:=zmB (h x List.mem_cons_self).b
  have h2:=ztO fun y hy => h y (List.mem_cons_of_mem _ hy)
  show apR 5 (pmC x :: zaW R) = true
  simp only [apR,h1,h2,Bool.and_true]
theorem zwz {o n:Int} {kids:List (List AC)} (h:Fit .expr [.int o,.int n,.sl 3 kids]):apC 5 (.sl 3 kids) = true:=by
 have:=znX h
 simp only [apL,Bool.and_eq_true] at this
 exact this.2.2.1
theorem zw9 {D:List DM} {R:List PM} (hR:∀ x ∈ R,POk x) (hl:R.length ≤ 1048576) {f:Nat} (hf:f < R.length) {o n:Int} {kids:List (List AC)} (hb:Fit .expr [.int o,.int n,.sl 3 kids]) :
  V Try.prog lay sig.has ext 11 [.agg [.sl 3 (zal D),.sl 5 (zaW R)],.cell (.int (f:Int)),.agg [.int o,.int n,.sl 3 kids]] = some (.v (.agg [.sl 3 (zal D),.sl 5 (zaW (R.set f ⟨(gP R f).ps,(gP R f).r,o,n,kids⟩))])):=by
 refine zyy (e:=.fn znK) (by kernel_rfl) (by kernel_rfl) ?_
 have h:=zxH (ds:=zal D) (fs:=zaW R) (x0:=o) (x1:=n) (kids:=kids) (f:=f) (by rw [zby]; exact hf) (by rw [zby]; exact hl) (zo1 hf) (zuo D) (ztO hR) (zwz hb)
 have e:(zaW R).set f [.sl 1 (zah (gP R f).ps),.int (gP R f).r,.int o,.int n,.sl 3 kids] = zaW (R.set f ⟨(gP R f).ps,(gP R f).r,o,n,kids⟩):=by simp [zaW,List.map_set,pmC]
 rw [e] at h
 exact h
theorem zxT {R:List PM} (hR:∀ x ∈ R,POk x) {f:Nat} (hf:f < R.length) {o n:Int} {kids:List (List AC)} (hb:Fit .expr [.int o,.int n,.sl 3 kids]):∀ x ∈ R.set f ⟨(gP R f).ps,(gP R f).r,o,n,kids⟩,POk x:=fun x hx => by
 rcases List.mem_or_eq_of_mem_set hx with h | rfl
 ·exact hR x h
 ·have:=hR _ (zol hf)
  exact ⟨this.ps,this.r,hb⟩
end Go.Proofs.Ytcpcagdialnbeaa
namespace Go.Proofs.Ytcpcagdialnbeaa
open Go
section
variable {D:List DM} {R:List PM}
variable (V:List Int) (kids:List (List AC)) (hm:kids.length ≤ zbd) (T:Nat → Int) (hb:∀ k,k < kids.length → ∃ o n ks,kids.getD k [] = [.int o,.int n,.sl 3 ks])
  (hT:∀ k,k < kids.length → ∀ o n ks,kids.getD k [] = [.int o,.int n,.sl 3 ks] → zk2 [.agg [.sl 3 (zal D),.sl 5 (zaW R)],.cell (.sl 1 (zah V)),.agg [.int o,.int n,.sl 3 ks]] = rI (T k))
include hm hb hT
end
end Go.Proofs.Ytcpcagdialnbeaa
namespace Go.Proofs.Ytcpcagdialnbeaa
open Go
section
variable {D:List DM} {R:List PM} (hv:CP D R)
section
variable (V:List Int) (kids:List (List AC)) (hm:kids.length ≤ zbd) (T:Nat → Int) (hb:∀ k,k < kids.length → ∃ o n ks,kids.getD k [] = [.int o,.int n,.sl 3 ks])
  (hT:∀ k,k < kids.length → ∀ o n ks,kids.getD k [] = [.int o,.int n,.sl 3 ks] → zk2 [.agg [.sl 3 (zal D),.sl 5 (zaW R)],.cell (.sl 1 (zah V)),.agg [.int o,.int n,.sl 3 ks]] = rI (T k))
include hm hb hT
include hv
end
end
end Go.Proofs.Ytcpcagdialnbeaa
namespace Go.Proofs.Ytcpcagdialnbeaa
open Go
section
variable {D:List DM} {R:List PM}
end
end Go.Proofs.Ytcpcagdialnbeaa
namespace Go.Proofs.Ytcpcagdialnbeaa
open Go
section
variable {D:List DM} {R:List PM}
end
end Go.Proofs.Ytcpcagdialnbeaa
namespace Go.Proofs.Ytcpcagdialnbeaa
open Go
structure PIn (D:List DM) (R:List PM):Prop where
 d:∀ d ∈ D,DOk d
 r:∀ x ∈ R,POk x
 dl:D.length ≤ zbd
 rl:R.length ≤ zbd
theorem zxC {ds fs:List (List AC)} (h:Fit .prog [.sl 3 ds,.sl 5 fs]):∃ D R,ds = zal D ∧ fs = zaW R ∧ PIn D R:=by
 generalize ht:Ty.prog = t at h
 generalize hx:[AC.sl 3 ds,AC.sl 5 fs] = x at h
 cases h with
 | prog ds' fs' hd hf h1 h2 =>
  simp only [List.cons.injEq,AC.sl.injEq,true_and,and_true] at hx
  obtain ⟨rfl,rfl⟩:=hx
  obtain ⟨D,rfl,hD⟩:=zpV h1
  obtain ⟨R,rfl,hR⟩:=zq4 h2
  exact ⟨D,R,rfl,rfl,hD,hR,by simpa [zal] using hd,by simpa [zaW] using hf⟩
 | _ => cases ht
section
variable {D:List DM} {R:List PM}
end
end Go.Proofs.Ytcpcagdialnbeaa
namespace Go.Proofs.Ytcpcagdialnbeaa
open Go
end Go.Proofs.Ytcpcagdialnbeaa
namespace Go.Proofs.Ytcpcagdialnbeaa
open Go Go.RowKit
def wB (n:Int) (ys:List Int):List Int:=ys.filter fun y => !(y == n)
end Go.Proofs.Ytcpcagdialnbeaa
namespace Go.Proofs.Ytcpcagdialnbeaa
open Go Go.RowKit
end Go.Proofs.Ytcpcagdialnbeaa
namespace Go.Proofs.Ytcpcagdialnbeaa
open Go Go.RowKit
section
variable {D:List DM} {R:List PM} (hv:CP D R)
include hv
end
end Go.Proofs.Ytcpcagdialnbeaa
namespace Go.Proofs.Ytcpcagdialnbeaa
open Go Go.RowKit
theorem zxh {R:List PM} {f k:Nat} {x:PM} (hf:f < R.length):gP (R.set f x) k = if k = f then x else gP R k:=by
 unfold gP
 simp only [List.getD,List.getElem?_set]
 by_cases h:f = k
 ·subst h; simp [hf]
 ·rw [if_neg h,if_neg (fun e => h e.symm)]
def zrg (R R':List PM):Prop:=R'.length = R.length ∧ ∀ k,(gP R' k).ps = (gP R k).ps ∧ (gP R' k).r = (gP R k).r
theorem ztt {R:List PM} {f:Nat} {o n:Int} {kids:List (List AC)} (hf:f < R.length):zrg R (R.set f ⟨(gP R f).ps,(gP R f).r,o,n,kids⟩):=by
 refine ⟨by simp,fun k => ?_⟩
 rw [zxh hf]
 split
 ·rename_i e; subst e; exact ⟨rfl,rfl⟩
 ·exact ⟨rfl,rfl⟩
section
variable {D:List DM} {R R':List PM}
theorem zqT {α:Type} [Inhabited α] {l:List α} {p:α → Bool}:l.all p = (List.range l.length).all fun k => p (l.getD k default):=by
 rw [Bool.eq_iff_iff,List.all_eq_true,List.all_eq_true]
 constructor
 ·intro h k hk
  rw [List.mem_range] at hk
  exact h _ (by simp [List.getD,hk])
 ·intro h x hx
  obtain ⟨k,hk,rfl⟩:=List.getElem_of_mem hx
  have:=h k (by simpa using hk)
  simpa [List.getD,hk] using this
theorem zrj (h:zrg R R'):ziT D R' = ziT D R:=by
 unfold ziT
 have e:R'.all (zlj D) = R.all (zlj D):=by
  rw [zqT (l:=R'),zqT (l:=R),h.1]
  congr 1
  funext k
  show zlj D (gP R' k) = zlj D (gP R k)
  unfold zlj
  rw [(h.2 k).1,(h.2 k).2]
 rw [h.1,e,(h.2 0).1,(h.2 0).2]
end
end Go.Proofs.Ytcpcagdialnbeaa

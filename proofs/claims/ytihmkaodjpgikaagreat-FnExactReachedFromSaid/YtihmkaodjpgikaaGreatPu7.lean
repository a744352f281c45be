/- Contracts of chapter 2, as the model types: constructors. -/
import Derived.Test.YtihmkaodjpgikaaGreatPu5
namespace Go.Proofs.YtihmkaodjpgikaaGreat
open Go.RowKit Go.BigFrame
set_option maxRecDepth 100000 in
set_option maxHeartbeats 3200000 in
theorem typeOfConS_of {w0 : World} {L U : Nat} {A : Option Addr} {c : Nat} {V : Nat → Value} {ks : List Ex} (p : Pg) (r : Row w0 L U 3 A ks.length c (fun i j => exCell (nthX ks i) (V i) j)) (HV : Hid (∀ i, i < ks.length → ∃ A' c', V i = .slice A' (nthX ks i).kids.length c')) (HC : Hid (∀ i, i < ks.length → TyS p w0 L U (V i) (nthX ks i))) (pv vv : Value) (vars : List Int) (n : Int) (hto : typesOk p.decls = true) (w : World) (hS : Same L U w0 w) (hU : U ≤ w.heap.size) (sc : ScS w p pv vv vars) (hs : vars.length + 3 + 3 * sumL one_ ks ≤ 1900000) :
    Calls Tryz.prog 31 #[pv, vv, .agg #[.int .i64 6, .int .i64 n, .slice A ks.length c]] w fun x w' => x = .returned (.int .i64 (conRes p.decls n (tysL p vars ks))) ∧ Below w.heap.size w w' := by
  have hrl := r.le
  have hrc : c ≤ 9223372036854775807 := r.cap
  have hd0 := sc.p
  obtain ⟨dd, ff, rfl, hd, hf⟩ := hd0
  obtain ⟨B1, b1, rfl, l1, m1⟩ := hd.open_
  obtain ⟨B2, b2, rfl, l2, m2⟩ := hf.open_
  obtain ⟨A3, c3, rfl, l3, m3⟩ := sc.v.open_
  obtain ⟨W0, hW0⟩ : ∃ W0, W0 = (w.alloc (.cells #[.slice B1 p.decls.length b1, .slice B2 p.funcs.length b2] 32)).alloc (.cells #[.int .i64 6, .int .i64 n, .slice A ks.length c] 64) := ⟨_, rfl⟩
  have hB0 : Below w.heap.size w W0 := by rw [hW0]; exact ((Below.refl _ w).alloc (Nat.le_refl _) _).alloc (by simp) _
  have hz0 : W0.heap.size = w.heap.size + 2 := by rw [hW0]; simp
  have x0 : W0.heap[w.heap.size]? = some (.cells #[.slice B1 p.decls.length b1, .slice B2 p.funcs.length b2] 32 (0, 0)) := by rw [hW0]; refine Eq.trans (Below.heap_alloc _ _ _ (by simp only [World.size_alloc]; omega)) ?_; exact alloc_last _ _ _ (by simp)
  have x1 : W0.heap[w.heap.size + 1]? = some (.cells #[.int .i64 6, .int .i64 n, .slice A ks.length c] 64 (0, 0)) := by rw [hW0]; exact alloc_last _ _ _ (by simp)
  have HX := Lib.hid fun W (hB : Below W0.heap.size W0 W) => (show (W.cell? ⟨w.heap.size, 0, none⟩ = some (.slice B1 p.decls.length b1) ∧ W.cell? ⟨w.heap.size, 1, none⟩ = some (.slice B2 p.funcs.length b2)) ∧ (W.cell? ⟨w.heap.size + 1, 0, none⟩ = some (.int .i64 6) ∧ W.cell? ⟨w.heap.size + 1, 1, none⟩ = some (.int .i64 n) ∧ W.cell? ⟨w.heap.size + 1, 2, none⟩ = some (.slice A ks.length c)) from ⟨cells2 ((hB.block w.heap.size (by omega)).trans x0), three ((hB.block (w.heap.size + 1) (by omega)).trans x1)⟩)
  have HSC := Lib.hid fun W (hB : Below W0.heap.size W0 W) => (sc.up hB0).up hB
  have HE := Lib.hid fun W (hB : Below W0.heap.size W0 W) => hB0.trans (hB.mono (show w.heap.size ≤ W0.heap.size by omega))
  have HS0 := Lib.hid fun W (hB : Below W0.heap.size W0 W) => hS.trans (Same.of_below (hB0.trans (hB.mono (show w.heap.size ≤ W0.heap.size by omega))) hU)
  have HZ := Lib.hid hz0
  have hlen := sumL_length ks
  have HDc := Lib.hid fun W (hB : Below W0.heap.size W0 W) => ((HSC.out W hB).p).two.1
  have HCA := Lib.hid fun (W : World) (u : Value) (ts : List Int) (hB : Below W0.heap.size W0 W) (hi : Ints W 0 W.heap.size u ts) => allOf_of p r HV HC _ _ vars ts u W (HS0.out W hB) (by have := hB.size; have := HZ.out; omega) (HSC.out W hB) (by omega) hi
  have hbig := big_of_twelve (cnt_twelve hto)
  have HCT := Lib.hid fun (x : Int) (hx : conTy p.decls n = x) (W : World) (hB : Below W0.heap.size W0 W) => conType_is x n _ _ _ _ W (HDc.out W hB) hbig hx
  clear sc hd hf hS x0 x1 r
  obtain ⟨⟨P0, P1⟩, ⟨E0, E1, E2⟩⟩ := HX.out W0 (Below.refl _ _)
  rcases conTy_cases p.decls n with hcn | ⟨kk, hkk, hcn, hn1, hn2⟩
  · rw [show conRes p.decls n (tysL p vars ks) = -1 by unfold conRes; rw [if_neg (fun e => by omega)]]
    have CT := Lib.hid (HCT.out (-1) hcn)
    have g0 : w.heap.size < W0.heap.size := by omega
    have g1 : w.heap.size + 1 < W0.heap.size := by omega
    clear HCT hcn hz0
    go_enter Tryz.func31, Tryz.ntmps31
    go_wp2_with fail
    rw [← hW0]
    clear hW0
    go_quiet ((go_at_call 51; exact quiet_eq (CT.out _ (below_drewN (Below.refl _ _) _))))
    go_wp2_with fail
    go_ret
    exact ⟨rfl, HE.out _ (below_drewN (Below.refl _ _) _)⟩
  · obtain ⟨i, rfl⟩ : ∃ i : Nat, n = (cnt p.decls kk : Int) + (i : Int) := ⟨(n - cnt p.decls kk).toNat, by omega⟩
    have hi : i < (nthD p.decls kk).cons.length := by omega
    obtain ⟨F, hF⟩ : ∃ F, nthL (nthD p.decls kk).cons i = F := ⟨_, rfl⟩
    obtain ⟨n, hn⟩ : ∃ n, (cnt p.decls kk : Int) + (i : Int) = n := ⟨_, rfl⟩
    obtain ⟨b, hb⟩ : ∃ b, decide (tysL p vars ks = F) = b := ⟨_, rfl⟩
    have HSF := Lib.hid fun (W : World) (hB : Below W0.heap.size W0 W) => sFields_at (HDc.out W hB) (Nat.le_refl _) hto hkk hi hn hF
    have hR : conRes p.decls n (tysL p vars ks) = cond b ((kk : Int) + 1) (-1) := by
      subst hb
      unfold conRes
      rw [show flds p.decls n = F by rw [← hn, flds_con hkk hi, hF], show conTy p.decls n = (kk : Int) + 1 by rw [← hn]; exact hcn]
      by_cases h : tysL p vars ks = F
      · rw [if_pos ⟨by omega, h⟩, decide_eq_true h]; rfl
      · rw [if_neg (fun e => h e.2), decide_eq_false h]; rfl
    have CT := Lib.hid (HCT.out ((kk : Int) + 1) hcn)
    rw [hn] at CT hW0 HX E1 ⊢
    rw [hR]
    have CA : Hid (∀ (W : World) (u : Value), Below W0.heap.size W0 W → Ints W 0 W.heap.size u F → Calls Tryz.prog 52 #[.agg #[.slice B1 p.decls.length b1, .slice B2 p.funcs.length b2], .slice A3 vars.length c3, .slice A ks.length c, u] W fun x w' => x = .returned (.bool b) ∧ Below W.heap.size W w') := fun W u hB hi => by
      have := HCA.out W u F hB hi
      rw [allOf_is, hb] at this
      exact this
    have g0 : w.heap.size < W0.heap.size := by omega
    have g1 : w.heap.size + 1 < W0.heap.size := by omega
    have hp : decide ((kk : Int) + 1 > 0) = true := decide_eq_true (by omega)
    have hp2 : (0 : Int) < (kk : Int) + 1 := by omega
    clear HCT hcn hz0 hF hb HCA hR hn1 hn2 hi hn
    rcases b with _ | _
    all_goals (
      go_enter Tryz.func31, Tryz.ntmps31
      go_wp2_with fail
      rw [← hW0]
      clear hW0
      go_region_held3 (fun w' => w'.cell? ⟨w.heap.size, 0, none⟩ = some (.slice B1 p.decls.length b1) ∧ w'.cell? ⟨w.heap.size, 1, none⟩ = some (.slice B2 p.funcs.length b2) ∧ w'.cell? ⟨w.heap.size + 1, 0, none⟩ = some (.int .i64 6) ∧ w'.cell? ⟨w.heap.size + 1, 1, none⟩ = some (.int .i64 n) ∧ w'.cell? ⟨w.heap.size + 1, 2, none⟩ = some (.slice A ks.length c))
        (first | go_keep | (exact ⟨(hB4.cell (by first | assumption | (simp; assumption))).trans (by first | assumption | (simp; assumption)), (hB4.cell (by first | assumption | (simp; assumption))).trans (by first | assumption | (simp; assumption)), (hB4.cell (by first | assumption | (simp; assumption))).trans (by first | assumption | (simp; assumption)), (hB4.cell (by first | assumption | (simp; assumption))).trans (by first | assumption | (simp; assumption)), (hB4.cell (by first | assumption | (simp; assumption))).trans (by first | assumption | (simp; assumption))⟩) | (exact ⟨(hB3.cell (by first | assumption | (simp; assumption))).trans (by first | assumption | (simp; assumption)), (hB3.cell (by first | assumption | (simp; assumption))).trans (by first | assumption | (simp; assumption)), (hB3.cell (by first | assumption | (simp; assumption))).trans (by first | assumption | (simp; assumption)), (hB3.cell (by first | assumption | (simp; assumption))).trans (by first | assumption | (simp; assumption)), (hB3.cell (by first | assumption | (simp; assumption))).trans (by first | assumption | (simp; assumption))⟩))
        (first | (go_at_call 52; refine (CA.out _ _ hB3 hI3).mono ?_; rintro e w4 ⟨rfl, hB4'⟩; have hB4 := hB3.trans (hB4'.mono hB3.size)) | (go_at_call 53; refine (HSF.out _ (Below.refl _ _).drew).mono ?_; rintro e w3 ⟨u3, rfl, hB3', hI3⟩; have hB3 := (Below.refl W0.heap.size W0).drew.trans (hB3'.mono (Nat.le_refl _))) | (go_at_call 51; refine (CT.out _ (Below.refl _ _).drew).mono ?_; rintro e w2 ⟨rfl, rfl⟩))
      have HB4 := Lib.hid hB4
      obtain ⟨⟨Q0, Q1⟩, ⟨F0, F1, F2⟩⟩ := HX.out _ hB4
      have CT2 := Lib.hid (CT.out _ hB4)
      clear hB3 hB3' hB4 hB4' hI3 P0 P1 E0 E1 E2
      go_wp2_with ((go_at_call 51; refine CT2.out.mono ?_; rintro e w9 ⟨rfl, rfl⟩))
      go_ret
      exact ⟨rfl, HE.out _ HB4.out⟩)
end Go.Proofs.YtihmkaodjpgikaaGreat

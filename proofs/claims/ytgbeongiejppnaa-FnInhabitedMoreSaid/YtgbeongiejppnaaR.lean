/- Contracts of the generator's reader. -/
import Derived.Test.YtgbeongiejppnaaGa
import Derived.Laws.BitsAllLaws
import Derived.Laws.BitsLemmas
namespace Go.Proofs.Ytgbeongiejppnaa
open Go.RowKit Go.BigFrame
/-- The bytes that the reader was made of: some of the code's. -/
def Bytes (w : World) (U : Nat) (A : Option Addr) (n : Nat) : Prop := 0 < n → ∃ b o, A = some ⟨b, o, none⟩ ∧ b < U ∧ ∀ i, i < n → ∃ u : Nat, u ≤ 255 ∧ w.cell? ⟨b, o + i, none⟩ = some (.int .u8 (u : Int))
/-- The reader at block g has been asked p times. -/
structure Rd (w : World) (g p : Nat) : Prop where
  made : ∃ A n c, n ≤ 2000 ∧ n ≤ c ∧ w.heap[g]? = some (.cells #[.slice A n c, .int .i64 p] 91 (0, 0)) ∧ Bytes w g A n
theorem Rd.lt {w : World} {g p : Nat} (h : Rd w g p) : g < w.heap.size := by
  obtain ⟨A, n, c, _, _, hh, _⟩ := h.made
  exact (Array.getElem?_eq_some_iff.1 hh).1
theorem Rd.keep {w w' : World} {g p : Nat} (h : Rd w g p) (s : ∀ k, k ≤ g → w'.heap[k]? = w.heap[k]?) : Rd w' g p := by
  obtain ⟨A, n, c, h1, h2, hh, hb⟩ := h.made
  refine ⟨A, n, c, h1, h2, (s g (Nat.le_refl _)).trans hh, fun hn => ?_⟩
  obtain ⟨b, o, e, hl, hc⟩ := hb hn
  refine ⟨b, o, e, hl, fun i hi => ?_⟩
  obtain ⟨u, hu, hx⟩ := hc i hi
  exact ⟨u, hu, (World.cell?_of_block (w := w) (s b (by omega))).trans hx⟩
theorem Rd.step {w : World} {g p : Nat} (h : Rd w g p) (q : Nat) : Rd (w.setCell ⟨g, 1, none⟩ (.int .i64 q)) g q := by
  obtain ⟨A, n, c, h1, h2, hh, hb⟩ := h.made
  refine ⟨A, n, c, h1, h2, ?_, fun hn => ?_⟩
  · simp [World.setCell, Array.getElem?_modify, hh]
  · obtain ⟨b, o, e, hl, hc⟩ := hb hn
    refine ⟨b, o, e, hl, fun i hi => ?_⟩
    obtain ⟨u, hu, hx⟩ := hc i hi
    exact ⟨u, hu, (World.cell?_setCell_other w _ _ _ (by intro e; injection e; omega)).trans hx⟩
theorem only_setCell {w : World} {g i : Nat} (u : Value) : w.grownBy (w.setCell ⟨g, i, none⟩ u) (some g) :=
  ⟨rfl, rfl, rfl, by simp, fun k _ hk => Below.heap_setCell w _ _ _ (fun e => hk (by simp [e]))⟩
theorem only_drewN {a w : World} {row : Option Nat} (h : a.grownBy w row) (n : Nat) : a.grownBy (w.drewN n) row := ⟨h.os, h.tape, h.output, h.size, h.block⟩
theorem ofInt_nat (a : Nat) (ha : a < 9223372036854775808) : (BitVec.ofInt 64 (a : Int)).toNat = a := by
  rw [BitVec.ofInt_natCast, BitVec.toNat_ofNat]; exact Nat.mod_eq_of_lt (by omega)
theorem xor_nat (a b : Nat) (ha : a < 9223372036854775808) (hb : b < 9223372036854775808) : ∃ k : Nat, k < 9223372036854775808 ∧ bits .xor .i64 (a : Int) (b : Int) = (k : Int) := by
  have hx : a ^^^ b < 2 ^ 63 := Nat.xor_lt_two_pow (by omega) (by omega)
  refine ⟨a ^^^ b, by omega, ?_⟩
  show IntKind.i64.wrap ((BitVec.ofInt 64 (a : Int) ^^^ BitVec.ofInt 64 (b : Int)).toNat : Int) = _
  rw [BitVec.toNat_xor, ofInt_nat a ha, ofInt_nat b hb, IntKind.wrap_i64]
  omega
theorem mod_pick (a : Int) (_ha : 0 ≤ a) (m : Int) (hm : 1 ≤ m) : ∃ x : Nat, (x : Int) = a % m ∧ (x : Int) < m := by
  have h1 := Int.emod_nonneg a (show m ≠ 0 by omega)
  have h2 := Int.emod_lt_of_pos a (show 0 < m by omega)
  exact ⟨(a % m).toNat, by omega, by omega⟩
/-- A number that was picked. -/
def Picked (m : Int) (w : World) (g p : Nat) (e : Ending) (w' : World) : Prop := ∃ x : Nat, e = .returned (.int .i64 x) ∧ (m < 1 → x = 0) ∧ (1 ≤ m → (x : Int) < m) ∧ Rd w' g (p + 1) ∧ w.grownBy w' (some g)
set_option maxHeartbeats 400000 in
theorem pick_any (m : Int) (g p : Nat) (w : World) (hr : Rd w g p) (hp : p ≤ 1000000) :
    Calls Try.prog 44 #[.pointer (some ⟨g, 0, none⟩), .int .i64 m] w (Picked m w g p) := by
  have hr' := hr.step (p + 1)
  rw [show ((p + 1 : Nat) : Int) = (p : Int) + 1 by omega] at hr'
  obtain ⟨A, n, c, hn, hnc, hh, hb⟩ := hr.made
  have c0 : w.cell? ⟨g, 0, none⟩ = some (.slice A n c) := by simp [World.cell?, hh]
  have c1 : w.cell? ⟨g, 1, none⟩ = some (.int .i64 p) := by simp [World.cell?, hh]
  have f1 : w.frozen? ⟨g, 1, none⟩ = false := by simp [World.frozen?, hh]
  have hg : (⟨g, 0, none⟩ : Addr) ≠ ⟨g, 1, none⟩ := by simp
  have Hr := Lib.hid hr'
  clear hr hr' hh
  by_cases hm : m < 1
  · go_enter Try.func44, Try.ntmps44
    go_wp2_with fail
    go_ret
    exact ⟨0, rfl, fun _ => rfl, fun h => by omega, Hr.out, only_setCell _⟩
  · by_cases hz : n = 0
    · have hzb : ((n : Int) == 0) = true := by simp [hz]
      clear hz hb
      go_enter Try.func44, Try.ntmps44
      go_wp2_with fail
      go_ret
      exact ⟨0, rfl, fun _ => rfl, fun h => by show (0 : Int) < m; omega, Hr.out, only_setCell _⟩
    · have hzb : ((n : Int) == 0) = false := by simp [hz]
      obtain ⟨b, o, rfl, hl, hc⟩ := hb (by omega)
      by_cases hk : p < n
      · obtain ⟨u, hu, hx⟩ := hc p hk
        have hne : (⟨b, o + p, none⟩ : Addr) ≠ ⟨g, 1, none⟩ := by intro e; injection e; omega
        have hne' : (⟨g, 1, none⟩ : Addr) ≠ ⟨b, o + p, none⟩ := fun e => hne e.symm
        clear hc hz
        go_enter Try.func44, Try.ntmps44
        go_wp2_with fail
        go_ret
        obtain ⟨x, e1, e2⟩ := mod_pick (u : Int) (by omega) m (by omega)
        exact ⟨x, by rw [e1]; rfl, fun h => by omega, fun _ => e2, Hr.out, only_setCell _⟩
      · obtain ⟨i1, hi1⟩ : ∃ i : Nat, p % n = i := ⟨_, rfl⟩
        obtain ⟨i2, hi2⟩ : ∃ i : Nat, (p * 7 + 3) % n = i := ⟨_, rfl⟩
        have hi1n : i1 < n := by rw [← hi1]; exact Nat.mod_lt _ (by omega)
        have hi2n : i2 < n := by rw [← hi2]; exact Nat.mod_lt _ (by omega)
        obtain ⟨q, hq⟩ : ∃ q : Nat, p / n = q := ⟨_, rfl⟩
        have hd : q ≤ 1000000 := by rw [← hq]; exact Nat.le_trans (Nat.div_le_self _ _) hp
        obtain ⟨u1, hu1, hx1⟩ := hc i1 hi1n
        obtain ⟨u2, hu2, hx2⟩ := hc i2 hi2n
        have hne1 : (⟨b, o + i1, none⟩ : Addr) ≠ ⟨g, 1, none⟩ := by intro e; injection e; omega
        have hne1' : (⟨g, 1, none⟩ : Addr) ≠ ⟨b, o + i1, none⟩ := fun e => hne1 e.symm
        have hne2 : (⟨b, o + i2, none⟩ : Addr) ≠ ⟨g, 1, none⟩ := by intro e; injection e; omega
        have hne2' : (⟨g, 1, none⟩ : Addr) ≠ ⟨b, o + i2, none⟩ := fun e => hne2 e.symm
        have t1 : ((p : Int).tmod (n : Int)) = (i1 : Int) := by rw [← hi1]; rfl
        have t2 : (((p : Int) * 7 + 3).tmod (n : Int)) = (i2 : Int) := by rw [← hi2]; rfl
        have t6 : (p : Int) / (n : Int) = (q : Int) := by rw [← hq]; rfl
        have t4 : (p : Int) % (n : Int) = (i1 : Int) := by rw [← hi1]; rfl
        have t5 : ((p : Int) * 7 + 3) % (n : Int) = (i2 : Int) := by rw [← hi2]; rfl
        clear hc hz hi1 hi2 hq
        go_enter Try.func44, Try.ntmps44
        go_wp2_with fail
        go_quiet (fail)
        clear t1 t2 t4 t5 t6
        obtain ⟨x0, hx0⟩ : ∃ x0 : Nat, (u1 : Int) * 131 + (u2 : Int) * 1117 + (p : Int) * 29 + (q : Int) * 53 = x0 := ⟨u1 * 131 + u2 * 1117 + p * 29 + q * 53, by omega⟩
        have hxl : x0 ≤ 1000000000 := by omega
        rw [hx0]
        clear hx0
        obtain ⟨y, hy, hy2⟩ := xor_nat x0 (x0 / 64) (by omega) (by omega)
        rw [show ((x0 / 64 : Nat) : Int) = (x0 : Int) / 64 from rfl] at hy2
        go_wp2_with fail
        go_ret
        obtain ⟨x, e1, e2⟩ := mod_pick (y : Int) (by omega) m (by omega)
        exact ⟨x, by rw [e1]; rfl, fun h => by omega, fun _ => e2, Hr.out.keep (fun _ _ => rfl), only_drewN (only_setCell _) _⟩
end Go.Proofs.Ytgbeongiejppnaa

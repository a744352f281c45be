/- Contracts of chapter 1: the functions that are called from outside. -/
import Derived.Test.YtdooageiopnhaabE
namespace Go.Proofs.Ytdooageiopnhaab
open Go.RowKit
/-- The place of a constructor's fields, step by step. -/
theorem con_place {w : World} {L U : Nat} {ds : List Dec} {A : Option Addr} {n d : Nat} {c : Int} {k : Nat} (hv : Decs w L U (.slice A n d) ds) (hk : k < ds.length) (h : conTy ds c = (k : Int) + 1) (h1 : (cnt ds k : Int) ≤ c) (h2 : c < (cnt ds k : Int) + ((nthD ds k).cons.length : Int)) :
    ∃ b o b2 o2 i c' u, A = some ⟨b, o, none⟩ ∧ b < U ∧ b2 < U ∧ c - (cnt ds k : Int) = (i : Nat) ∧ i < (nthD ds k).cons.length ∧ w.cell? ⟨b, o + k * 3 + 2, none⟩ = some (.slice (some ⟨b2, o2, none⟩) (nthD ds k).cons.length c') ∧ w.cell? ⟨b2, o2 + i, none⟩ = some u ∧ Ints w L U u (flds ds c) := by
  obtain ⟨b, o, A', c', rfl, _, hb2, hc0, hc1, hc2, hu⟩ := hv.at_ hk
  obtain ⟨i, hi⟩ : ∃ i : Nat, c - (cnt ds k : Int) = i := ⟨(c - (cnt ds k : Int)).toNat, by omega⟩
  obtain ⟨b2, o2, A2, c2, rfl, _, hb3, hc4, hu2⟩ := hu.at_ (k := i) (by omega)
  refine ⟨b, o, b2, o2, i, c', _, rfl, hb2, hb3, hi, by omega, hc2, hc4, ?_⟩
  rw [flds_at h, hi, Int.toNat_natCast, nthL_of (by omega)]
  exact hu2
set_option maxHeartbeats 400000 in
theorem fieldsOfCon_any (c : Int) (L U : Nat) (ds : List Dec) (v : Value) (w : World) (hv : Decs w L U v ds) (hU : U ≤ w.heap.size) (hb : cnt ds ds.length ≤ 4611686018427387904) (hc : 0 ≤ conTy ds c) :
    Calls Try.prog 121 #[v, .int .i64 c] w fun e w' => ∃ u, e = .returned u ∧ Below w.heap.size w w' ∧ Ints w' L U u (flds ds c) := by
  obtain ⟨B, d, rfl, hl, hd⟩ := hv.open_
  rcases conTy_cases ds c with h | ⟨k, hk, h, h1, h2⟩
  · omega
  have C := typeOfCon_any c L U ds _ w hv hU hb
  rw [h] at C
  have HC := Lib.hid C
  have HT := Lib.hid h
  have n1 : (cnt ds k : Int) ≤ 4611686018427387904 := by have := cnt_mono ds (i := k) (j := ds.length) (by omega); omega
  have n2 : ((nthD ds k).cons.length : Int) ≤ 4611686018427387904 := by have := cnt_mono ds (i := k + 1) (j := ds.length) (by omega); have := cnt_succ hk; omega
  clear C h
  go_enter Try.func121, Try.ntmps121
  go_wp2_with fail
  refine HC.out.mono ?_
  rintro e w1 ⟨rfl, hB1⟩
  have hz := hB1.size
  have hv1 := hv.keep (Same.of_below hB1 hU)
  obtain ⟨b, o, b2, o2, i, c', u, rfl, hb1, hb2, hi, hil, e1, e2, hu⟩ := con_place hv1 hk HT.out h1 h2
  have Hv := Lib.hid (hv1.keep (same_drew L U w1))
  have Hu := Lib.hid hu
  have i2 : (0 : Int) ≤ (k : Int) := by omega
  have i3 : (k : Int) < (ds.length : Int) := by omega
  have i4 : (0 : Int) ≤ (i : Int) := by omega
  have i5 : (i : Int) < ((nthD ds k).cons.length : Int) := by omega
  have s3 : IntKind.i64.wrap (k : Int) = (k : Int) := IntWalk.i64_in _ (by omega)
  have s1 : IntKind.i64.wrap ((k : Int) + 1 - 1) = (k : Int) := by rw [IntWalk.i64_in _ (by omega)]; omega
  have s2 : IntKind.i64.wrap (c - (cnt ds k : Int)) = (i : Int) := by rw [IntWalk.i64_in _ (by omega)]; omega
  have g1 : b < w1.heap.size := by omega
  have g2 : b2 < w1.heap.size := by omega
  have g3 : U ≤ w1.heap.size := by omega
  clear hu hv hv1 h1 h2 hi
  go_wp2_with fail
  go_region_held3 (fun w' => w'.cell? ⟨b, o + k * 3 + 2, none⟩ = some (.slice (some ⟨b2, o2, none⟩) (nthD ds k).cons.length c') ∧ w'.cell? ⟨b2, o2 + i, none⟩ = some u)
    (first | go_keep | (exact ⟨(hB.cell (by simp; assumption)).trans (by simp; assumption), (hB.cell (by simp; assumption)).trans (by simp; assumption)⟩))
    (first | (go_at_call 123; refine (firstCon_any _ _ _ _ _ _ Hv.out (by simp; assumption) hk hb).mono ?_; rintro e w' ⟨rfl, hB⟩))
  go_wp2_with fail
  go_ret
  have hB3 : Below w1.heap.size w1 w' := (Below.refl _ w1).drew.trans (hB.mono (by simp))
  exact ⟨_, rfl, hB1.trans (hB3.mono hz), Hu.out.keep (Same.of_below hB3 g3)⟩
set_option maxHeartbeats 400000 in
theorem conFields_any (c : Int) (L U : Nat) (ds : List Dec) (v : Value) (w : World) (hv : Decs w L U v ds) (hb : cnt ds ds.length ≤ 4611686018427387904) (hc : 0 ≤ conTy ds c) :
    Calls Try.prog 83 #[v, .int .i64 c] w fun e w' => ∃ u, e = .returned u ∧ Below w.heap.size w w' ∧ Ints w' L U u (flds ds c) := by
  obtain ⟨B, d, rfl, hl, hd⟩ := hv.open_
  rcases conTy_cases ds c with h | ⟨k, hk, h, h1, h2⟩
  · omega
  have C := conType_any c L U ds _ w hv hb
  rw [h] at C
  have HC := Lib.hid C
  have HT := Lib.hid h
  have n1 : (cnt ds k : Int) ≤ 4611686018427387904 := by have := cnt_mono ds (i := k) (j := ds.length) (by omega); omega
  have n2 : ((nthD ds k).cons.length : Int) ≤ 4611686018427387904 := by have := cnt_mono ds (i := k + 1) (j := ds.length) (by omega); have := cnt_succ hk; omega
  clear C h
  go_enter Try.func83, Try.ntmps83
  go_wp2_with fail
  refine HC.out.mono ?_
  rintro e w1 ⟨rfl, rfl⟩
  obtain ⟨b, o, b2, o2, i, c', u, rfl, hb1, hb2, hi, hil, e1, e2, hu⟩ := con_place hv hk HT.out h1 h2
  have Hv := Lib.hid fun n => hv.keep (same_drewN L U w n)
  have Hu := Lib.hid hu
  have i2 : (0 : Int) ≤ (k : Int) := by omega
  have i3 : (k : Int) < (ds.length : Int) := by omega
  have i4 : (0 : Int) ≤ (i : Int) := by omega
  have i5 : (i : Int) < ((nthD ds k).cons.length : Int) := by omega
  have hkl : k ≤ ds.length := by omega
  have s3 : IntKind.i64.wrap (k : Int) = (k : Int) := IntWalk.i64_in _ (by omega)
  have s1 : IntKind.i64.wrap ((k : Int) + 1 - 1) = (k : Int) := by rw [IntWalk.i64_in _ (by omega)]; omega
  have s2 : IntKind.i64.wrap (c - (cnt ds k : Int)) = (i : Int) := by rw [IntWalk.i64_in _ (by omega)]; omega
  clear hu hv h1 h2 hi
  go_wp2_with fail
  go_quiet ((go_at_call 104; exact quiet_eq (sFirstCon_any _ _ _ _ _ _ (Hv.out _) hkl hb)))
  go_wp2_with fail
  go_ret
  exact ⟨_, rfl, below_drewN (Below.refl _ _) _, Hu.out.keep (same_drewN _ _ _ _)⟩
end Go.Proofs.Ytdooageiopnhaab

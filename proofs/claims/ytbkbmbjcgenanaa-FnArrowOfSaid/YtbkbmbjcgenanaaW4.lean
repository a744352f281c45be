/- Membership and equality of lists as the laws ask them; the walk of the law FnConType. -/
import Derived.Test.YtbkbmbjcgenanaaW2
import Derived.Test.YtbkbmbjcgenanaaK
namespace Go.Proofs.Ytbkbmbjcgenanaa
open Go.RowKit Go.BigFrame
def hasI (xs : List Int) (n : Int) : Bool := xs.any fun x => decide (x = n)
set_option maxHeartbeats 400000 in
theorem isIn_any (L U : Nat) (xs : List Int) (v : Value) (n : Int) (w : World) (hv : Ints w L U v xs) :
    Calls Try.prog 31 #[v, .int .i64 n] w fun e w' => e = .returned (.bool (hasI xs n)) ∧ w = w' := by
  obtain ⟨B, d, rfl, hl, hd⟩ := hv.open_
  go_enter Try.func31, Try.ntmps31
  go_wp2_with fail
  go_loop [5] (fun i => ∃ k : Nat, k ≤ xs.length ∧ i = .int .i64 k ∧ Hid ((xs.take k).any (fun x => decide (x = n)) = false)) (fun i => xs.length - (intOf i).toNat)
  case atStart => exact ⟨0, by omega, rfl, by simp [Hid]⟩
  case round =>
    obtain ⟨k, hk, rfl, H⟩ := hrel
    by_cases hlt : k < xs.length
    · obtain ⟨b, o, rfl, _, _, hc⟩ := hv.at_ hlt
      by_cases he : xs[k] = n
      · have heb : (xs[k] == n) = true := by simp [he]
        have He := Lib.hid he
        clear he
        go_wp2_with fail
        go_ret
        exact ⟨ret_bool (any_stop hlt (decide_eq_true He.out)).symm, rfl⟩
      · have heb : (xs[k] == n) = false := by simp [he]
        have He := Lib.hid he
        clear he
        go_wp2_with fail
        exact ⟨⟨k + 1, by omega, by go_num, any_step H hlt (decide_eq_false He.out)⟩, by simp [intOf]; omega⟩
    · go_wp2_with fail
      go_ret
      exact ⟨ret_bool (any_done H hlt).symm, rfl⟩
theorem isIn_is (b : Bool) (L U : Nat) (xs : List Int) (v : Value) (n : Int) (w : World) (hv : Ints w L U v xs) (h : hasI xs n = b) :
    Calls Try.prog 31 #[v, .int .i64 n] w fun e w' => e = .returned (.bool b) ∧ w = w' := by
  subst h; exact isIn_any L U xs v n w hv
theorem has_consAt (ds : List Dec) (k : Nat) (c : Int) : hasI (consAt ds k) c = (decide ((cnt ds k : Int) ≤ c) && decide (c < (cnt ds k : Int) + ((nthD ds k).cons.length : Int))) := by
  rw [Bool.eq_iff_iff]
  unfold hasI consAt
  simp only [List.any_map, List.any_eq_true, List.mem_range, Function.comp, decide_eq_true_eq, Bool.and_eq_true]
  constructor
  · rintro ⟨i, hi, e⟩; omega
  · rintro ⟨h1, h2⟩; exact ⟨(c - cnt ds k).toNat, by omega, by omega⟩
theorem type_facts {ds : List Dec} {y t : Int} (ht : conTypeV ds y = t) (h0 : ¬ t < 0) : 1 ≤ t ∧ 0 ≤ y ∧ y < conCountV ds ∧ ∀ s : Nat, s ≤ ds.length → hasI (consOfV ds (s : Int)) y = ((s : Int) == t) := by
  unfold conTypeV at ht
  by_cases hb : typesOk ds = true
  · rw [if_pos hb] at ht
    rcases conTy_cases ds y with h | ⟨k, hk, h, h1, h2⟩
    · omega
    · have hs := cnt_succ hk
      have hm := cnt_mono ds (i := k + 1) (j := ds.length) (by omega)
      refine ⟨by omega, by omega, ?_, fun s hs' => ?_⟩
      · unfold conCountV; rw [if_pos hb]; omega
      · unfold consOfV
        by_cases hz : s = 0
        · subst hz
          rw [if_neg (by omega)]
          have : ((0 : Nat) : Int) ≠ t := by omega
          show false = _
          rw [eq_comm, beq_eq_false_iff_ne]; exact this
        · rw [if_pos ⟨hb, by omega, by omega⟩, has_consAt, show ((s : Int) - 1).toNat = s - 1 by omega]
          by_cases he : (s : Int) = t
          · have : s - 1 = k := by omega
            rw [this, decide_eq_true h1, decide_eq_true h2, he]
            simp
          · have hne : ((s : Int) == t) = false := by rw [beq_eq_false_iff_ne]; exact he
            rw [hne]
            by_cases a1 : (cnt ds (s - 1) : Int) ≤ y
            · by_cases a2 : y < (cnt ds (s - 1) : Int) + ((nthD ds (s - 1)).cons.length : Int)
              · exfalso
                have := cnt_succ (ds := ds) (k := s - 1) (by omega)
                have := conTy_in (ds := ds) (c := y) (m := s - 1) (by omega) a1 (by omega)
                omega
              · rw [decide_eq_false a2, Bool.and_false]
            · rw [decide_eq_false a1]; rfl
  · rw [if_neg hb] at ht; omega
set_option maxHeartbeats 800000 in
theorem fnConType_walk (A : Option Addr) (n c : Nat) (w : World) (h : Code_ w A n c) :
    Calls Try.prog 6 #[.slice A n c] w fun e w' => e = .returned (.bool true) ∧ Below w.heap.size w w' := by
  by_cases hbig : 1048576 < n
  · go_enter Try.func6, Try.ntmps6
    go_wp2_with fail
    go_ret
    exact ⟨rfl, Below.refl _ _⟩
  · have Hc := Lib.hid h
    clear h
    go_enter Try.func6, Try.ntmps6
    go_wp2_with fail
    refine (drawConType A n c w Hc.out).mono ?_
    rintro e w1 ⟨v, ds, y, rfl, hl, hy1, hy2, hd, hB1⟩
    obtain ⟨B, cc, rfl, hlc, hcc⟩ := hd.open_
    go_wp2_with fail
    refine (conTypeTop y _ _ _ _ w1 hd (Nat.le_refl _)).mono ?_
    rintro e w2 ⟨rfl, hB2⟩
    have hd2 := hd.keep (Same.of_below hB2 (Nat.le_refl _))
    have hU2 := hB2.size
    obtain ⟨t, ht⟩ : ∃ t, conTypeV ds y = t := ⟨_, rfl⟩
    rw [ht]
    have Ht := Lib.hid ht
    clear ht hd
    go_wp2_with fail
    refine (sConTypeTop y _ _ _ _ w2 hd2 hU2).mono ?_
    rintro e w3 ⟨rfl, hB3⟩
    have hd3 := hd2.keep (Same.of_below hB3 hU2)
    have hU3 := Nat.le_trans hU2 hB3.size
    rw [Ht.out]
    clear hd2
    have hW : Below w.heap.size w w3 := hB1.trans ((hB2.mono hB1.size).trans (hB3.mono (Nat.le_trans hB1.size hU2)))
    have hW3 := hW.size
    clear hB1 hB2 hB3
    by_cases ht0 : t < 0
    · go_wp2_with fail
      refine (sConTypeTop y _ _ _ _ w3 hd3 hU3).mono ?_
      rintro e w4 ⟨rfl, hB4⟩
      rw [Ht.out]
      go_wp2_with fail
      go_ret
      exact ⟨ret_bool (by simp), hW.trans (hB4.mono hW3)⟩
    · obtain ⟨f1, f2, f3, f4⟩ := type_facts Ht.out ht0
      have H4 := Lib.hid f4
      clear f4
      go_wp2_with fail
      go_loopw [6] (fun i wr => ∃ s : Nat, s ≤ ds.length + 1 ∧ i = .int .i64 s ∧ Below w3.heap.size w3 wr) (fun i _ => ds.length + 1 - (intOf i).toNat)
      case atStart => exact ⟨0, by omega, rfl, Below.refl _ _⟩
      case round =>
        obtain ⟨s, hs, rfl, hB⟩ := hrel
        have hz := hB.size
        by_cases hlt : s ≤ ds.length
        · have hdr := hd3.keep (Same.of_below hB hU3)
          have hUr : w1.heap.size ≤ wr.heap.size := by omega
          have HS := Lib.hid (H4.out s hlt)
          go_wp2_with fail
          refine (consOfTop _ _ _ _ _ wr hdr hUr).mono ?_
          rintro e wx ⟨u, rfl, hBx, hx⟩
          obtain ⟨X, xc, rfl, _, _⟩ := hx.open_
          clear hdr
          go_wp2_with fail
          refine (isIn_is _ _ _ _ _ _ wx hx HS.out).mono ?_
          rintro e wy ⟨rfl, rfl⟩
          clear hx
          go_wp2_with fail
          go_roundw
          case rel => exact ⟨s + 1, by omega, by go_num, hB.trans (hBx.mono hz)⟩
          case measure => simp [intOf]; omega
        · have hdr := hd3.keep (Same.of_below hB hU3)
          have hUr : w1.heap.size ≤ wr.heap.size := by omega
          go_wp2_with fail
          refine (conCountTop _ _ _ _ wr hdr hUr).mono ?_
          rintro e wx ⟨rfl, hBx⟩
          go_wp2_with fail
          go_ret
          exact ⟨ret_bool (by simp), hW.trans ((hB.mono hW3).trans (hBx.mono (Nat.le_trans hW3 hz)))⟩
end Go.Proofs.Ytbkbmbjcgenanaa

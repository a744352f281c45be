/- The draw for ConCount; the walk of the law FnConCount. -/
import Derived.Test.YtbkbmbjcgenanaaL
import Derived.Test.YtbkbmbjcgenanaaK
namespace Go.Proofs.Ytbkbmbjcgenanaa
open Go.RowKit Go.BigFrame
set_option maxHeartbeats 400000 in
theorem drawConCount (A : Option Addr) (n c : Nat) (w : World) (h : Code_ w A n c) :
    Calls Try.prog 24 #[.slice A n c] w (Drew w) := by
  go_enter Try.func24, Try.ntmps24
  go_wp2_with fail
  refine (newReader_any A n c w.heap.size w h.1 h.2.1 h.2.2 (Nat.le_refl _)).mono ?_
  rintro e w1 ⟨g, rfl, hr, hB, hg⟩
  go_wp2_with fail
  refine (anyDecls_any g 0 w1 hr (by omega)).mono ?_
  rintro e w2 ⟨v, ds, rfl, hl, hd, _, ho⟩
  have hz := hB.size
  have hf : Drew w (.returned v) w2 := ⟨v, ds, rfl, hl, hd.wide hz (Nat.le_refl _), hB.grown ho hz (fun k e => by injection e; omega)⟩
  have HF := Lib.hid hf
  clear hf hd ho
  go_wp2_with fail
  go_ret
  exact HF.out
theorem count_facts {ds : List Dec} {m : Int} (hm : conCountV ds = m) (h0 : ¬ m < 0) : typesOk ds = true ∧ m = (cnt ds ds.length : Int) ∧ cnt ds ds.length ≤ 12 := by
  unfold conCountV at hm
  by_cases hb : typesOk ds = true
  · rw [if_pos hb] at hm; exact ⟨hb, hm.symm, cnt_twelve hb⟩
  · rw [if_neg hb] at hm; omega
theorem cons_len {ds : List Dec} (hb : typesOk ds = true) {t : Nat} (ht : t ≤ ds.length) : cnt ds (t - 1) + (consOfV ds (t : Int)).length = cnt ds t := by
  unfold consOfV
  by_cases h0 : t = 0
  · subst h0; rw [if_neg (by omega)]; rfl
  · rw [if_pos ⟨hb, by omega, by omega⟩, length_consAt, show ((t : Int) - 1).toNat = t - 1 by omega]
    have := cnt_succ (ds := ds) (k := t - 1) (by omega)
    rw [show t - 1 + 1 = t by omega] at this
    omega
set_option maxHeartbeats 800000 in
theorem fnConCount_walk (A : Option Addr) (n c : Nat) (w : World) (h : Code_ w A n c) :
    Calls Try.prog 5 #[.slice A n c] w fun e w' => e = .returned (.bool true) ∧ Below w.heap.size w w' := by
  by_cases hbig : 1048576 < n
  · go_enter Try.func5, Try.ntmps5
    go_wp2_with fail
    go_ret
    exact ⟨rfl, Below.refl _ _⟩
  · have Hc := Lib.hid h
    clear h
    go_enter Try.func5, Try.ntmps5
    go_wp2_with fail
    refine (drawConCount A n c w Hc.out).mono ?_
    rintro e w1 ⟨v, ds, rfl, hl, hd, hB1⟩
    obtain ⟨B, cc, rfl, hlc, hcc⟩ := hd.open_
    go_wp2_with fail
    refine (conCountTop _ _ _ _ w1 hd (Nat.le_refl _)).mono ?_
    rintro e w2 ⟨rfl, hB2⟩
    have hd2 := hd.keep (Same.of_below hB2 (Nat.le_refl _))
    have hU2 := hB2.size
    obtain ⟨m, hm⟩ : ∃ m, conCountV ds = m := ⟨_, rfl⟩
    rw [hm]
    have Hm := Lib.hid hm
    clear hm hd
    go_wp2_with fail
    refine (sConCountTop _ _ _ _ w2 hd2 hU2).mono ?_
    rintro e w3 ⟨rfl, hB3⟩
    have hd3 := hd2.keep (Same.of_below hB3 hU2)
    have hU3 := Nat.le_trans hU2 hB3.size
    rw [Hm.out]
    have hW : Below w.heap.size w w3 := hB1.trans ((hB2.mono hB1.size).trans (hB3.mono (Nat.le_trans hB1.size hU2)))
    have hW3 := hW.size
    clear hd2 hB1 hB2 hB3
    by_cases h0 : m < 0
    · go_wp2_with fail
      refine (sConCountTop _ _ _ _ w3 hd3 hU3).mono ?_
      rintro e w4 ⟨rfl, hB4⟩
      rw [Hm.out]
      go_wp2_with fail
      go_ret
      exact ⟨ret_bool (by simp), hW.trans (hB4.mono hW3)⟩
    · obtain ⟨f1, f2, f3⟩ := count_facts Hm.out h0
      have H1 := Lib.hid f1
      have H2 := Lib.hid f2
      clear f1 f2
      go_wp2_with fail
      go_loopw [5, 6] (fun s i wr => ∃ t : Nat, t ≤ ds.length + 1 ∧ i = .int .i64 t ∧ s = .int .i64 (cnt ds (t - 1)) ∧ Below w3.heap.size w3 wr) (fun _ i _ => ds.length + 1 - (intOf i).toNat)
      case atStart => exact ⟨0, by omega, rfl, by rw [Nat.zero_sub, cnt_zero]; rfl, Below.refl _ _⟩
      case round =>
        obtain ⟨t, ht, rfl, rfl, hB⟩ := hrel
        have hz := hB.size
        by_cases hlt : t ≤ ds.length
        · have hdr := hd3.keep (Same.of_below hB hU3)
          have hUr : w1.heap.size ≤ wr.heap.size := by omega
          have hlen := cons_len H1.out hlt
          have hmn := cnt_mono ds (i := t) (j := ds.length) hlt
          have b1 : cnt ds (t - 1) ≤ 12 := by omega
          have b2 : (consOfV ds (t : Int)).length ≤ 12 := by omega
          have HL := Lib.hid hlen
          clear hlen hmn
          go_wp2_with fail
          refine (consOfTop _ _ _ _ _ wr hdr hUr).mono ?_
          rintro e wx ⟨u, rfl, hBx, hx⟩
          obtain ⟨X, xc, rfl, _, _⟩ := hx.open_
          clear hx hdr
          go_wp2_with fail
          go_roundw
          case rel => exact ⟨t + 1, by omega, by go_num, by rw [show t + 1 - 1 = t by omega, ← HL.out]; go_num, hB.trans (hBx.mono hz)⟩
          case measure => simp [intOf]; omega
        · obtain rfl : t = ds.length + 1 := by omega
          have e1 : m = (cnt ds (ds.length + 1 - 1) : Int) := by rw [H2.out]; rfl
          have E1 := Lib.hid e1
          clear e1
          go_wp2_with fail
          go_ret
          exact ⟨ret_bool (by rw [E1.out]; simp), hW.trans (hB.mono hW3)⟩
end Go.Proofs.Ytbkbmbjcgenanaa

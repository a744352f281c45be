/- The walk of the law FnConFields. -/
import Derived.Test.YtmahamlfdegkkaaWd
import Derived.Test.YtmahamlfdegkkaaWe
import Derived.Test.YtmahamlfdegkkaaCf
namespace Go.Proofs.Ytmahamlfdegkkaa
open Go.RowKit Go.BigFrame
theorem drawConFields (A : Option Addr) (n c : Nat) (w : World) (h : Code_ w A n c) :
    Calls Try.prog 18 #[.slice A n c] w (DrewC w) := by
  go_enter Try.func18, Try.ntmps18
  go_wp2_with fail
  refine (drawConType A n c w h).mono ?_
  rintro e w1 ⟨v, ds, y, rfl, hr⟩
  have HF := Lib.hid (show DrewC w (.returned (.tuple #[v, .int .i64 y])) w1 from ⟨v, ds, y, rfl, hr⟩)
  obtain ⟨_, _, _, hd, _⟩ := hr
  obtain ⟨B, cc, rfl, _, _⟩ := hd.open_
  clear hd
  go_wp2_with fail
  go_ret2
  exact HF.out
theorem fields_facts {ds : List Dec} {y t : Int} (ht : conTypeV ds y = t) (h0 : ¬ t < 1) :
    ∃ k : Nat, k < ds.length ∧ t = (k : Int) + 1 ∧ conTy ds y = (k : Int) + 1 ∧ (cnt ds k : Int) ≤ y ∧ y < (cnt ds k : Int) + ((nthD ds k).cons.length : Int) ∧ cnt ds k ≤ 4611686018427387904 ∧ (nthD ds k).cons.length ≤ 4611686018427387904 ∧ conFieldsV ds y = flds ds y ∧ consOfV ds t = consAt ds k := by
  unfold conTypeV at ht
  by_cases hb : typesOk ds = true
  · rw [if_pos hb] at ht
    have h12 := cnt_twelve hb
    rcases conTy_cases ds y with h | ⟨k, hk, h, h1, h2⟩
    · omega
    · have hs := cnt_succ hk
      have hm := cnt_mono ds (i := k + 1) (j := ds.length) (by omega)
      refine ⟨k, hk, by omega, h, by omega, by omega, by omega, by omega, ?_, ?_⟩
      · unfold conFieldsV; rw [if_pos ⟨hb, by omega⟩]
      · unfold consOfV
        rw [if_pos ⟨hb, by omega, by omega⟩, show (t - 1).toNat = k by omega]
  · rw [if_neg hb] at ht; omega
theorem consOf_is7 (xs : List Int) (t : Int) (L U : Nat) (ds : List Dec) (v : Value) (w : World) (hv : Decs w L U v ds) (hU : U ≤ w.heap.size) (h : consOfV ds t = xs) :
    Calls Try.prog 23 #[v, .int .i64 t] w fun e w' => ∃ u, e = .returned u ∧ Below w.heap.size w w' ∧ Ints w' w.heap.size w'.heap.size u xs := by
  subst h; exact consOfTop t L U ds v w hv hU
set_option maxHeartbeats 800000 in
theorem fnConFields_walk (A : Option Addr) (n c : Nat) (w : World) (h : Code_ w A n c) :
    Calls Try.prog 5 #[.slice A n c] w fun e w' => e = .returned (.bool true) ∧ Below w.heap.size w w' := by
  by_cases hbig : 1048576 < n
  · go_enter Try.func5, Try.ntmps5
    go_wp2_with fail
    go_ret
    exact ⟨rfl, Below.refl _ _⟩
  · have Hc := Lib.hid h
    clear h
    go_enter Try.func5, Try.ntmps5
    go_wp2_with fail
    refine (drawConFields A n c w Hc.out).mono ?_
    rintro e w1 ⟨v, ds, y, rfl, hl, hy1, hy2, hd, hB1⟩
    obtain ⟨B, cc, rfl, hlc, hcc⟩ := hd.open_
    have hW1 := hB1.size
    go_wp2_with fail
    refine (conFieldsOwn y _ _ _ _ w1 hd (Nat.le_refl _)).mono ?_
    rintro e w2 ⟨u2, rfl, hB2, ho2⟩
    have hz2 := hB2.size
    have i2 := ho2.ints
    obtain ⟨A2, k2, rfl, _, _⟩ := i2.open_
    have D2 := Lib.hid (And.intro (hd.keep (Same.of_below hB2 (Nat.le_refl _))) i2)
    have W2 := hB1.trans (hB2.mono hW1)
    clear hd i2 ho2 hB2 hB1
    go_wp2_with fail
    refine (sConFieldsTop y _ _ _ _ w2 D2.out.1 hz2).mono ?_
    rintro e w3 ⟨u3, rfl, hB3, i3⟩
    have hz3 := hB3.size
    obtain ⟨A3, k3, rfl, _, _⟩ := i3.open_
    have D3 := Lib.hid (And.intro (D2.out.1.keep (Same.of_below hB3 hz2)) (And.intro (D2.out.2.keep (Same.of_below hB3 (Nat.le_refl _))) i3))
    have W3 := W2.trans (hB3.mono (by omega))
    clear D2 i3 hB3 W2
    go_wp2_with fail
    refine (equalInts_same _ _ _ _ _ _ _ w3 D3.out.2.1 D3.out.2.2).mono ?_
    rintro e w4 ⟨rfl, hB4⟩
    have hz4 := hB4.size
    have D4 := Lib.hid (And.intro (D3.out.1.keep (Same.of_below hB4 (by omega))) (D3.out.2.1.keep (Same.of_below hB4 (by omega))))
    have W4 := W3.trans (hB4.mono (by omega))
    clear D3 hB4 W3
    obtain ⟨t, ht⟩ : ∃ t, conTypeV ds y = t := ⟨_, rfl⟩
    have Ht := Lib.hid ht
    clear ht
    go_wp2_with fail
    refine (conTypeTop_is _ _ _ _ _ _ w4 D4.out.1 (by omega) Ht.out).mono ?_
    rintro e w5 ⟨rfl, hB5⟩
    have hz5 := hB5.size
    have D5 := Lib.hid (And.intro (D4.out.1.keep (Same.of_below hB5 (by omega))) (D4.out.2.keep (Same.of_below hB5 (by omega))))
    have W5 := W4.trans (hB5.mono (by omega))
    clear D4 hB5 W4
    by_cases ht0 : t < 1
    · go_wp2_with fail
      refine (sConFieldsTop y _ _ _ _ w5 D5.out.1 (by omega)).mono ?_
      rintro e w6 ⟨u6, rfl, hB6, i6⟩
      have hz6 := hB6.size
      obtain ⟨A6, k6, rfl, _, _⟩ := i6.open_
      have D6 := Lib.hid (And.intro (D5.out.2.keep (Same.of_below hB6 (by omega))) i6)
      have W6 := W5.trans (hB6.mono (by omega))
      clear i6 hB6 W5 D5
      go_wp2_with fail
      refine (equalInts_same _ _ _ _ _ _ _ w6 D6.out.1 D6.out.2).mono ?_
      rintro e w7 ⟨rfl, hB7⟩
      go_wp2_with fail
      go_ret
      exact ⟨rfl, W6.trans (hB7.mono (by omega))⟩
    · obtain ⟨k, hk, htk, hc, h1, h2, n1, n2, hF, hL⟩ := fields_facts Ht.out ht0
      have HL := Lib.hid hL
      have HK := Lib.hid (And.intro htk hc)
      have HF := Lib.hid hF
      have ht5 : t ≤ (ds.length : Int) := by omega
      clear hL hc hF htk
      go_wp2_with fail
      refine (conTypeTop_is _ _ _ _ _ _ w5 D5.out.1 (by omega) Ht.out).mono ?_
      rintro e w6 ⟨rfl, hB6⟩
      have hz6 := hB6.size
      have D6 := Lib.hid (And.intro (D5.out.1.keep (Same.of_below hB6 (by omega))) (D5.out.2.keep (Same.of_below hB6 (by omega))))
      have W6 := W5.trans (hB6.mono (by omega))
      clear D5 hB6 W5
      go_wp2_with fail
      refine (consOf_is7 _ _ _ _ _ _ w6 D6.out.1 (by omega) HL.out).mono ?_
      rintro e w7 ⟨u7, rfl, hB7, i7⟩
      have hz7 := hB7.size
      have D7 := Lib.hid (And.intro (D6.out.1.keep (Same.of_below hB7 (by omega))) (D6.out.2.keep (Same.of_below hB7 (by omega))))
      have W7 := W6.trans (hB7.mono (by omega))
      clear D6 hB7 W6
      obtain ⟨A7, k7, rfl, _, _⟩ := i7.open_
      have hn7 : 0 < (nthD ds k).cons.length := by omega
      have hlen7 := length_consAt ds k
      obtain ⟨b7, o7, rfl, _, hb7, e7⟩ := i7.at_ (k := 0) (by omega)
      have e7' : w7.cell? ⟨b7, o7, none⟩ = some (.int .i64 (cnt ds k : Int)) := by
        have := e7
        simp [consAt] at this
        exact this
      obtain ⟨b, o, b2, o2, i, c', u, rfl, hb1, hb2, hi, hil, e1, e2, hu⟩ := con_place D7.out.1 hk HK.out.2 h1 h2
      rw [← HF.out] at hu
      obtain ⟨m7, hm7⟩ : ∃ m, (consAt ds k).length = m := ⟨_, rfl⟩
      rw [hm7] at hlen7
      rw [hm7]
      have D8 := Lib.hid (And.intro ((D7.out.2).keep (same_drew _ _ w7)) (hu.keep (same_drew _ _ w7)))
      have j1 : (0 : Int) ≤ (k : Int) := by omega
      have j2 : (k : Int) < (ds.length : Int) := by omega
      have j3 : (0 : Int) ≤ (i : Int) := by omega
      have j4 : (i : Int) < ((nthD ds k).cons.length : Int) := by omega
      have htk := HK.out.1
      have j6 : 0 < (m7 : Int) := by omega
      have j7 : 0 < m7 := by omega
      have s1 : IntKind.i64.wrap (t - 1) = (k : Int) := by rw [IntWalk.i64_in _ (by omega)]; omega
      have s2 : IntKind.i64.wrap (y - (cnt ds k : Int)) = (i : Int) := by rw [IntWalk.i64_in _ (by omega)]; omega
      have g1 : b < w7.heap.size := by omega
      have g2 : b2 < w7.heap.size := by omega
      have g3 : b7 < w7.heap.size := by omega
      clear hu i7 e7 h2 hi htk hlen7 hm7
      go_wp2_with fail
      go_region_held3 (fun w' => w'.cell? ⟨b7, o7, none⟩ = some (.int .i64 (cnt ds k : Int)) ∧ w'.cell? ⟨b, o + k * 3 + 2, none⟩ = some (.slice (some ⟨b2, o2, none⟩) (nthD ds k).cons.length c') ∧ w'.cell? ⟨b2, o2 + i, none⟩ = some u)
        (first | go_keep | (exact ⟨(hB.cell (by simp; assumption)).trans (by simp; assumption), (hB.cell (by simp; assumption)).trans (by simp; assumption), (hB.cell (by simp; assumption)).trans (by simp; assumption)⟩))
        (first | (go_at_call 20; refine (equalInts_same _ _ _ _ _ _ _ _ D8.out.1 D8.out.2).mono ?_; rintro e w' ⟨rfl, hB⟩))
      go_wp2_with fail
      go_ret
      have hB8 : Below w7.heap.size w7 w' := (Below.refl _ w7).drew.trans (hB.mono (by simp))
      exact ⟨rfl, W7.trans (hB8.mono (by omega))⟩
end Go.Proofs.Ytmahamlfdegkkaa

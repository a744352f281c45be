/- Contracts of chapter 2: the functions that a function names, from outside. -/
import Derived.Test.YthbingbbimikhaaPv5
import Derived.Test.YthbingbbimikhaaPn1
import Derived.Test.YthbingbbimikhaaPn2
namespace Go.Proofs.Ythbingbbimikhaa
open Go.RowKit Go.BigFrame
theorem asc_empty : Asc [] := fun _ _ _ h => absurd h (by simp)
/-- The functions that a function names. -/
def calV (p : Pg) (f : Int) : List Int := if progOk p = true ∧ hasF p f = true then (fnAt p f).body.nam [] else []
theorem calV_no {p : Pg} {f : Int} (h : progOk p = false ∨ hasF p f = false) : calV p f = [] := by
  unfold calV
  rw [if_neg]
  rintro ⟨h1, h2⟩
  rcases h with h | h
  · rw [h] at h1; cases h1
  · rw [h] at h2; cases h2
theorem calV_yes {p : Pg} {k : Nat} (h1 : progOk p = true) (h2 : hasF p (k : Int) = true) : calV p (k : Int) = (nthF p.funcs k).body.nam [] := by
  unfold calV fnAt; rw [if_pos ⟨h1, h2⟩, Int.toNat_natCast]
theorem body_small {p : Pg} {k : Nat} (h : progOk p = true) (hk : k < p.funcs.length) : 1 + sumL one_ (nthF p.funcs k).body.kids ≤ 30 := by
  refine Decidable.byContradiction fun h30 => ?_
  have hsig := sigs_at (prog_sigs h) hk
  have hat := prog_at h hk
  unfold sigOk at hsig
  simp only [Bool.and_eq_true] at hsig
  have hres := hsig.2.2
  unfold isTy at hres
  simp only [Bool.and_eq_true, decide_eq_true_eq] at hres
  rw [show typeV p (nthF p.funcs k).params (nthF p.funcs k).body = -1 by unfold typeV; rw [if_neg (fun e => h30 e.2.2)]] at hat
  omega
theorem calV_len (p : Pg) (f : Int) : (calV p f).length ≤ 1048576 := by
  rcases hs : progOk p with _ | _
  · rw [calV_no (.inl hs)]; simp
  · rcases hb : hasF p f with _ | _
    · rw [calV_no (.inr hb)]; simp
    · obtain ⟨k, rfl, hk⟩ : ∃ k : Nat, f = (k : Int) ∧ k < p.funcs.length := by
        unfold hasF at hb
        obtain ⟨h1, h2⟩ := Bool.and_eq_true_iff.1 hb
        have h1 := of_decide_eq_true h1
        have h2 := of_decide_eq_true h2
        exact ⟨f.toNat, by omega, by omega⟩
      rw [calV_yes hs hb]
      have := (nam_ok (nthF p.funcs k).body [] asc_empty).2
      have h30 := body_small hs hk
      rw [sum_eq] at this
      have e1 : one_ (nthF p.funcs k).body.op (nthF p.funcs k).body.num = 1 := rfl
      simp only [List.length_nil] at this
      omega
set_option maxHeartbeats 1600000 in
theorem calleesTop_any {w : World} {p : Pg} {pv : Value} (f : Int) (hp : Pgm w 0 w.heap.size pv p) (hr : progR p) :
    Calls Try.prog 21 #[pv, .int .i64 f] w fun e w' => ∃ u, e = .returned u ∧ Below w.heap.size w w' ∧ Own w' w.heap.size u (calV p f) := by
  obtain ⟨dd, ff, rfl, hd, hf⟩ := hp
  have hp : Pgm w 0 w.heap.size (.agg #[dd, ff]) p := ⟨dd, ff, rfl, hd, hf⟩
  obtain ⟨B1, b1, rfl, l1, m1⟩ := hd.open_
  obtain ⟨B2, b2, rfl, l2, m2⟩ := hf.open_
  obtain ⟨W0, hW0⟩ : ∃ W0, W0 = w.alloc (.cells #[.slice B1 p.decls.length b1, .slice B2 p.funcs.length b2] 36) := ⟨_, rfl⟩
  have hB0 : Below w.heap.size w W0 := by rw [hW0]; exact (Below.refl _ w).alloc (Nat.le_refl _) _
  have hz0 : W0.heap.size = w.heap.size + 1 := by rw [hW0]; simp
  have x0 : W0.heap[w.heap.size]? = some (.cells #[.slice B1 p.decls.length b1, .slice B2 p.funcs.length b2] 36 (0, 0)) := by rw [hW0]; exact alloc_last _ _ _ rfl
  have HX := Lib.hid fun W (hB : Below W0.heap.size W0 W) => cells2 ((hB.block w.heap.size (by omega)).trans x0)
  have HE := Lib.hid fun W (hB : Below W0.heap.size W0 W) => hB0.trans (hB.mono (show w.heap.size ≤ W0.heap.size by omega))
  have HPG := Lib.hid fun W (hB : Below W0.heap.size W0 W) => (hp.keep (Same.of_below (HE.out W hB) (Nat.le_refl _))).wide (Nat.le_refl _) (HE.out W hB).size
  have HF := Lib.hid fun W (hB : Below W0.heap.size W0 W) => (HPG.out W hB).two.2
  have HZ := Lib.hid hz0
  have CS := Lib.hid (validProgram_any (HPG.out W0 (Below.refl _ _)) hr)
  have hz1 : w.heap.size ≤ W0.heap.size := by omega
  clear hp hd hf x0 hz0
  obtain ⟨q0, q1⟩ := HX.out W0 (Below.refl _ _)
  rcases hs : progOk p with _ | _
  · rw [calV_no (.inl hs)]
    rw [hs] at CS
    clear hs
    go_enter Try.func21, Try.ntmps21
    go_wp2_with fail
    rw [← hW0]
    clear hW0
    refine CS.out.mono ?_
    rintro e w1 ⟨rfl, hB1⟩
    have HB1 := Lib.hid (HE.out _ hB1)
    clear hB1
    go_wp2_with fail
    go_ret
    exact ⟨_, rfl, HB1.out, Own.nil _ _⟩
  · have hfl := (sigs_len (prog_sigs hs)).2
    rw [hs] at CS
    rcases hb : hasF p f with _ | _
    · rw [calV_no (.inr hb)]
      have CH := Lib.hid fun (W : World) (hB : Below W0.heap.size W0 W) => hasFunc_is _ f _ _ p _ W (HPG.out W hB) hb
      clear hb hs
      go_enter Try.func21, Try.ntmps21
      go_wp2_with fail
      rw [← hW0]
      clear hW0
      refine CS.out.mono ?_
      rintro e w1 ⟨rfl, hB1⟩
      obtain ⟨Q0, Q1⟩ := HX.out w1 hB1
      have z1 := hB1.size
      have HB1 := Lib.hid hB1
      clear hB1 CS q0 q1
      go_wp2_with fail
      refine (CH.out w1 HB1.out).mono ?_
      rintro e w2 ⟨rfl, hB2⟩
      have HB2 := Lib.hid (HE.out _ (HB1.out.trans (hB2.mono z1)))
      clear hB2 Q0 Q1
      go_wp2_with fail
      go_ret
      exact ⟨_, rfl, HB2.out, Own.nil _ _⟩
    · have CH := Lib.hid fun (W : World) (hB : Below W0.heap.size W0 W) => hasFunc_is _ f _ _ p _ W (HPG.out W hB) hb
      obtain ⟨k, rfl, hk⟩ : ∃ k : Nat, f = (k : Int) ∧ k < p.funcs.length := by
        unfold hasF at hb
        obtain ⟨h1, h2⟩ := Bool.and_eq_true_iff.1 hb
        have h1 := of_decide_eq_true h1
        have h2 := of_decide_eq_true h2
        exact ⟨f.toNat, by omega, by omega⟩
      rw [calV_yes hs hb]
      have h30 := body_small hs hk
      obtain ⟨X, hX⟩ : ∃ X, (nthF p.funcs k).body.nam [] = X := ⟨_, rfl⟩
      rw [hX]
      have k0 : (0 : Int) ≤ (k : Int) := by omega
      have k1 : (k : Int) < (p.funcs.length : Int) := by omega
      clear hb hs
      go_enter Try.func21, Try.ntmps21
      go_wp2_with fail
      rw [← hW0]
      clear hW0
      refine CS.out.mono ?_
      rintro e w1 ⟨rfl, hB1⟩
      obtain ⟨Q0, Q1⟩ := HX.out w1 hB1
      have z1 := hB1.size
      have HB1 := Lib.hid hB1
      clear hB1 CS q0 q1
      go_wp2_with fail
      refine (CH.out w1 HB1.out).mono ?_
      rintro e w2 ⟨rfl, hB2⟩
      have hB3 := HB1.out.trans (hB2.mono z1)
      have z3 := hB3.size
      obtain ⟨R0, R1⟩ := HX.out w2 hB3
      obtain ⟨b, o, A1, c1, A2, c2, rfl, _, hb, e0, e1, e2, e3, e4, hI, hE⟩ := (HF.out w2 hB3).at_ hk
      have CK := withNamed_any w.heap.size hE (nthF p.funcs k).body.op (nthF p.funcs k).body.num [] (.slice none 0 0) w2 (Same.refl _ _ _) (Nat.le_refl _) ⟨by omega, Own.nil _ _⟩ asc_empty (by simp only [List.length_nil]; omega)
      rw [← nam_eq, hX] at CK
      have CK := Lib.hid CK
      have HB3 := Lib.hid hB3
      clear hB2 hB3 Q0 Q1 hI hE hX
      go_wp2_with fail
      refine CK.out.mono ?_
      rintro e w3 ⟨u, rfl, hB4, hO⟩
      have HF4 := Lib.hid (And.intro (HE.out _ (HB3.out.trans (hB4.mono z3))) hO.2)
      clear hB4 hO R0 R1 e0 e1 e2 e3 e4
      go_wp2_with fail
      go_ret
      exact ⟨_, rfl, HF4.out.1, HF4.out.2⟩
set_option maxHeartbeats 1600000 in
theorem sCalleesTop_any {w : World} {p : Pg} {pv : Value} (f : Int) (hp : Pgm w 0 w.heap.size pv p) :
    Calls Try.prog 20 #[pv, .int .i64 f] w fun e w' => ∃ u, e = .returned u ∧ Below w.heap.size w w' ∧ Ints w' w.heap.size w'.heap.size u (calV p f) := by
  obtain ⟨dd, ff, rfl, hd, hf⟩ := hp
  have hp : Pgm w 0 w.heap.size (.agg #[dd, ff]) p := ⟨dd, ff, rfl, hd, hf⟩
  obtain ⟨B1, b1, rfl, l1, m1⟩ := hd.open_
  obtain ⟨B2, b2, rfl, l2, m2⟩ := hf.open_
  obtain ⟨W0, hW0⟩ : ∃ W0, W0 = w.alloc (.cells #[.slice B1 p.decls.length b1, .slice B2 p.funcs.length b2] 36) := ⟨_, rfl⟩
  have hB0 : Below w.heap.size w W0 := by rw [hW0]; exact (Below.refl _ w).alloc (Nat.le_refl _) _
  have hz0 : W0.heap.size = w.heap.size + 1 := by rw [hW0]; simp
  have x0 : W0.heap[w.heap.size]? = some (.cells #[.slice B1 p.decls.length b1, .slice B2 p.funcs.length b2] 36 (0, 0)) := by rw [hW0]; exact alloc_last _ _ _ rfl
  have HX := Lib.hid fun W (hB : Below W0.heap.size W0 W) => cells2 ((hB.block w.heap.size (by omega)).trans x0)
  have HE := Lib.hid fun W (hB : Below W0.heap.size W0 W) => hB0.trans (hB.mono (show w.heap.size ≤ W0.heap.size by omega))
  have HPG := Lib.hid fun W (hB : Below W0.heap.size W0 W) => (hp.keep (Same.of_below (HE.out W hB) (Nat.le_refl _))).wide (Nat.le_refl _) (HE.out W hB).size
  have HF := Lib.hid fun W (hB : Below W0.heap.size W0 W) => (HPG.out W hB).two.2
  have HZ := Lib.hid hz0
  have CS := Lib.hid (sValidProgram_any (HPG.out W0 (Below.refl _ _)))
  have hz1 : w.heap.size ≤ W0.heap.size := by omega
  clear hp hd hf x0 hz0
  obtain ⟨q0, q1⟩ := HX.out W0 (Below.refl _ _)
  rcases hs : progOk p with _ | _
  · rw [calV_no (.inl hs)]
    rw [hs] at CS
    clear hs
    go_enter Try.func20, Try.ntmps20
    go_wp2_with fail
    rw [← hW0]
    clear hW0
    refine CS.out.mono ?_
    rintro e w1 ⟨rfl, hB1⟩
    have HB1 := Lib.hid (HE.out _ hB1)
    clear hB1
    go_wp2_with fail
    go_ret
    exact ⟨_, rfl, HB1.out, (Own.nil _ _).ints⟩
  · have hfl := (sigs_len (prog_sigs hs)).2
    rw [hs] at CS
    have s1 : IntKind.i64.wrap ((p.funcs.length : Int) - 1) = (p.funcs.length : Int) - 1 := IntWalk.i64_in _ (by omega)
    rcases hb : hasF p f with _ | _
    · rw [calV_no (.inr hb)]
      have CH := Lib.hid fun (W : World) => sInR_is hb W
      clear hb hs
      go_enter Try.func20, Try.ntmps20
      go_wp2_with fail
      rw [← hW0]
      clear hW0
      refine CS.out.mono ?_
      rintro e w1 ⟨rfl, hB1⟩
      obtain ⟨Q0, Q1⟩ := HX.out w1 hB1
      have z1 := hB1.size
      have HB1 := Lib.hid (HE.out _ hB1)
      clear hB1 CS q0 q1
      go_wp2_with ((go_at_call 49; refine (CH.out _).mono ?_; rintro e w2 ⟨rfl, rfl⟩))
      go_ret
      exact ⟨_, rfl, HB1.out, (Own.nil _ _).ints⟩
    · have CH := Lib.hid fun (W : World) => sInR_is hb W
      obtain ⟨k, rfl, hk⟩ : ∃ k : Nat, f = (k : Int) ∧ k < p.funcs.length := by
        unfold hasF at hb
        obtain ⟨h1, h2⟩ := Bool.and_eq_true_iff.1 hb
        have h1 := of_decide_eq_true h1
        have h2 := of_decide_eq_true h2
        exact ⟨f.toNat, by omega, by omega⟩
      rw [calV_yes hs hb]
      have h30 := body_small hs hk
      obtain ⟨X, hX⟩ : ∃ X, (nthF p.funcs k).body.nam [] = X := ⟨_, rfl⟩
      rw [hX]
      have k0 : (0 : Int) ≤ (k : Int) := by omega
      have k1 : (k : Int) < (p.funcs.length : Int) := by omega
      clear hb hs
      go_enter Try.func20, Try.ntmps20
      go_wp2_with fail
      rw [← hW0]
      clear hW0
      refine CS.out.mono ?_
      rintro e w1 ⟨rfl, hB1⟩
      obtain ⟨Q0, Q1⟩ := HX.out w1 hB1
      have z1 := hB1.size
      obtain ⟨b, o, A1, c1, A2, c2, rfl, _, hb, e0, e1, e2, e3, e4, hI, hE⟩ := (HF.out w1 hB1).at_ hk
      obtain ⟨W2, hW2⟩ : ∃ W2, W2 = w1.alloc (.cells #[] 3) := ⟨_, rfl⟩
      have hBa : Below w1.heap.size w1 W2 := by rw [hW2]; exact (Below.refl _ w1).alloc (Nat.le_refl _) _
      have hown : Own W2 w1.heap.size (.slice (some ⟨w1.heap.size, 0, none⟩) 0 0) [] := by
        rw [hW2]; exact World.ownsRow_lit (base := w1.heap.size) (e := 3) (size := 1) w1 #[] 0 (Nat.le_refl _) (by simp [maxLen]) rfl
      have za := hBa.size
      have CK := sCallees_any w.heap.size (hE.keep (Same.of_below hBa (Nat.le_refl _))) (nthF p.funcs k).body.op (nthF p.funcs k).body.num [] (.slice (some ⟨w1.heap.size, 0, none⟩) 0 0) W2 (Same.refl _ _ _) za ⟨by omega, hown.wide (by omega)⟩ asc_empty (by simp only [List.length_nil]; omega)
      rw [← nam_eq, hX] at CK
      have CK := Lib.hid CK
      have HB3 := Lib.hid (hB1.trans (hBa.mono z1))
      clear hB1 CS q0 q1 hI hE hX hown hBa za
      go_wp2_with ((go_at_call 49; refine (CH.out _).mono ?_; rintro e w2 ⟨rfl, rfl⟩))
      rw [← hW2]
      clear hW2
      refine CK.out.mono ?_
      rintro e w3 ⟨u, rfl, hB4, hO⟩
      have HF4 := Lib.hid (And.intro (HE.out _ (HB3.out.trans (hB4.mono HB3.out.size))) hO.2.ints)
      clear hB4 hO Q0 Q1 e0 e1 e2 e3 e4
      go_wp2_with fail
      go_ret
      exact ⟨_, rfl, HF4.out.1, HF4.out.2⟩
end Go.Proofs.Ythbingbbimikhaa

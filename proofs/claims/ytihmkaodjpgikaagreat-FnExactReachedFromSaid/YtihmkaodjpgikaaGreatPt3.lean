/- Contracts of chapter 2: closures and what they return. -/
import Derived.Test.YtihmkaodjpgikaaGreatPt2
namespace Go.Proofs.YtihmkaodjpgikaaGreat
open Go.RowKit Go.BigFrame
theorem Ints.cut {w : World} {L U : Nat} {A : Option Addr} {xs : List Int} {n c k : Nat} (h : Ints w L U (.slice A n c) xs) (hk : k ≤ xs.length) : Ints w L U (.slice A k c) (xs.take k) := by
  obtain ⟨A', c', e, r⟩ := h
  injection e with e1 e2 e3
  subst e1 e3
  have hl : (xs.take k).length = k := by simp; omega
  refine ⟨A, c, by rw [hl], ?_⟩
  rw [hl]
  have r' := r.short hk
  refine ⟨r'.le, r'.cap, r'.nil, fun hn => ?_⟩
  obtain ⟨b, o, e, h1, h2, hc⟩ := r'.place hn
  refine ⟨b, o, e, h1, h2, fun i j hi hj => ?_⟩
  rw [hc i j hi hj]
  congr 2
  unfold nth
  simp [List.getD_eq_getElem?_getD, hi]
theorem closeRes_no {p : Pg} {f : Int} {ts : List Int} (h : hasF p f = false ∨ (fnAt p f).params.length = 0) : closeRes p f ts = -1 := by
  unfold closeRes
  rw [if_neg]
  rintro ⟨h1, h2, _⟩
  rcases h with h | h
  · rw [h] at h1; cases h1
  · omega
theorem closeRes_yes {p : Pg} {f : Int} {ts : List Int} {m : Nat} {r : Bool} (h1 : hasF p f = true) (h2 : (fnAt p f).params.length = m + 1) (hr : decide (ts = (fnAt p f).params.take m) = r) :
    closeRes p f ts = cond r (arrT p.decls (nth (fnAt p f).params m) (fnAt p f).result) (-1) := by
  unfold closeRes
  rw [h2, show m + 1 - 1 = m by omega, ← hr]
  by_cases h : ts = (fnAt p f).params.take m
  · rw [if_pos ⟨h1, by omega, h⟩, decide_eq_true h]; rfl
  · rw [if_neg (fun e => h e.2.2), decide_eq_false h]; rfl
set_option maxHeartbeats 1600000 in
theorem resultOfClose_any (f : Int) (ts : List Int) (L U L' U' : Nat) (p : Pg) (v u : Value) (w : World) (hv : Pgm w L U v p) (hU : U ≤ w.heap.size) (hu : Ints w L' U' u ts) (hU' : U' ≤ w.heap.size) :
    Calls Tryz.prog 97 #[v, .int .i64 f, u] w fun e w' => e = .returned (.int .i64 (closeRes p f ts)) ∧ Below w.heap.size w w' := by
  have hv0 := hv
  obtain ⟨dd, ff, rfl, hd, hf⟩ := hv0
  obtain ⟨B1, b1, rfl, l1, m1⟩ := hd.open_
  obtain ⟨B2, b2, rfl, l2, m2⟩ := hf.open_
  obtain ⟨B', d', rfl, hl', hd'⟩ := hu.open_
  obtain ⟨W0, hW0⟩ : ∃ W0, W0 = w.alloc (.cells #[.slice B1 p.decls.length b1, .slice B2 p.funcs.length b2] 32) := ⟨_, rfl⟩
  have hB0 : Below w.heap.size w W0 := by rw [hW0]; exact (Below.refl _ w).alloc (Nat.le_refl _) _
  have hz0 : W0.heap.size = w.heap.size + 1 := by rw [hW0]; simp
  have hbox : W0.heap[w.heap.size]? = some (.cells #[.slice B1 p.decls.length b1, .slice B2 p.funcs.length b2] 32 (0, 0)) := by rw [hW0]; exact alloc_last _ _ _ rfl
  obtain ⟨q0, q1⟩ := cells2 hbox
  have HV := Lib.hid (hv.keep (Same.of_below hB0 hU))
  have HX := Lib.hid fun W (hB : Below W0.heap.size W0 W) => cells2 ((hB.block w.heap.size (by omega)).trans hbox)
  have HF := Lib.hid fun W (hB : Below W0.heap.size W0 W) => hf.keep (Same.of_below (hB0.trans (hB.mono (show w.heap.size ≤ W0.heap.size by omega))) hU)
  have HD := Lib.hid fun W (hB : Below W0.heap.size W0 W) => hd.keep (Same.of_below (hB0.trans (hB.mono (show w.heap.size ≤ W0.heap.size by omega))) hU)
  have HU := Lib.hid fun W (hB : Below W0.heap.size W0 W) => hu.keep (Same.of_below (hB0.trans (hB.mono (show w.heap.size ≤ W0.heap.size by omega))) hU')
  have HE := Lib.hid fun W (hB : Below W0.heap.size W0 W) => hB0.trans (hB.mono (show w.heap.size ≤ W0.heap.size by omega))
  clear hv hd hf hu hbox
  rcases hasF_cases p f with ⟨_, e⟩ | ⟨_, _, e⟩ | ⟨k, rfl, hk, e, ef⟩
  · rw [closeRes_no (.inl e)]
    go_enter Tryz.func97, Tryz.ntmps97
    go_wp2_with fail
    rw [← hW0]
    clear hW0
    refine (hasFunc_is _ _ _ _ _ _ W0 HV.out e).mono ?_
    rintro e w1 ⟨rfl, hB1⟩
    go_wp2_with fail
    go_ret
    exact ⟨rfl, HE.out _ hB1⟩
  · rw [closeRes_no (.inl e)]
    go_enter Tryz.func97, Tryz.ntmps97
    go_wp2_with fail
    rw [← hW0]
    clear hW0
    refine (hasFunc_is _ _ _ _ _ _ W0 HV.out e).mono ?_
    rintro e w1 ⟨rfl, hB1⟩
    go_wp2_with fail
    go_ret
    exact ⟨rfl, HE.out _ hB1⟩
  · have k0 : (0 : Int) ≤ (k : Int) := by omega
    have k1 : (k : Int) < (p.funcs.length : Int) := by omega
    rcases hm : (nthF p.funcs k).params.length with _ | m
    · rw [closeRes_no (.inr (by rw [ef]; exact hm))]
      have E := Lib.hid e
      clear e ef
      go_enter Tryz.func97, Tryz.ntmps97
      go_wp2_with fail
      rw [← hW0]
      clear hW0
      refine (hasFunc_is _ _ _ _ _ _ W0 HV.out E.out).mono ?_
      rintro e w1 ⟨rfl, hB1⟩
      clear q0 q1
      obtain ⟨q0, q1⟩ := HX.out w1 hB1
      obtain ⟨g, o, A1, c1, A2, c2, rfl, _, _, e0, e1, e2, e3, e4, hI, _⟩ := (HF.out w1 hB1).at_ hk
      rw [hm] at e0
      have HB1 := Lib.hid hB1
      clear hI hB1
      go_wp2_with fail
      go_ret
      exact ⟨rfl, HE.out _ HB1.out⟩
    · obtain ⟨r, hr⟩ : ∃ r, decide (ts = (nthF p.funcs k).params.take m) = r := ⟨_, rfl⟩
      have HR := Lib.hid (closeRes_yes (r := r) e (by rw [ef]; exact hm) (by rw [ef]; exact hr))
      rw [HR.out, ef]
      clear HR
      have E := Lib.hid e
      obtain ⟨xs, hxs⟩ : ∃ xs, (nthF p.funcs k).params = xs := ⟨_, rfl⟩
      rw [hxs] at hm hr ⊢
      have HXS := Lib.hid hxs
      obtain ⟨x, hx⟩ : ∃ x, nth xs m = x := ⟨_, rfl⟩
      obtain ⟨y, hy⟩ : ∃ y, (nthF p.funcs k).result = y := ⟨_, rfl⟩
      rw [hx, hy]
      have HXX := Lib.hid (And.intro hx hy)
      clear e ef hxs hx hy
      obtain ⟨z, hz⟩ : ∃ z, arrT p.decls x y = z := ⟨_, rfl⟩
      rw [hz]
      have HZ := Lib.hid hz
      have HM := Lib.hid hm
      clear hz hm
      go_enter Tryz.func97, Tryz.ntmps97
      go_wp2_with fail
      rw [← hW0]
      clear hW0
      refine (hasFunc_is _ _ _ _ _ _ W0 HV.out E.out).mono ?_
      rintro e w1 ⟨rfl, hB1⟩
      clear q0 q1
      obtain ⟨q0, q1⟩ := HX.out w1 hB1
      obtain ⟨g, o, A1, c1, A2, c2, rfl, _, hg, e0, e1, e2, e3, e4, hI, _⟩ := (HF.out w1 hB1).at_ hk
      rw [HXS.out, HM.out] at e0
      rw [HXS.out, HM.out] at hI
      rw [HXX.out.2] at e1
      obtain ⟨g3, o3, rfl, _, hg3, e5⟩ := hI.at_ (k := m) (by rw [HM.out]; omega)
      rw [← nth_of, HXX.out.1] at e5
      have hc1 : m + 1 ≤ c1 := by
        obtain ⟨A, c, e, r⟩ := hI
        injection e with e1 e2 e3
        subst e3
        have := r.le
        rw [HM.out] at this
        exact this
      have hc2 : c1 ≤ 9223372036854775807 := by
        obtain ⟨A, c, e, r⟩ := hI
        injection e with e1 e2 e3
        subst e3
        exact r.cap
      have z1 := hB1.size
      have HS := Lib.hid fun (W : World) (hB : Below w1.heap.size w1 W) => sameInts_b r _ _ _ _ _ _ _ _ W ((HU.out w1 hB1).keep (Same.of_below hB (by omega))) ((hI.cut (k := m) (by rw [HM.out]; omega)).keep (Same.of_below hB (by omega))) hr
      have HA := Lib.hid fun (W : World) (hB : Below w1.heap.size w1 W) => (show Calls Tryz.prog 90 #[.slice B1 p.decls.length b1, .int .i64 x, .int .i64 y] W fun e w' => e = .returned (.int .i64 z) ∧ Below W.heap.size W w' by
        have := arrowBetween_any x y L U p.decls _ W ((HD.out w1 hB1).keep (Same.of_below hB (by omega))) (by have := hB.size; omega)
        have hz := HZ.out
        unfold arrT at hz
        rw [hz] at this
        exact this)
      have HB1 := Lib.hid hB1
      have gb : w.heap.size < w1.heap.size := by omega
      have gb2 : g < w1.heap.size := by omega
      have gb3 : g3 < w1.heap.size := by omega
      have i1 : (0 : Int) ≤ (m : Int) := by omega
      have i2 : (m : Int) < (m : Int) + 1 := by omega
      have i3 : (m : Int) ≤ (c1 : Int) := by omega
      have i4 : m ≤ c1 := by omega
      have s1 : IntKind.i64.wrap ((m : Int) + 1 - 1) = (m : Int) := by rw [IntWalk.i64_in _ (by omega)]; omega
      clear hI hB1 hr
      go_wp2_with fail
      go_region_held3 (fun w' => w'.cell? ⟨w.heap.size, 0, none⟩ = some (.slice B1 p.decls.length b1) ∧ w'.cell? ⟨w.heap.size, 1, none⟩ = some (.slice (some ⟨g, o, none⟩) p.funcs.length b2) ∧ w'.cell? ⟨g, o + k * 5 + 1, none⟩ = some (.int .i64 y) ∧ w'.cell? ⟨g3, o3 + m, none⟩ = some (.int .i64 x))
        (first | go_keep | (exact ⟨(hB2.cell (by simp; assumption)).trans (by simp; assumption), (hB2.cell (by simp; assumption)).trans (by simp; assumption), (hB2.cell (by simp; assumption)).trans (by simp; assumption), (hB2.cell (by simp; assumption)).trans (by simp; assumption)⟩) | (exact ⟨(hB3.cell (by simp; assumption)).trans (by simp; assumption), (hB3.cell (by simp; assumption)).trans (by simp; assumption), (hB3.cell (by simp; assumption)).trans (by simp; assumption), (hB3.cell (by simp; assumption)).trans (by simp; assumption)⟩))
        (first | (go_at_call 94; refine (HS.out _ (Below.refl _ w1).drew).mono ?_; rintro e w2 ⟨rfl, hB2⟩) | (go_at_call 90; refine (HA.out _ (Below.refl _ w1).drew).mono ?_; rintro e w2 ⟨rfl, hB2⟩) | (go_at_call 94; refine (HS.out _ ((Below.refl _ w1).drew.trans (hB2.mono (Nat.le_refl _)))).mono ?_; rintro e w3 ⟨rfl, hB3'⟩; have hB3 := hB2.trans (hB3'.mono hB2.size)) | (go_at_call 90; refine (HA.out _ ((Below.refl _ w1).drew.trans (hB2.mono (Nat.le_refl _)))).mono ?_; rintro e w3 ⟨rfl, hB3'⟩; have hB3 := hB2.trans (hB3'.mono hB2.size)) | (go_at_call 93; refine (typeWhen_is _ _ _).mono ?_; rintro e w4 ⟨rfl, rfl⟩))
      all_goals (
        have HB3 := Lib.hid (HE.out _ (HB1.out.trans (((Below.refl w1.heap.size w1).drew.trans (hB3.mono (Nat.le_refl _))).mono z1)))
        clear hB2 hB3 hB3'
        go_wp2_with fail
        go_ret
        exact ⟨rfl, HB3.out⟩)
end Go.Proofs.YtihmkaodjpgikaaGreat

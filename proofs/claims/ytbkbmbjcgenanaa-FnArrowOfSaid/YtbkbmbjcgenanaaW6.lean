/- The draw for ArrowOf; the walk of the law FnArrowOf. -/
import Derived.Test.YtbkbmbjcgenanaaW5
namespace Go.Proofs.Ytbkbmbjcgenanaa
open Go.RowKit Go.BigFrame
def DrewA (w : World) (e : Ending) (w' : World) : Prop := ∃ v ds, ∃ f t : Int, e = .returned (.tuple #[v, .int .i64 f, .int .i64 t]) ∧ ds.length ≤ 6 ∧ Decs w' w.heap.size w'.heap.size v ds ∧ Below w.heap.size w w'
set_option maxHeartbeats 800000 in
theorem drawArrowOf (A : Option Addr) (n c : Nat) (w : World) (h : Code_ w A n c) :
    Calls Try.prog 38 #[.slice A n c] w (DrewA w) := by
  go_enter Try.func38, Try.ntmps38
  go_wp2_with fail
  refine (newReader_any A n c w.heap.size w h.1 h.2.1 h.2.2 (Nat.le_refl _)).mono ?_
  rintro e w1 ⟨g, rfl, hr, hB, hg⟩
  go_wp2_with fail
  refine (anyDecls_any g 0 w1 hr (by omega)).mono ?_
  rintro e w2 ⟨v, ds, rfl, hl, hd, ⟨q, hq, hr2⟩, ho⟩
  obtain ⟨B, cc, rfl, _, _⟩ := hd.open_
  have hz := hB.size
  have hgl := hr.lt
  have hgl2 := hr2.lt
  go_wp2_with fail
  refine (one_any [0, 0, 1, 2, -1] _ g q w2.heap.size (w2.heap.size + 1) _ (hr2.alloc _) (by omega) (ints_lit [0, 0, 1, 2, -1] (heap_alloc_new w2 _) (Nat.le_refl _) (by omega) (by simp)) hgl2 (by simp) (by simp)).mono ?_
  rintro e w4 ⟨y, _, rfl, hr4, ho4⟩
  have hgl4 := hr4.lt
  go_wp2_with fail
  refine (one_any [0, 0, 1, 5] _ g (q + 1) w4.heap.size (w4.heap.size + 1) _ (hr4.alloc _) (by omega) (ints_lit [0, 0, 1, 5] (heap_alloc_new w4 _) (Nat.le_refl _) (by omega) (by simp)) hgl4 (by simp) (by simp)).mono ?_
  rintro e w5 ⟨z, _, rfl, hr5, ho5⟩
  have hall : w2.grownBy w5 (some g) := only_trans (only_alloc (World.grownBy.refl w2 _) _) (only_trans ho4 (only_trans (only_alloc (World.grownBy.refl w4 _) _) ho5))
  have hf : DrewA w (.returned (.tuple #[.slice B ds.length cc, .int .i64 y, .int .i64 z])) w5 :=
    ⟨_, ds, y, z, rfl, hl, ((hd.keep (Same.of_grown hall (Nat.le_refl _) (fun k e => by injection e; omega))).wide hz hall.size), (hB.grown ho hz (fun k e => by injection e; omega)).grown hall (by have := ho.size; omega) (fun k e => by injection e; omega)⟩
  have HF := Lib.hid hf
  clear hf hd ho hall ho4 ho5
  go_wp2_with fail
  go_ret3
  exact HF.out
theorem arrow_facts {ds : List Dec} {f t o : Int} (h : arrowV ds f t = o) (h0 : ¬ o < 0) : ∃ k : Nat, o = (k : Int) + 1 ∧ k < ds.length ∧ (nthD ds k).frm = f ∧ (nthD ds k).to = t ∧ (nthD ds k).cons.length = 0 ∧ consOfV ds o = [] := by
  unfold arrowV at h
  by_cases hb : typesOk ds = true
  · rw [if_pos hb] at h
    rcases seek_cases ds.length (fun k => isArr f t (nthD ds k)) with hs | ⟨k, hk, hs, hp⟩
    · omega
    · simp only [isArr, Bool.and_eq_true, decide_eq_true_eq] at hp
      refine ⟨k, by omega, hk, hp.2.1, hp.2.2, hp.1, ?_⟩
      unfold consOfV
      rw [if_pos ⟨hb, by omega, by omega⟩, show (o - 1).toNat = k by omega]
      exact List.eq_nil_of_length_eq_zero (by rw [length_consAt]; exact hp.1)
  · rw [if_neg hb] at h; omega
theorem consOf_is (xs : List Int) (t : Int) (L U : Nat) (ds : List Dec) (v : Value) (w : World) (hv : Decs w L U v ds) (hU : U ≤ w.heap.size) (h : consOfV ds t = xs) :
    Calls Try.prog 27 #[v, .int .i64 t] w fun e w' => ∃ A c, e = .returned (.slice A xs.length c) ∧ Below w.heap.size w w' := by
  subst h
  exact (consOfTop t L U ds v w hv hU).mono fun e w' ⟨u, he, hB, hi⟩ => by
    obtain ⟨A, c, e2, _⟩ := hi.open_
    exact ⟨A, c, by rw [he, e2], hB⟩
set_option maxHeartbeats 800000 in
theorem fnArrowOf_walk (A : Option Addr) (n c : Nat) (w : World) (h : Code_ w A n c) :
    Calls Try.prog 10 #[.slice A n c] w fun e w' => e = .returned (.bool true) ∧ Below w.heap.size w w' := by
  by_cases hbig : 1048576 < n
  · go_enter Try.func10, Try.ntmps10
    go_wp2_with fail
    go_ret
    exact ⟨rfl, Below.refl _ _⟩
  · have Hc := Lib.hid h
    clear h
    go_enter Try.func10, Try.ntmps10
    go_wp2_with fail
    refine (drawArrowOf A n c w Hc.out).mono ?_
    rintro e w1 ⟨v, ds, f, t, rfl, hl, hd, hB1⟩
    obtain ⟨B, cc, rfl, hlc, hcc⟩ := hd.open_
    go_wp2_with fail
    refine (arrowTop f t _ _ _ _ w1 hd (Nat.le_refl _)).mono ?_
    rintro e w2 ⟨rfl, hB2⟩
    have hd2 := hd.keep (Same.of_below hB2 (Nat.le_refl _))
    have hU2 := hB2.size
    obtain ⟨o, ho⟩ : ∃ o, arrowV ds f t = o := ⟨_, rfl⟩
    rw [ho]
    have Ho := Lib.hid ho
    clear ho hd
    go_wp2_with fail
    refine (sArrowTop f t _ _ _ _ w2 hd2 hU2).mono ?_
    rintro e w3 ⟨rfl, hB3⟩
    have hd3 := hd2.keep (Same.of_below hB3 hU2)
    have hU3 := Nat.le_trans hU2 hB3.size
    rw [Ho.out]
    have hW : Below w.heap.size w w3 := hB1.trans ((hB2.mono hB1.size).trans (hB3.mono (Nat.le_trans hB1.size hU2)))
    have hW3 := hW.size
    clear hd2 hB1 hB2 hB3
    by_cases h0 : o < 0
    · go_wp2_with fail
      refine (sArrowTop f t _ _ _ _ w3 hd3 hU3).mono ?_
      rintro e w4 ⟨rfl, hB4⟩
      rw [Ho.out]
      go_wp2_with fail
      go_ret
      exact ⟨ret_bool (by simp), hW.trans (hB4.mono hW3)⟩
    · obtain ⟨k, rfl, hk, g1, g2, g3, g4⟩ := arrow_facts Ho.out h0
      obtain ⟨b, o', A', c', rfl, _, hbU, e0, e1, e2, _⟩ := hd3.at_ hk
      have i0 : (0 : Int) ≤ (k : Int) := by omega
      have i1 : (k : Int) < (ds.length : Int) := by omega
      have i2 : (1 : Int) ≤ (k : Int) + 1 := by omega
      have i3 : (k : Int) + 1 ≤ (ds.length : Int) := by omega
      rw [g1] at e0
      rw [g2] at e1
      rw [g3] at e2
      have q1 : IntKind.i64.wrap ((k : Int) + 1 - 1) = (k : Int) := by rw [IntWalk.i64_in _ (by omega)]; omega
      have q2 : IntKind.i64.wrap (k : Int) = (k : Int) := IntWalk.i64_in _ (by omega)
      have Hd := Lib.hid hd3
      have H4 := Lib.hid g4
      clear g1 g2 g3 g4 hd3 h0
      go_wp2_with fail
      refine (consOf_is _ _ _ _ _ _ w3 Hd.out hU3 H4.out).mono ?_
      rintro e wx ⟨X, xc, rfl, hBx⟩
      go_wp2_with fail
      go_ret
      exact ⟨rfl, hW.trans (hBx.mono hW3)⟩
end Go.Proofs.Ytbkbmbjcgenanaa

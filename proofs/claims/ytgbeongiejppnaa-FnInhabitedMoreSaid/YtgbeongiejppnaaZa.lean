/- The draw of declarations for Inhabited. -/
import Derived.Test.YtgbeongiejppnaaL
namespace Go.Proofs.Ytgbeongiejppnaa
open Go.RowKit Go.BigFrame
/-- What is known while declarations are put in the place of others. -/
structure S2 (N g q r c : Nat) (w0 w : World) (ds : List Dec) (V : Nat → Value) : Prop where
  rd : Rd w g q
  only : w0.grownBy w (some g)
  size : w0.heap.size = N
  row : w.ownsRow N 30 3 (.slice (some ⟨r, 0, none⟩) ds.length c) ds.length (cellsOf 3 ds.length fun i j => decCell (nthD ds i) (V i) j)
  cs : ∀ i, i < ds.length → ∃ L U, Cons w L U (V i) (nthD ds i).cons ∧ N ≤ L ∧ U ≤ w.heap.size ∧ (U ≤ r ∨ r < L)
  hN : N ≤ r
  hg : g < N
  hr : r < w.heap.size
section
variable {N g q r c M : Nat} {w0 w : World} {ds : List Dec} {V : Nat → Value}
theorem St.two (h : St N g q r c M w0 w ds V) : S2 N g q r c w0 w ds V :=
  ⟨h.rd, h.only, h.size, h.row, fun i hi => ⟨N, M, h.cs i hi, Nat.le_refl _, by have := h.hM; have := h.hr; omega, .inl h.hM⟩, h.hN, h.hg, h.hr⟩
theorem S2.alloc (h : S2 N g q r c w0 w ds V) (o : Obj) : S2 N g q r c w0 (w.alloc o) ds V :=
  ⟨h.rd.alloc o, only_alloc h.only o, h.size, h.row.alloc o, fun i hi => by
    obtain ⟨L, U, hc, h1, h2, h3⟩ := h.cs i hi
    exact ⟨L, U, hc.keep (fun k _ hk => Below.heap_alloc w o k (by omega)), h1, by simp; omega, h3⟩, h.hN, h.hg, by have := h.hr; simp; omega⟩
theorem S2.cells (h : S2 N g q r c w0 w ds V) {k j : Nat} (hk : k < ds.length) (hj : j < 3) : w.cell? ⟨r, k * 3 + j, none⟩ = some (decCell (nthD ds k) (V k) j) ∧ w.frozen? ⟨r, k * 3 + j, none⟩ = false := by
  refine ⟨?_, h.row.frozenAt _⟩
  rw [h.row.cellAt _ (by omega)]
  exact cellsOf_at _ hk hj
theorem S2.put (h : S2 N g q r c w0 w ds V) {k : Nat} (hk : k < ds.length) (d : Dec) (u : Value) (hu : Cons w (r + 1) w.heap.size u d.cons) :
    S2 N g q r c w0 (((w.setCell ⟨r, k * 3, none⟩ (.int .i64 d.frm)).setCell ⟨r, k * 3 + 1, none⟩ (.int .i64 d.to)).setCell ⟨r, k * 3 + 2, none⟩ u) (ds.set k d) (fun i => if i = k then u else V i) := by
  have hN := h.hN
  have hg := h.hg
  have hrr := h.hr
  have s1 := (h.row.stored (k * 3) (.int .i64 d.frm)).1
  have s2 := (s1.stored (k * 3 + 1) (.int .i64 d.to)).1
  have s3 := (s2.stored (k * 3 + 2) u).1
  have z := cells_set (n := ds.length) (k := k) (j := 0) (fun i j => decCell (nthD ds i) (V i) j) (.int .i64 d.frm) (by omega)
  rw [Nat.add_zero] at z
  rw [z, cells_set _ _ (by omega), cells_set _ _ (by omega)] at s3
  have hsame : ∀ b, b ≠ r → (((w.setCell ⟨r, k * 3, none⟩ (.int .i64 d.frm)).setCell ⟨r, k * 3 + 1, none⟩ (.int .i64 d.to)).setCell ⟨r, k * 3 + 2, none⟩ u).heap[b]? = w.heap[b]? := fun b hb =>
    (Below.heap_setCell _ _ _ b hb).trans ((Below.heap_setCell _ _ _ b hb).trans (Below.heap_setCell _ _ _ b hb))
  have hlen : (ds.set k d).length = ds.length := by simp
  have hcong : cellsOf 3 ds.length (fun i x => if i = k ∧ x = 2 then u else if i = k ∧ x = 1 then Value.int .i64 d.to else if i = k ∧ x = 0 then Value.int .i64 d.frm else decCell (nthD ds i) (V i) x) = cellsOf 3 (ds.set k d).length (fun i j => decCell (nthD (ds.set k d) i) (if i = k then u else V i) j) := by
    rw [hlen]
    unfold cellsOf
    refine List.map_congr_left fun x _ => ?_
    have l2 : x % 3 < 3 := by omega
    simp only [nthD_set d hk]
    by_cases hik : x / 3 = k
    · rcases (by omega : x % 3 = 0 ∨ x % 3 = 1 ∨ x % 3 = 2) with e | e | e <;> simp [hik, e, decCell]
    · simp [hik]
  rw [hcong] at s3
  refine ⟨((h.rd.set (by show g < r; omega) _).set (by show g < r; omega) _).set (by show g < r; omega) _, only_set (only_set (only_set h.only (by show _ ≤ r; rw [h.size]; omega) _) (by show _ ≤ r; rw [h.size]; omega) _) (by show _ ≤ r; rw [h.size]; omega) _, h.size, by rw [hlen] at s3 ⊢; exact s3, fun i hi => ?_, hN, hg, by simp; omega⟩
  rw [hlen] at hi
  rw [nthD_set d hk]
  by_cases hik : i = k
  · simp only [hik, if_true]
    exact ⟨r + 1, w.heap.size, hu.keep (fun b h1 _ => hsame b (by omega)), by omega, by simp, .inr (by omega)⟩
  · simp only [hik, if_false]
    obtain ⟨L, U, hc, h1, h2, h3⟩ := h.cs i hi
    exact ⟨L, U, hc.keep (fun b h1 h2 => hsame b (by omega)), h1, by simp; omega, h3⟩
theorem S2.fin {p m : Nat} (h : S2 N g q r c w0 w ds V) (hm : ds.length = m) (hl : m ≤ 4) (hq : q ≤ p + 10) : Drawn g p w0 (.returned (.slice (some ⟨r, 0, none⟩) m c)) w := by
  subst hm
  obtain ⟨A, c', e, ro⟩ := row_of_own h.row
  have h4 := h.hr
  refine ⟨_, ds, rfl, by omega, ?_, ⟨q, hq, h.rd⟩, h.only⟩
  rw [h.size]
  exact ⟨A, c', V, e, ro, fun i hi => by
    obtain ⟨L, U, hc, h1, h2, _⟩ := h.cs i hi
    exact hc.wide h1 h2⟩
end
set_option maxHeartbeats 1600000 in
theorem drawInhabited (A : Option Addr) (n c : Nat) (w : World) (h : Code_ w A n c) :
    Calls Try.prog 15 #[.slice A n c] w (Drew w) := by
  go_enter Try.func15, Try.ntmps15
  go_wp2_with fail
  refine (newReader_any A n c w.heap.size w h.1 h.2.1 h.2.2 (Nat.le_refl _)).mono ?_
  rintro e w0 ⟨g, rfl, hr0, hB0, hg0⟩
  have HB := Lib.hid hB0
  have hgl := hr0.lt
  go_wp2_with fail
  refine (goodDecls_any g 0 w0 hr0 (by omega)).mono ?_
  rintro e w1 ⟨v, ds, rfl, hl3, hl4, hown, hr1, hg1⟩
  obtain ⟨r, c', M, V, rfl, hnc, hcm, st1⟩ := own_st hown hr1 hg1 hgl (by omega)
  clear hown
  go_wp2_with fail
  refine (pick_any _ g (0 + 1) w1 hr1 (by omega)).mono ?_
  intro e w2 hP
  obtain ⟨k, rfl, hk, hr2, hg2⟩ := hP.some_ (by omega)
  have st2 := st1.step hr2 hg2
  clear hP
  go_wp2_with fail
  refine (pick_any _ g (0 + 2) w2 hr2 (by omega)).mono ?_
  intro e w3 hP
  obtain ⟨x, rfl, hx, hr3, hg3⟩ := hP.some_ (by omega)
  have st3 := (st2.step hr3 hg3).two
  clear hP st1 st2 hg1 hg2 hg3 hr1 hr2 hr0 hB0
  have hkl : k < ds.length := by omega
  have S3 := Lib.hid st3
  have hz3 := st3.hr
  have hr3 := st3.hN
  have fin : ∀ W, Drawn g 0 w0 (.returned (.slice (some ⟨r, 0, none⟩) ds.length c')) W → Drew w (.returned (.slice (some ⟨r, 0, none⟩) ds.length c')) W := fun W ⟨v, ds', e, hl, hd, _, ho⟩ => by
    have hz := HB.out.size
    exact ⟨v, ds', e, hl, hd.wide hz (Nat.le_refl _), HB.out.grown ho hz (fun k e => by injection e; omega)⟩
  by_cases x0 : x = 0
  · subst x0
    have C0 := fun O1 O2 O3 => ((((S3.out.alloc O1).alloc O2).alloc O3).cells hkl (j := 0) (by omega))
    have C1 := fun O1 O2 O3 => ((((S3.out.alloc O1).alloc O2).alloc O3).cells hkl (j := 1) (by omega))
    have C2 := fun O1 O2 O3 => ((((S3.out.alloc O1).alloc O2).alloc O3).cells hkl (j := 2) (by omega))
    simp only [Nat.add_zero] at C0
    have E0 := fun O1 O2 O3 => (C0 O1 O2 O3).1
    have F0 := fun O1 O2 O3 => (C0 O1 O2 O3).2
    have E1 := fun O1 O2 O3 => (C1 O1 O2 O3).1
    have F1 := fun O1 O2 O3 => (C1 O1 O2 O3).2
    have E2 := fun O1 O2 O3 => (C2 O1 O2 O3).1
    have F2 := fun O1 O2 O3 => (C2 O1 O2 O3).2
    clear C0 C1 C2
    go_wp2_with (go_at_call 45; refine (con_any _ _ _ _).mono ?_; rintro e w' ⟨rfl, rfl⟩)
    go_ret
    refine fin _ (S2.fin (S2.put (((S3.out.alloc _).alloc _).alloc _) hkl ⟨0, 0, [[(k : Int) + 1]]⟩ _ ?_) (by simp) hl4 (by omega))
    refine cons_lit (b := w3.heap.size + 2) [[(k : Int) + 1]] [.slice (some ⟨w3.heap.size, 0, none⟩) 1 1] (by
      exact alloc_last _ _ _ (by simp only [World.size_alloc]; try omega)) rfl (fun i hi => ?_) (by omega) (by simp only [World.size_alloc]; omega) (by simp)
    obtain rfl : i = 0 := by simp at hi; omega
    exact ints_lit [(k : Int) + 1] (by
      iterate 2 (refine Eq.trans (Below.heap_alloc _ _ _ ?_) ?_; · (simp only [World.size_alloc]; omega))
      exact alloc_last _ _ _ rfl) (by omega) (by simp only [World.size_alloc]; omega) (by simp)
  · by_cases x1 : x = 1
    · subst x1
      have C0 := fun O1 O2 O3 O4 O5 => ((((((S3.out.alloc O1).alloc O2).alloc O3).alloc O4).alloc O5).cells (k := 0) (by omega) (j := 0) (by omega))
      have C1 := fun O1 O2 O3 O4 O5 => ((((((S3.out.alloc O1).alloc O2).alloc O3).alloc O4).alloc O5).cells (k := 0) (by omega) (j := 1) (by omega))
      have C2 := fun O1 O2 O3 O4 O5 => ((((((S3.out.alloc O1).alloc O2).alloc O3).alloc O4).alloc O5).cells (k := 0) (by omega) (j := 2) (by omega))
      simp only [Nat.add_zero, Nat.zero_mul, Nat.zero_add] at C0 C1 C2
      have E0 := fun O1 O2 O3 O4 O5 => (C0 O1 O2 O3 O4 O5).1
      have F0 := fun O1 O2 O3 O4 O5 => (C0 O1 O2 O3 O4 O5).2
      have E1 := fun O1 O2 O3 O4 O5 => (C1 O1 O2 O3 O4 O5).1
      have F1 := fun O1 O2 O3 O4 O5 => (C1 O1 O2 O3 O4 O5).2
      have E2 := fun O1 O2 O3 O4 O5 => (C2 O1 O2 O3 O4 O5).1
      have F2 := fun O1 O2 O3 O4 O5 => (C2 O1 O2 O3 O4 O5).2
      clear C0 C1 C2
      go_wp2_with fail
      refine (con_any _ _ _ _).mono ?_
      rintro e w' ⟨rfl, rfl⟩
      go_wp2_with fail
      refine (con_any _ _ _ _).mono ?_
      rintro e w' ⟨rfl, rfl⟩
      go_wp2_with fail
      have P1 := S2.put (((((S3.out.alloc (.cells #[.int .i64 3] 3)).alloc (.cells #[.slice (some ⟨w3.heap.size, 0, none⟩) 1 1] 32)).alloc (.cells #[.int .i64 1, .int .i64 1] 3)).alloc (.cells #[.slice (some ⟨w3.heap.size + 1 + 1, 0, none⟩) 2 2] 32)).alloc (.cells #[.slice (some ⟨w3.heap.size, 0, none⟩) 1 1, .slice (some ⟨w3.heap.size + 1 + 1, 0, none⟩) 2 2] 32)) (k := 0) (by omega) ⟨0, 0, [[3], [1, 1]]⟩ (.slice (some ⟨w3.heap.size + 1 + 1 + 1 + 1, 0, none⟩) 2 2) (by
        refine cons_lit (b := w3.heap.size + 4) [[3], [1, 1]] [.slice (some ⟨w3.heap.size, 0, none⟩) 1 1, .slice (some ⟨w3.heap.size + 1 + 1, 0, none⟩) 2 2] (by
          exact alloc_last _ _ _ (by simp only [World.size_alloc])) rfl (fun i hi => ?_) (by omega) (by simp only [World.size_alloc]; omega) (by simp)
        rcases (by simp at hi; omega : i = 0 ∨ i = 1) with rfl | rfl
        · exact ints_lit [3] (by
            iterate 4 (refine Eq.trans (Below.heap_alloc _ _ _ ?_) ?_; · (simp only [World.size_alloc]; omega))
            exact alloc_last _ _ _ rfl) (by omega) (by simp only [World.size_alloc]; omega) (by simp)
        · exact ints_lit [1, 1] (by
            iterate 2 (refine Eq.trans (Below.heap_alloc _ _ _ ?_) ?_; · (simp only [World.size_alloc]; omega))
            exact alloc_last _ _ _ (by simp only [World.size_alloc])) (by omega) (by simp only [World.size_alloc]; omega) (by simp))
      have hlen1 : (ds.set 0 ⟨0, 0, [[3], [1, 1]]⟩).length = ds.length := by simp
      simp only [Nat.zero_mul, Nat.zero_add] at P1
      have C0 := fun O1 O2 O3 => ((((P1.alloc O1).alloc O2).alloc O3).cells (k := 2) (by rw [hlen1]; omega) (j := 0) (by omega))
      have C1 := fun O1 O2 O3 => ((((P1.alloc O1).alloc O2).alloc O3).cells (k := 2) (by rw [hlen1]; omega) (j := 1) (by omega))
      have C2 := fun O1 O2 O3 => ((((P1.alloc O1).alloc O2).alloc O3).cells (k := 2) (by rw [hlen1]; omega) (j := 2) (by omega))
      simp only [Nat.add_zero, Nat.reduceMul, Nat.reduceAdd] at C0 C1 C2
      have G0 := fun O1 O2 O3 => (C0 O1 O2 O3).1
      have H0 := fun O1 O2 O3 => (C0 O1 O2 O3).2
      have G1 := fun O1 O2 O3 => (C1 O1 O2 O3).1
      have H1 := fun O1 O2 O3 => (C1 O1 O2 O3).2
      have G2 := fun O1 O2 O3 => (C2 O1 O2 O3).1
      have H2 := fun O1 O2 O3 => (C2 O1 O2 O3).2
      clear C0 C1 C2 E0 E1 E2 F0 F1 F2
      have HP := Lib.hid P1
      clear P1
      refine (con_any _ _ _ _).mono ?_
      rintro e w' ⟨rfl, rfl⟩
      go_wp2_with fail
      go_ret
      refine fin _ (S2.fin (S2.put (((HP.out.alloc _).alloc _).alloc _) (k := 2) (by rw [hlen1]; omega) ⟨0, 0, [[1, 0]]⟩ _ ?_) (by simp) hl4 (by omega))
      refine cons_lit (b := w3.heap.size + 7) [[1, 0]] [.slice (some ⟨w3.heap.size + 1 + 1 + 1 + 1 + 1, 0, none⟩) 2 2] (by
        exact alloc_last _ _ _ (by simp only [World.size_alloc, World.size_setCell])) rfl (fun i hi => ?_) (by omega) (by simp only [World.size_alloc, World.size_setCell]; omega) (by simp)
      obtain rfl : i = 0 := by simp at hi; omega
      exact ints_lit [1, 0] (by
        iterate 2 (refine Eq.trans (Below.heap_alloc _ _ _ ?_) ?_; · (simp only [World.size_alloc, World.size_setCell]; omega))
        exact alloc_last _ _ _ (by simp only [World.size_alloc, World.size_setCell])) (by omega) (by simp only [World.size_alloc, World.size_setCell]; omega) (by simp)
    · by_cases x2 : x = 2
      · subst x2
        go_wp2_with fail
        refine (anyDecls_any g (0 + 2 + 1) w3 S3.out.rd (by omega)).mono ?_
        rintro e w4 ⟨v, ds', rfl, hl, hd, _, ho⟩
        have hz := HB.out.size
        have hz0 := S3.out.only.size
        have hN := S3.out.size
        have ho' := only_trans S3.out.only ho
        have hf : Drew w (.returned v) w4 := ⟨v, ds', rfl, hl, hd.wide (by omega) (Nat.le_refl _), HB.out.grown ho' hz (fun k e => by injection e; omega)⟩
        have HF := Lib.hid hf
        clear hf hd ho ho' x0 x1
        go_wp2_with fail
        go_ret
        exact HF.out
      · have n0 : ((x : Int) == 0) = false := by simp; omega
        have n1 : ((x : Int) == 1) = false := by simp; omega
        have n2 : ((x : Int) == 2) = false := by simp; omega
        clear x0 x1 x2
        go_wp2_with fail
        go_ret
        exact fin _ (S3.out.fin rfl hl4 (by omega))
end Go.Proofs.Ytgbeongiejppnaa

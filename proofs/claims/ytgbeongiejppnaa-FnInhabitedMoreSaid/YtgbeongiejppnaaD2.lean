/- Contracts of the generator: declarations that may be invalid. -/
import Derived.Test.YtgbeongiejppnaaH
namespace Go.Proofs.Ytgbeongiejppnaa
open Go.RowKit Go.BigFrame
set_option maxHeartbeats 1600000 in
theorem anyDecls_any (g p : Nat) (w : World) (hr : Rd w g p) (hp : p ≤ 990000) :
    Calls Try.prog 46 #[.pointer (some ⟨g, 0, none⟩)] w (Drawn g p w) := by
  have hgl := hr.lt
  go_enter Try.func46, Try.ntmps46
  go_wp2_with fail
  refine (goodDecls_any g p w hr (by omega)).mono ?_
  rintro e w1 ⟨v, ds, rfl, hl3, hl4, hown, hr1, hg1⟩
  obtain ⟨r, c, M, V, rfl, hnc, hcm, st1⟩ := own_st hown hr1 hg1 hgl (by omega)
  clear hown
  go_wp2_with fail
  refine (pick_any _ g (p + 1) w1 hr1 (by omega)).mono ?_
  intro e w2 hP
  obtain ⟨k, rfl, hk, hr2, hg2⟩ := hP.some_ (by omega)
  have st2 := st1.step hr2 hg2
  clear hP
  go_wp2_with fail
  refine (pick_any _ g (p + 2) w2 hr2 (by omega)).mono ?_
  intro e w3 hP
  obtain ⟨x, rfl, hx, hr3, hg3⟩ := hP.some_ (by omega)
  have st3 := st2.step hr3 hg3
  clear hP st1 st2 hg1 hg2 hg3 hr1 hr2
  have hkl : k < ds.length := by omega
  have k0 : (0 : Int) ≤ (k : Int) := by omega
  have S3 := Lib.hid st3
  have hz3 := st3.hr
  clear st3
  by_cases x0 : x = 0
  · subst x0
    go_wp2_with fail
    refine (one_any [-1, 5, 0, 2] _ g (p + 3) w3.heap.size (w3.heap.size + 1) _ (S3.out.alloc _).rd (by omega) (ints_lit [-1, 5, 0, 2] (heap_alloc_new w3 _) (Nat.le_refl _) (by omega) (by simp)) (by have := S3.out.hg; have := S3.out.hN; omega) (by simp) (by simp)).mono ?_
    rintro e w4 ⟨y1, _, rfl, hr4, hg4⟩
    have st4 := (S3.out.alloc _).step hr4 hg4
    have S4 := Lib.hid st4
    have hz4 := st4.hr
    clear st4 S3 hz3
    go_wp2_with fail
    refine (one_any [0, 1, 5] _ g (p + 4) w4.heap.size (w4.heap.size + 1) _ (S4.out.alloc _).rd (by omega) (ints_lit [0, 1, 5] (heap_alloc_new w4 _) (Nat.le_refl _) (by omega) (by simp)) (by have := S4.out.hg; have := S4.out.hN; omega) (by simp) (by simp)).mono ?_
    rintro e w5 ⟨y2, _, rfl, hr5, hg5⟩
    have st5 := (S4.out.alloc _).step hr5 hg5
    have S5 := Lib.hid st5
    obtain ⟨e0, f0⟩ := st5.cells hkl (j := 0) (by omega)
    obtain ⟨e1, f1⟩ := st5.cells hkl (j := 1) (by omega)
    obtain ⟨e2, f2⟩ := st5.cells hkl (j := 2) (by omega)
    rw [Nat.add_zero] at e0 f0
    have HE := Lib.hid (st5.done hkl ⟨y1, y2, []⟩ (.slice none 0 0) (cons_nil _ _ _))
    clear st5 S4 hz4 hr4 hg4 hr5 hg5
    go_wp2_with fail
    go_ret
    obtain ⟨hd, hrd, ho⟩ := HE.out
    exact ⟨_, _, rfl, by simp; omega, hd.wide (Nat.le_refl _) (by simp), ⟨_, by omega, hrd⟩, ho⟩
  · by_cases x1 : x = 1
    · subst x1
      go_wp2_with fail
      refine (one_any [-1, 0, 4, 5] _ g (p + 3) w3.heap.size (w3.heap.size + 1) _ (S3.out.alloc _).rd (by omega) (ints_lit [-1, 0, 4, 5] (heap_alloc_new w3 _) (Nat.le_refl _) (by omega) (by simp)) (by have := S3.out.hg; have := S3.out.hN; omega) (by simp) (by simp)).mono ?_
      rintro e w4 ⟨y1, _, rfl, hr4, hg4⟩
      have st4 := (S3.out.alloc _).step hr4 hg4
      have S4 := Lib.hid st4
      have hz4 := st4.hr
      clear st4 S3 hz3
      have E0 : ∀ O1 O2 O3 O4 O5 O6 O7, (((((((w4.alloc O1).alloc O2).alloc O3).alloc O4).alloc O5).alloc O6).alloc O7).cell? ⟨r, k * 3, none⟩ = some (decCell (nthD ds k) (V k) 0) := fun O1 O2 O3 O4 O5 O6 O7 => by have h := ((((((((S4.out.alloc O1).alloc O2).alloc O3).alloc O4).alloc O5).alloc O6).alloc O7).cells hkl (j := 0) (by omega)).1; rw [Nat.add_zero] at h; exact h
      have F0 : ∀ O1 O2 O3 O4 O5 O6 O7, (((((((w4.alloc O1).alloc O2).alloc O3).alloc O4).alloc O5).alloc O6).alloc O7).frozen? ⟨r, k * 3, none⟩ = false := fun O1 O2 O3 O4 O5 O6 O7 => by have h := ((((((((S4.out.alloc O1).alloc O2).alloc O3).alloc O4).alloc O5).alloc O6).alloc O7).cells hkl (j := 0) (by omega)).2; rw [Nat.add_zero] at h; exact h
      have E1 : ∀ O1 O2 O3 O4 O5 O6 O7, (((((((w4.alloc O1).alloc O2).alloc O3).alloc O4).alloc O5).alloc O6).alloc O7).cell? ⟨r, k * 3 + 1, none⟩ = some (decCell (nthD ds k) (V k) 1) := fun O1 O2 O3 O4 O5 O6 O7 => by have h := ((((((((S4.out.alloc O1).alloc O2).alloc O3).alloc O4).alloc O5).alloc O6).alloc O7).cells hkl (j := 1) (by omega)).1; exact h
      have F1 : ∀ O1 O2 O3 O4 O5 O6 O7, (((((((w4.alloc O1).alloc O2).alloc O3).alloc O4).alloc O5).alloc O6).alloc O7).frozen? ⟨r, k * 3 + 1, none⟩ = false := fun O1 O2 O3 O4 O5 O6 O7 => by have h := ((((((((S4.out.alloc O1).alloc O2).alloc O3).alloc O4).alloc O5).alloc O6).alloc O7).cells hkl (j := 1) (by omega)).2; exact h
      have E2 : ∀ O1 O2 O3 O4 O5 O6 O7, (((((((w4.alloc O1).alloc O2).alloc O3).alloc O4).alloc O5).alloc O6).alloc O7).cell? ⟨r, k * 3 + 2, none⟩ = some (decCell (nthD ds k) (V k) 2) := fun O1 O2 O3 O4 O5 O6 O7 => by have h := ((((((((S4.out.alloc O1).alloc O2).alloc O3).alloc O4).alloc O5).alloc O6).alloc O7).cells hkl (j := 2) (by omega)).1; exact h
      have F2 : ∀ O1 O2 O3 O4 O5 O6 O7, (((((((w4.alloc O1).alloc O2).alloc O3).alloc O4).alloc O5).alloc O6).alloc O7).frozen? ⟨r, k * 3 + 2, none⟩ = false := fun O1 O2 O3 O4 O5 O6 O7 => by have h := ((((((((S4.out.alloc O1).alloc O2).alloc O3).alloc O4).alloc O5).alloc O6).alloc O7).cells hkl (j := 2) (by omega)).2; exact h
      go_wp2_with (go_at_call 45; refine (con_any _ _ _ _).mono ?_; rintro e w' ⟨rfl, rfl⟩)
      go_ret
      have st7 := fun O1 O2 O3 O4 O5 O6 O7 => ((((((S4.out.alloc O1).alloc O2).alloc O3).alloc O4).alloc O5).alloc O6).alloc O7
      refine (st7 _ _ _ _ _ _ _).fin hkl ⟨0, 0, [[y1], [0, 0, 0, 0], []]⟩ _ ?_ hl4 (by omega)
      refine cons_lit (b := w4.heap.size + 6) [[y1], [0, 0, 0, 0], []] [.slice (some ⟨w4.heap.size, 0, none⟩) 1 1, .slice (some ⟨w4.heap.size + 2, 0, none⟩) 4 4, .slice (some ⟨w4.heap.size + 4, 0, none⟩) 0 0] (by
          exact alloc_last _ _ _ (by simp only [World.size_alloc]; try omega)) rfl (fun i hi => ?_) (by omega) (by simp only [World.size_alloc]; omega) (by simp)
      rcases (by simp at hi; omega : i = 0 ∨ i = 1 ∨ i = 2) with rfl | rfl | rfl
      · exact ints_lit [y1] (by
          iterate 6 (refine Eq.trans (Below.heap_alloc _ _ _ ?_) ?_; · (simp only [World.size_alloc]; omega))
          exact alloc_last _ _ _ rfl) (by omega) (by simp only [World.size_alloc]; omega) (by simp)
      · exact ints_lit [0, 0, 0, 0] (by
          iterate 4 (refine Eq.trans (Below.heap_alloc _ _ _ ?_) ?_; · (simp only [World.size_alloc]; omega))
          exact alloc_last _ _ _ (by simp only [World.size_alloc]; try omega)) (by omega) (by simp only [World.size_alloc]; omega) (by simp)
      · exact ints_lit [] (by
          iterate 2 (refine Eq.trans (Below.heap_alloc _ _ _ ?_) ?_; · (simp only [World.size_alloc]; omega))
          exact alloc_last _ _ _ (by simp only [World.size_alloc]; try omega)) (by omega) (by simp only [World.size_alloc]; omega) (by simp)
    · by_cases x2 : x = 2
      · subst x2
        have E0 : ∀ O1 O2 O3, (((w3.alloc O1).alloc O2).alloc O3).cell? ⟨r, k * 3, none⟩ = some (decCell (nthD ds k) (V k) 0) := fun O1 O2 O3 => by have h := ((((S3.out.alloc O1).alloc O2).alloc O3).cells hkl (j := 0) (by omega)).1; rw [Nat.add_zero] at h; exact h
        have F0 : ∀ O1 O2 O3, (((w3.alloc O1).alloc O2).alloc O3).frozen? ⟨r, k * 3, none⟩ = false := fun O1 O2 O3 => by have h := ((((S3.out.alloc O1).alloc O2).alloc O3).cells hkl (j := 0) (by omega)).2; rw [Nat.add_zero] at h; exact h
        have E1 : ∀ O1 O2 O3, (((w3.alloc O1).alloc O2).alloc O3).cell? ⟨r, k * 3 + 1, none⟩ = some (decCell (nthD ds k) (V k) 1) := fun O1 O2 O3 => by have h := ((((S3.out.alloc O1).alloc O2).alloc O3).cells hkl (j := 1) (by omega)).1; exact h
        have F1 : ∀ O1 O2 O3, (((w3.alloc O1).alloc O2).alloc O3).frozen? ⟨r, k * 3 + 1, none⟩ = false := fun O1 O2 O3 => by have h := ((((S3.out.alloc O1).alloc O2).alloc O3).cells hkl (j := 1) (by omega)).2; exact h
        have E2 : ∀ O1 O2 O3, (((w3.alloc O1).alloc O2).alloc O3).cell? ⟨r, k * 3 + 2, none⟩ = some (decCell (nthD ds k) (V k) 2) := fun O1 O2 O3 => by have h := ((((S3.out.alloc O1).alloc O2).alloc O3).cells hkl (j := 2) (by omega)).1; exact h
        have F2 : ∀ O1 O2 O3, (((w3.alloc O1).alloc O2).alloc O3).frozen? ⟨r, k * 3 + 2, none⟩ = false := fun O1 O2 O3 => by have h := ((((S3.out.alloc O1).alloc O2).alloc O3).cells hkl (j := 2) (by omega)).2; exact h
        go_wp2_with (go_at_call 45; refine (con_any _ _ _ _).mono ?_; rintro e w' ⟨rfl, rfl⟩)
        go_ret
        have st7 := fun O1 O2 O3 => ((S3.out.alloc O1).alloc O2).alloc O3
        refine (st7 _ _ _).fin hkl ⟨0, 0, [[(k : Int) + 1]]⟩ _ ?_ hl4 (by omega)
        refine cons_lit (b := w3.heap.size + 2) [[(k : Int) + 1]] [.slice (some ⟨w3.heap.size, 0, none⟩) 1 1] (by
          exact alloc_last _ _ _ (by simp only [World.size_alloc]; try omega)) rfl (fun i hi => ?_) (by omega) (by simp only [World.size_alloc]; omega) (by simp)
        obtain rfl : i = 0 := by simp at hi; omega
        exact ints_lit [(k : Int) + 1] (by
          iterate 2 (refine Eq.trans (Below.heap_alloc _ _ _ ?_) ?_; · (simp only [World.size_alloc]; omega))
          exact alloc_last _ _ _ rfl) (by omega) (by simp only [World.size_alloc]; omega) (by simp)
      · by_cases x3 : x = 3
        · subst x3
          go_wp2_with fail
          refine (one_any [0, 2, 1] _ g (p + 3) w3.heap.size (w3.heap.size + 1) _ (S3.out.alloc _).rd (by omega) (ints_lit [0, 2, 1] (heap_alloc_new w3 _) (Nat.le_refl _) (by omega) (by simp)) (by have := S3.out.hg; have := S3.out.hN; omega) (by simp) (by simp)).mono ?_
          rintro e w4 ⟨y1, _, rfl, hr4, hg4⟩
          have st4 := (S3.out.alloc _).step hr4 hg4
          have S4 := Lib.hid st4
          have hz4 := st4.hr
          have hN4 := st4.hN
          clear st4 S3 hz3
          obtain ⟨i0, hi, hz0, hz1, hz2⟩ := info_parts infoDecl
          go_wp2_with (at_builtin; refine wpList_append_own_at _ rfl _ _ 23 rfl w.heap.size 30 i0 (.agg #[.int .i64 0, .int .i64 0, .slice none 0 0]) 3 40 Try.underlying23 hi hz0 hz1 hz2 rfl (by decide) _ _ _ rfl (S4.out.row.alloc _) ⟨w4.heap.size, 0, none⟩ 1 1 [.int .i64 2, .int .i64 y1, .slice none 0 0] rfl rfl ?c1 ?c2 ?c3 ?c4 ?c5 ?_)
          case c1 => exact World.news_of_block (fr := (0, 0)) (heap_alloc_new _ _)
          case c2 => intro u hu; simp at hu; rcases hu with rfl | rfl | rfl <;> rfl
          case c3 => unfold maxLen; omega
          case c4 => omega
          case c5 => simp; omega
          intro v' w5 hown hg5 _ _
          rw [show [Value.int .i64 2, .int .i64 y1, .slice none 0 0] = cellsOf 3 1 fun i j => decCell (nthD [(⟨2, y1, []⟩ : Dec)] i) (.slice none 0 0) j from rfl] at hown
          have HF := Lib.hid (S4.out.more (p := p) (m := 1) (more := [⟨2, y1, []⟩]) _ rfl (by simp) hown hg5 (by omega) (by omega))
          clear hown hg5
          go_wp2_with fail
          go_ret
          exact HF.out
        · by_cases x4 : x = 4
          · subst x4
            go_wp2_with fail
            refine (pick_any _ g (p + 3) _ S3.out.rd (by omega)).mono ?_
            intro e w4 hP
            obtain ⟨y, rfl, hy, hr4, hg4⟩ := hP.some_ (by omega)
            have st4 := S3.out.step hr4 hg4
            have S4 := Lib.hid st4
            have hz4 := st4.hr
            have hN4 := st4.hN
            clear st4 S3 hz3 hP
            go_wp2_with (go_at_call 45; refine (con_any _ _ _ _).mono ?_; rintro e w' ⟨rfl, rfl⟩)
            have st9 := fun O1 O2 O3 O4 O5 O6 O7 O8 O9 => (((((((((S4.out.alloc O1).alloc O2).alloc O3).alloc O4).alloc O5).alloc O6).alloc O7).alloc O8).alloc O9)
            refine named ?_
            intro W hW
            have st9' : St w.heap.size g (p + 3 + 1) r c M w W ds V := by rw [hW]; exact st9 _ _ _ _ _ _ _ _ _
            have b0 : W.heap[w4.heap.size]? = some (.cells #[] 3 (0, 0)) := by rw [hW]; exact (by
                iterate 8 (refine Eq.trans (Below.heap_alloc _ _ _ ?_) ?_; · (simp only [World.size_alloc]; omega))
                exact alloc_last _ _ _ rfl)
            have b2 : W.heap[w4.heap.size + 2]? = some (.cells #[.int .i64 2] 3 (0, 0)) := by rw [hW]; exact (by
                iterate 6 (refine Eq.trans (Below.heap_alloc _ _ _ ?_) ?_; · (simp only [World.size_alloc]; omega))
                exact alloc_last _ _ _ (by simp only [World.size_alloc]; try omega))
            have b4 : W.heap[w4.heap.size + 4]? = some (.cells #[] 3 (0, 0)) := by rw [hW]; exact (by
                iterate 4 (refine Eq.trans (Below.heap_alloc _ _ _ ?_) ?_; · (simp only [World.size_alloc]; omega))
                exact alloc_last _ _ _ (by simp only [World.size_alloc]; try omega))
            have b6 : W.heap[w4.heap.size + 6]? = some (.cells #[] 3 (0, 0)) := by rw [hW]; exact (by
                iterate 2 (refine Eq.trans (Below.heap_alloc _ _ _ ?_) ?_; · (simp only [World.size_alloc]; omega))
                exact alloc_last _ _ _ (by simp only [World.size_alloc]; try omega))
            have b8 : W.heap[w4.heap.size + 8]? = some (.cells #[.slice (some ⟨w4.heap.size, 0, none⟩) 0 0, .slice (some ⟨w4.heap.size + 2, 0, none⟩) 1 1, .slice (some ⟨w4.heap.size + 4, 0, none⟩) 0 0, .slice (some ⟨w4.heap.size + 6, 0, none⟩) 0 0] 32 (0, 0)) := by rw [hW]; exact (by
                exact alloc_last _ _ _ (by simp only [World.size_alloc]; try omega))
            have hWs : W.heap.size = w4.heap.size + 9 := by rw [hW]; simp only [World.size_alloc]
            clear hW st9
            have d0 : Cons W (r + 1) W.heap.size (.slice (some ⟨w4.heap.size + 8, 0, none⟩) 4 4) [[], [2], [], []] :=
              cons_lit [[], [2], [], []] [_, _, _, _] b8 rfl (fun i hi => by
                rcases (by simp at hi; omega : i = 0 ∨ i = 1 ∨ i = 2 ∨ i = 3) with rfl | rfl | rfl | rfl
                · exact ints_lit [] b0 (by omega) (by omega) (by simp)
                · exact ints_lit [2] b2 (by omega) (by omega) (by simp)
                · exact ints_lit [] b4 (by omega) (by omega) (by simp)
                · exact ints_lit [] b6 (by omega) (by omega) (by simp)) (by omega) (by omega) (by simp)
            clear b0 b2 b4 b6 b8
            simp only [Nat.add_assoc, Nat.reduceAdd]
            refine (pick_any _ g (p + 3 + 1) W st9'.rd (by omega)).mono ?_
            intro e w5 hP
            obtain ⟨z, rfl, hz, hr5, hg5⟩ := hP.some_ (by omega)
            have st5 := st9'.step hr5 hg5
            have d1 : Cons w5 (r + 1) W.heap.size (.slice (some ⟨w4.heap.size + 8, 0, none⟩) 4 4) [[], [2], [], []] := d0.keep (Same.of_grown hg5 (Nat.le_refl _) (fun k e => by injection e; have := st5.hg; have := st5.hN; omega))
            have hsz5 := hg5.size
            obtain ⟨e0, f0⟩ := st5.cells hkl (j := 0) (by omega)
            obtain ⟨e1, f1⟩ := st5.cells hkl (j := 1) (by omega)
            obtain ⟨e2, f2⟩ := st5.cells hkl (j := 2) (by omega)
            rw [Nat.add_zero] at e0 f0
            have S5 := Lib.hid st5
            have D1 := Lib.hid (d1.wide (Nat.le_refl _) hsz5)
            clear st5 d1 d0 st9' hP hr5 hg5 S4 hr4 hg4
            rcases (by omega : z = 0 ∨ z = 1 ∨ z = 2) with rfl | rfl | rfl
            · go_wp2_with fail
              go_ret
              exact S5.out.fin hkl ⟨y, 0, [[], [2], [], []]⟩ _ D1.out hl4 (by omega)
            · go_wp2_with fail
              go_ret
              exact S5.out.fin hkl ⟨y, 0, [[2], [], []]⟩ _ (cons_drop (cs := [[], [2], [], []]) (j := 1) D1.out (by decide)) hl4 (by omega)
            · go_wp2_with fail
              go_ret
              exact S5.out.fin hkl ⟨y, 0, [[], []]⟩ _ (cons_drop (cs := [[], [2], [], []]) (j := 2) D1.out (by decide)) hl4 (by omega)
          · by_cases x5 : x = 5
            · subst x5
              have hN3 := S3.out.hN
              obtain ⟨i0, hi, hz0, hz1, hz2⟩ := info_parts infoDecl
              go_wp2_with (at_builtin; refine wpList_append_own_at _ rfl _ _ 23 rfl w.heap.size 30 i0 (.agg #[.int .i64 0, .int .i64 0, .slice none 0 0]) 3 40 Try.underlying23 hi hz0 hz1 hz2 rfl (by decide) _ _ _ rfl (S3.out.row.alloc _) ⟨w3.heap.size, 0, none⟩ 2 2 [.int .i64 0, .int .i64 0, .slice none 0 0, .int .i64 3, .int .i64 0, .slice none 0 0] rfl rfl ?c1 ?c2 ?c3 ?c4 ?c5 ?_)
              case c1 => exact World.news_of_block (fr := (0, 0)) (heap_alloc_new _ _)
              case c2 => intro u hu; simp at hu; rcases hu with rfl | rfl | rfl | rfl | rfl <;> rfl
              case c3 => unfold maxLen; omega
              case c4 => omega
              case c5 => simp; omega
              intro v' w5 hown hg5 _ _
              rw [show [Value.int .i64 0, .int .i64 0, .slice none 0 0, .int .i64 3, .int .i64 0, .slice none 0 0] = cellsOf 3 2 fun i j => decCell (nthD [(⟨0, 0, []⟩ : Dec), ⟨3, 0, []⟩] i) (.slice none 0 0) j from rfl] at hown
              have HF := Lib.hid (S3.out.more (p := p) (m := 2) (more := [⟨0, 0, []⟩, ⟨3, 0, []⟩]) _ rfl (by simp) hown hg5 (by omega) (by omega))
              clear hown hg5
              go_wp2_with fail
              go_ret
              exact HF.out
            · have n0 : ((x : Int) == 0) = false := by simp; omega
              have n1 : ((x : Int) == 1) = false := by simp; omega
              have n2 : ((x : Int) == 2) = false := by simp; omega
              have n3 : ((x : Int) == 3) = false := by simp; omega
              have n4 : ((x : Int) == 4) = false := by simp; omega
              have n5 : ((x : Int) == 5) = false := by simp; omega
              clear x0 x1 x2 x3 x4 x5
              go_wp2_with fail
              go_ret
              exact S3.out.same hl4 (by omega)
end Go.Proofs.Ytgbeongiejppnaa

/- Contracts of the generator: constructors, declarations. -/
import Derived.Test.YtgbeongiejppnaaS0
namespace Go.Proofs.Ytgbeongiejppnaa
open Go.RowKit Go.BigFrame
set_option maxHeartbeats 400000 in
theorem con_any (A : Option Addr) (n c : Nat) (w : World) :
    Calls Try.prog 45 #[.slice A n c] w fun e w' => e = .returned (.agg #[.slice A n c]) ∧ w.alloc (.cells #[.slice A n c] 32) = w' := by
  go_enter Try.func45, Try.ntmps45
  go_wp2_with fail
  refine bodyPost_ret (v := .agg #[.slice A n c]) (by simp [results, Try.results45, go_sem]) rfl ⟨rfl, rfl⟩
theorem infoDecl : (Try.prog.info? 30).map (fun i => (i.zero, i.size, i.bytes)) = some (some (.agg #[.int .i64 0, .int .i64 0, .slice none 0 0]), 3, 40) := by kernel_rfl
theorem cons_lit {w : World} {b L U : Nat} {T : TypeId} (cs : List (List Int)) (vs : List Value) (h : w.heap[b]? = some (.cells vs.toArray T (0, 0))) (hl : vs.length = cs.length) (hi : ∀ i, i < cs.length → Ints w L U (vs.getD i undef) (nthL cs i)) (hL : L ≤ b) (hU : b < U) (hs : cs.length ≤ 1000) :
    Cons w L U (.slice (some ⟨b, 0, none⟩) cs.length cs.length) cs := by
  refine ⟨_, _, fun i => vs.getD i undef, rfl, ⟨Nat.le_refl _, by unfold maxLen; omega, (fun e => by cases e), fun _ => ⟨b, 0, rfl, hL, hU, fun i j hi hj => ?_⟩⟩, hi⟩
  obtain rfl : j = 0 := by omega
  rw [Nat.zero_add, Nat.mul_one, Nat.add_zero, cell_of_row w b i _ T (0, 0) h]
  simp [hl, hi]
theorem ints_nil (w : World) (L U : Nat) : Ints w L U (.slice none 0 0) [] := ⟨none, 0, rfl, Nat.le_refl _, by simp [maxLen], fun _ => ⟨rfl, rfl⟩, fun h => absurd h (by simp)⟩
theorem cons_nil (w : World) (L U : Nat) : Cons w L U (.slice none 0 0) [] := ⟨none, 0, fun _ => undef, rfl, ⟨Nat.le_refl _, by simp [maxLen], fun _ => ⟨rfl, rfl⟩, fun h => absurd h (by simp)⟩, fun i h => absurd h (by simp)⟩
/-- A slice of declarations that the call owns from base on, its constructors apart from its row. -/
def OwnDecs (w : World) (base : Nat) (v : Value) (ds : List Dec) : Prop :=
  ∃ (M : Nat) (V : Nat → Value), w.ownsRow base 30 3 v ds.length (cellsOf 3 ds.length fun i j => decCell (nthD ds i) (V i) j) ∧ (∀ i, i < ds.length → Cons w base M (V i) (nthD ds i).cons) ∧ M ≤ w.heap.size ∧ ∀ k, v.ownBlock = some k → M ≤ k
theorem OwnDecs.decs {w : World} {base : Nat} {v : Value} {ds : List Dec} (h : OwnDecs w base v ds) : Decs w base w.heap.size v ds := by
  obtain ⟨M, V, hown, hc, hM, _⟩ := h
  obtain ⟨A, c, e, r⟩ := row_of_own hown
  exact ⟨A, c, V, e, r, fun i hi => (hc i hi).wide (Nat.le_refl _) hM⟩

set_option maxRecDepth 4000 in
set_option maxHeartbeats 1600000 in
theorem goodDecls_any (g p : Nat) (w : World) (hr : Rd w g p) (hp : p ≤ 999000) :
    Calls Try.prog 43 #[.pointer (some ⟨g, 0, none⟩)] w fun e w' => ∃ v ds, e = .returned v ∧ 3 ≤ ds.length ∧ ds.length ≤ 4 ∧ OwnDecs w' w.heap.size v ds ∧ Rd w' g (p + 1) ∧ w.grownBy w' (some g) := by
  have hgl := hr.lt
  go_enter Try.func43, Try.ntmps43
  go_wp2_with (go_at_call 45; refine (con_any _ _ _ _).mono ?_; rintro e w' ⟨rfl, rfl⟩)
  refine named ?_
  intro W hW
  have hB : Below w.heap.size w W := by
    rw [hW]
    iterate 23 (refine Below.alloc ?_ (by simp only [World.size_alloc]; omega) _)
    exact (Below.refl _ w).alloc (Nat.le_refl _) _
  have hsz : W.heap.size = w.heap.size + 24 := by rw [hW]; simp
  have b0 : W.heap[w.heap.size]? = some (.cells #[] 3 (0, 0)) := by
    rw [hW]
    iterate 23 (refine Eq.trans (Below.heap_alloc _ _ _ ?_) ?_; · (simp only [World.size_alloc]; omega))
    exact alloc_last _ _ _ rfl
  have b2 : W.heap[w.heap.size + 2]? = some (.cells #[.int .i64 0, .int .i64 1] 3 (0, 0)) := by
    rw [hW]
    iterate 21 (refine Eq.trans (Below.heap_alloc _ _ _ ?_) ?_; · (simp only [World.size_alloc]; omega))
    exact alloc_last _ _ _ (by simp only [World.size_alloc]; try omega)
  have b4 : W.heap[w.heap.size + 4]? = some (.cells #[.slice (some ⟨w.heap.size, 0, none⟩) 0 0, .slice (some ⟨w.heap.size + 2, 0, none⟩) 2 2] 32 (0, 0)) := by
    rw [hW]
    iterate 19 (refine Eq.trans (Below.heap_alloc _ _ _ ?_) ?_; · (simp only [World.size_alloc]; omega))
    exact alloc_last _ _ _ (by simp only [World.size_alloc]; try omega)
  have b6 : W.heap[w.heap.size + 6]? = some (.cells #[] 3 (0, 0)) := by
    rw [hW]
    iterate 17 (refine Eq.trans (Below.heap_alloc _ _ _ ?_) ?_; · (simp only [World.size_alloc]; omega))
    exact alloc_last _ _ _ (by simp only [World.size_alloc]; try omega)
  have b8 : W.heap[w.heap.size + 8]? = some (.cells #[.int .i64 3, .int .i64 0, .int .i64 3] 3 (0, 0)) := by
    rw [hW]
    iterate 15 (refine Eq.trans (Below.heap_alloc _ _ _ ?_) ?_; · (simp only [World.size_alloc]; omega))
    exact alloc_last _ _ _ (by simp only [World.size_alloc]; try omega)
  have b10 : W.heap[w.heap.size + 10]? = some (.cells #[.slice (some ⟨w.heap.size + 6, 0, none⟩) 0 0, .slice (some ⟨w.heap.size + 8, 0, none⟩) 3 3] 32 (0, 0)) := by
    rw [hW]
    iterate 13 (refine Eq.trans (Below.heap_alloc _ _ _ ?_) ?_; · (simp only [World.size_alloc]; omega))
    exact alloc_last _ _ _ (by simp only [World.size_alloc]; try omega)
  have b12 : W.heap[w.heap.size + 12]? = some (.cells #[.int .i64 1, .int .i64 3] 3 (0, 0)) := by
    rw [hW]
    iterate 11 (refine Eq.trans (Below.heap_alloc _ _ _ ?_) ?_; · (simp only [World.size_alloc]; omega))
    exact alloc_last _ _ _ (by simp only [World.size_alloc]; try omega)
  have b14 : W.heap[w.heap.size + 14]? = some (.cells #[.slice (some ⟨w.heap.size + 12, 0, none⟩) 2 2] 32 (0, 0)) := by
    rw [hW]
    iterate 9 (refine Eq.trans (Below.heap_alloc _ _ _ ?_) ?_; · (simp only [World.size_alloc]; omega))
    exact alloc_last _ _ _ (by simp only [World.size_alloc]; try omega)
  have b15 : W.heap[w.heap.size + 15]? = some (.cells #[.int .i64 1, .int .i64 1, .int .i64 0] 3 (0, 0)) := by
    rw [hW]
    iterate 8 (refine Eq.trans (Below.heap_alloc _ _ _ ?_) ?_; · (simp only [World.size_alloc]; omega))
    exact alloc_last _ _ _ (by simp only [World.size_alloc]; try omega)
  have b17 : W.heap[w.heap.size + 17]? = some (.cells #[.int .i64 0] 3 (0, 0)) := by
    rw [hW]
    iterate 6 (refine Eq.trans (Below.heap_alloc _ _ _ ?_) ?_; · (simp only [World.size_alloc]; omega))
    exact alloc_last _ _ _ (by simp only [World.size_alloc]; try omega)
  have b19 : W.heap[w.heap.size + 19]? = some (.cells #[.int .i64 3] 3 (0, 0)) := by
    rw [hW]
    iterate 4 (refine Eq.trans (Below.heap_alloc _ _ _ ?_) ?_; · (simp only [World.size_alloc]; omega))
    exact alloc_last _ _ _ (by simp only [World.size_alloc]; try omega)
  have b21 : W.heap[w.heap.size + 21]? = some (.cells #[.slice (some ⟨w.heap.size + 15, 0, none⟩) 3 3, .slice (some ⟨w.heap.size + 17, 0, none⟩) 1 1, .slice (some ⟨w.heap.size + 19, 0, none⟩) 1 1] 32 (0, 0)) := by
    rw [hW]
    iterate 2 (refine Eq.trans (Below.heap_alloc _ _ _ ?_) ?_; · (simp only [World.size_alloc]; omega))
    exact alloc_last _ _ _ (by simp only [World.size_alloc]; try omega)
  have b22 : W.heap[w.heap.size + 22]? = some (.cells #[.int .i64 0, .int .i64 0, .slice (some ⟨w.heap.size + 14, 0, none⟩) 1 1, .int .i64 1, .int .i64 0, .slice none 0 0, .int .i64 0, .int .i64 0, .slice (some ⟨w.heap.size + 21, 0, none⟩) 3 3, .int .i64 0, .int .i64 1, .slice none 0 0] 30 (0, 0)) := by
    rw [hW]
    iterate 1 (refine Eq.trans (Below.heap_alloc _ _ _ ?_) ?_; · (simp only [World.size_alloc]; omega))
    exact alloc_last _ _ _ (by simp only [World.size_alloc]; try omega)
  have b23 : W.heap[w.heap.size + 23]? = some (.cells #[.int .i64 0, .int .i64 0, .slice (some ⟨w.heap.size + 4, 0, none⟩) 2 2, .int .i64 0, .int .i64 0, .slice none 0 0, .int .i64 0, .int .i64 0, .slice (some ⟨w.heap.size + 10, 0, none⟩) 2 2] 30 (0, 0)) := by
    rw [hW]
    exact alloc_last _ _ _ (by simp only [World.size_alloc]; try omega)
  clear hW
  have hd : ∀ k, k < w.heap.size → W.heap[k]? = w.heap[k]? := hB.block
  refine (pick_any 5 g p W (hr.keep fun k hk => hB.block k (by omega)) (by omega)).mono ?_
  intro e w1 hP
  obtain ⟨x, rfl, hx, hr1, hg1⟩ := hP.some_ (by omega)
  clear hP
  simp only [Nat.add_assoc, Nat.reduceAdd]
  have hz1 : w.heap.size + 24 ≤ w1.heap.size := by have := hg1.size; omega
  have kp : ∀ j O, j < 24 → W.heap[w.heap.size + j]? = some O → w1.heap[w.heap.size + j]? = some O := fun j O hj h => (hg1.block _ (by omega) (by intro e; injection e; omega)).trans h
  have c0 := kp 0 _ (by omega) b0
  have c2 := kp 2 _ (by omega) b2
  have c4 := kp 4 _ (by omega) b4
  have c6 := kp 6 _ (by omega) b6
  have c8 := kp 8 _ (by omega) b8
  have c10 := kp 10 _ (by omega) b10
  have c12 := kp 12 _ (by omega) b12
  have c14 := kp 14 _ (by omega) b14
  have c15 := kp 15 _ (by omega) b15
  have c17 := kp 17 _ (by omega) b17
  have c19 := kp 19 _ (by omega) b19
  have c21 := kp 21 _ (by omega) b21
  have c22 := kp 22 _ (by omega) b22
  have c23 := kp 23 _ (by omega) b23
  clear b0 b2 b4 b6 b8 b10 b12 b14 b15 b17 b19 b21 b22 b23
  have hg2 : w.grownBy w1 (some g) := ⟨hg1.os.trans hB.os, hg1.tape.trans hB.tape, hg1.output.trans hB.output, by omega, fun k hk hne => (hg1.block k (by omega) hne).trans (hd k hk)⟩
  clear kp hg1 hd hB hr
  have d1 : Cons w1 w.heap.size (w.heap.size + 22) (.slice (some ⟨w.heap.size + 4, 0, none⟩) 2 2) [[], [0, 1]] :=
    cons_lit [[], [0, 1]] [_, _] c4 rfl (fun i hi => by
      rcases (by simp at hi; omega : i = 0 ∨ i = 1) with rfl | rfl
      · exact ints_lit [] c0 (by omega) (by omega) (by simp)
      · exact ints_lit [0, 1] c2 (by omega) (by omega) (by simp)) (by omega) (by omega) (by simp)
  have d2 : Cons w1 w.heap.size (w.heap.size + 22) (.slice (some ⟨w.heap.size + 10, 0, none⟩) 2 2) [[], [3, 0, 3]] :=
    cons_lit [[], [3, 0, 3]] [_, _] c10 rfl (fun i hi => by
      rcases (by simp at hi; omega : i = 0 ∨ i = 1) with rfl | rfl
      · exact ints_lit [] c6 (by omega) (by omega) (by simp)
      · exact ints_lit [3, 0, 3] c8 (by omega) (by omega) (by simp)) (by omega) (by omega) (by simp)
  have d3 : Cons w1 w.heap.size (w.heap.size + 22) (.slice (some ⟨w.heap.size + 14, 0, none⟩) 1 1) [[1, 3]] :=
    cons_lit [[1, 3]] [_] c14 rfl (fun i hi => by
      obtain rfl : i = 0 := by simp at hi; omega
      exact ints_lit [1, 3] c12 (by omega) (by omega) (by simp)) (by omega) (by omega) (by simp)
  have d4 : Cons w1 w.heap.size (w.heap.size + 22) (.slice (some ⟨w.heap.size + 21, 0, none⟩) 3 3) [[1, 1, 0], [0], [3]] :=
    cons_lit [[1, 1, 0], [0], [3]] [_, _, _] c21 rfl (fun i hi => by
      rcases (by simp at hi; omega : i = 0 ∨ i = 1 ∨ i = 2) with rfl | rfl | rfl
      · exact ints_lit [1, 1, 0] c15 (by omega) (by omega) (by simp)
      · exact ints_lit [0] c17 (by omega) (by omega) (by simp)
      · exact ints_lit [3] c19 (by omega) (by omega) (by simp)) (by omega) (by omega) (by simp)
  clear c0 c2 c4 c6 c8 c10 c12 c14 c15 c17 c19 c21
  have hown : OwnDecs w1 w.heap.size (.slice (some ⟨w.heap.size + 23, 0, none⟩) 3 3) [⟨0, 0, [[], [0, 1]]⟩, ⟨0, 0, []⟩, ⟨0, 0, [[], [3, 0, 3]]⟩] :=
    ⟨w.heap.size + 22, fun i => [Value.slice (some ⟨w.heap.size + 4, 0, none⟩) 2 2, .slice none 0 0, .slice (some ⟨w.heap.size + 10, 0, none⟩) 2 2].getD i undef,
      ⟨rfl, .inr ⟨w.heap.size + 23, 3, _, rfl, by omega, c23, by simp, by simp [maxLen], rfl, rfl⟩⟩,
      fun i hi => by
        rcases (by simp at hi; omega : i = 0 ∨ i = 1 ∨ i = 2) with rfl | rfl | rfl
        · exact d1
        · exact cons_nil _ _ _
        · exact d2, by omega, fun k e => by simp [Value.ownBlock] at e; omega⟩
  have hlast : Decs w1 w.heap.size (w.heap.size + 23) (.slice (some ⟨w.heap.size + 22, 0, none⟩) 4 4) [⟨0, 0, [[1, 3]]⟩, ⟨1, 0, []⟩, ⟨0, 0, [[1, 1, 0], [0], [3]]⟩, ⟨0, 1, []⟩] := by
    have ho : w1.ownsRow w.heap.size 30 3 (.slice (some ⟨w.heap.size + 22, 0, none⟩) 4 4) 4 (cellsOf 3 4 fun i j => decCell (nthD [⟨0, 0, [[1, 3]]⟩, ⟨1, 0, []⟩, ⟨0, 0, [[1, 1, 0], [0], [3]]⟩, ⟨0, 1, []⟩] i) ([Value.slice (some ⟨w.heap.size + 14, 0, none⟩) 1 1, .slice none 0 0, .slice (some ⟨w.heap.size + 21, 0, none⟩) 3 3, .slice none 0 0].getD i undef) j) :=
      ⟨rfl, .inr ⟨w.heap.size + 22, 4, _, rfl, by omega, c22, by simp, by simp [maxLen], rfl, rfl⟩⟩
    obtain ⟨A, c, e, r⟩ := row_of_own ho
    injection e with e1 e2 e3
    subst e1 e3
    refine ⟨_, _, fun i => [Value.slice (some ⟨w.heap.size + 14, 0, none⟩) 1 1, .slice none 0 0, .slice (some ⟨w.heap.size + 21, 0, none⟩) 3 3, .slice none 0 0].getD i undef, rfl, ⟨r.le, r.cap, r.nil, fun hn => ?_⟩, fun i hi => ?_⟩
    · obtain ⟨b, o, e, h1, h2, h3⟩ := r.place (by omega)
      injection e with e
      injection e with e1 e2
      subst e1 e2
      exact ⟨_, _, rfl, h1, by omega, h3⟩
    · rcases (by simp at hi; omega : i = 0 ∨ i = 1 ∨ i = 2 ∨ i = 3) with rfl | rfl | rfl | rfl
      · exact d3.wide (Nat.le_refl _) (by omega)
      · exact cons_nil _ _ _
      · exact d4.wide (Nat.le_refl _) (by omega)
      · exact cons_nil _ _ _
  clear d1 d2 d3 d4 c22 c23
  by_cases hx4 : x < 4
  · obtain ⟨b, o, A', c', hA, _, hbU, e0, e1, e2, hu⟩ := hlast.at_ (k := x) (by simp; omega)
    injection hA with hA
    injection hA with hA1 hA2
    subst hA1 hA2
    rw [Nat.zero_add] at e0 e1 e2
    obtain ⟨d, hd⟩ : ∃ d, d = nthD [⟨0, 0, [[1, 3]]⟩, ⟨1, 0, []⟩, ⟨0, 0, [[1, 1, 0], [0], [3]]⟩, ⟨0, 1, []⟩] x := ⟨_, rfl⟩
    rw [← hd] at e0 e1 e2 hu
    clear hd hlast
    obtain ⟨i0, hi, hz0, hz1', hz2⟩ := info_parts infoDecl
    obtain ⟨M, V, hown', hcs, hM, hlt⟩ := hown
    go_wp2_with (at_builtin; refine wpList_append_own_at _ rfl _ _ 23 rfl w.heap.size 30 i0 (.agg #[.int .i64 0, .int .i64 0, .slice none 0 0]) 3 40 Try.underlying23 hi hz0 hz1' hz2 rfl (by decide) _ _ _ rfl (hown'.alloc _) ⟨w1.heap.size, 0, none⟩ 1 1 [.int .i64 d.frm, .int .i64 d.to, .slice A' d.cons.length c'] rfl rfl ?c1 ?c2 ?c3 ?c4 ?c5 ?_)
    case c2 => exact ⟨rfl, rfl, rfl⟩
    case c3 => simp [maxLen]
    case c5 => omega
    intro v' w2 hown2 hg3 _ hat
    have hB2 : ∀ k, k < w.heap.size + 23 → w2.heap[k]? = w1.heap[k]? := fun k hk => (hg3.block k (by simp; omega) (by simp [Value.ownBlock]; omega)).trans (Below.heap_alloc w1 _ k (by omega))
    have hr2 : Rd w2 g (p + 1) := hr1.keep fun k hk => hB2 k (by omega)
    have hg4 : w.grownBy w2 (some g) := ⟨hg3.os.trans hg2.os, hg3.tape.trans hg2.tape, hg3.output.trans hg2.output, by have := hg3.size; simp at this; omega, fun k hk hne => (hB2 k (by omega)).trans (hg2.block k hk hne)⟩
    have hsame : Same w.heap.size (w.heap.size + 23) w1 w2 := fun k _ h2 => hB2 k h2
    have hsz2 : w.heap.size + 24 ≤ w2.heap.size := by have := hg3.size; simp at this; omega
    have hMl : M ≤ w.heap.size + 23 := hlt _ rfl
    have own2 : OwnDecs w2 w.heap.size v' [⟨0, 0, [[], [0, 1]]⟩, ⟨0, 0, []⟩, ⟨0, 0, [[], [3, 0, 3]]⟩, d] := by
      refine ⟨w.heap.size + 23, fun i => if i < 3 then V i else .slice A' d.cons.length c', ?_, fun i hi => ?_, by omega, fun k e => ?_⟩
      · rw [cells_push (k := 3) (n := 3) _ (fun i j => decCell (nthD [⟨0, 0, [[], [0, 1]]⟩, ⟨0, 0, []⟩, ⟨0, 0, [[], [3, 0, 3]]⟩, d] i) (if i < 3 then V i else .slice A' d.cons.length c') j) _ (by omega) rfl ?_ ?_] at hown2
        · exact hown2
        · intro i j hi hj
          rcases (by omega : i = 0 ∨ i = 1 ∨ i = 2) with rfl | rfl | rfl <;> rfl
        · intro j hj
          rcases (by omega : j = 0 ∨ j = 1 ∨ j = 2) with rfl | rfl | rfl <;> rfl
      · by_cases h3 : i < 3
        · simp only [h3, if_true]
          have := hcs i (by simpa using h3)
          rcases (by omega : i = 0 ∨ i = 1 ∨ i = 2) with rfl | rfl | rfl <;> exact (this.wide (Nat.le_refl _) hMl).keep hsame
        · obtain rfl : i = 3 := by simp at hi; omega
          exact hu.keep hsame
      · rcases hat with h | h
        · rw [h] at e; simp [Value.ownBlock] at e; omega
        · rw [h] at e; simp at e; omega
    clear hown2 hg3 hat hcs hlt hown' hu hB2 hsame e0 e1 e2 hr1 hg2
    have Hown := Lib.hid own2
    clear own2
    go_wp2_with fail
    go_ret
    exact ⟨_, _, rfl, by simp, by simp, Hown.out, hr2, hg4⟩
  · go_wp2_with fail
    go_ret
    exact ⟨_, _, rfl, by simp, by simp, hown, hr1, hg2⟩
end Go.Proofs.Ytgbeongiejppnaa

/- Appending declarations: what a row of the call's own reads as. -/
import Derived.Test.YtgbeongiejppnaaS
import Derived.Test.YtgbeongiejppnaaGc
namespace Go.Proofs.Ytgbeongiejppnaa
open Go.RowKit Go.BigFrame
theorem decs_of_own {w : World} {L base : Nat} {e : TypeId} {v : Value} {ds : List Dec} {V : Nat → Value} (h : w.ownsRow base e 3 v ds.length (cellsOf 3 ds.length fun i j => decCell (nthD ds i) (V i) j)) (hL : L ≤ base)
    (hc : ∀ i, i < ds.length → Cons w L w.heap.size (V i) (nthD ds i).cons) : Decs w L w.heap.size v ds := by
  obtain ⟨A, c, e, r⟩ := row_of_own h
  exact ⟨A, c, V, e, r.wide hL (Nat.le_refl _), hc⟩
theorem decCell_one {w : World} {L U : Nat} {u : Value} {cs : List (List Int)} (h : Cons w L U u cs) (d : Dec) (j : Nat) : (decCell d u j).oneCell' = true := by
  obtain ⟨A, c, rfl, _⟩ := h.open_
  unfold decCell
  repeat' split
  all_goals rfl
theorem nthD_left {ds : List Dec} {d : Dec} {i : Nat} (h : i < ds.length) : nthD (ds ++ [d]) i = nthD ds i := by simp [nthD, List.getElem?_append_left h]
theorem nthD_last (ds : List Dec) (d : Dec) : nthD (ds ++ [d]) ds.length = d := by simp [nthD]
theorem push_decs {ds : List Dec} (V : Nat → Value) (d : Dec) (u : Value) :
    cellsOf 3 ds.length (fun i j => decCell (nthD ds i) (V i) j) ++ [.int .i64 d.frm, .int .i64 d.to, u] = cellsOf 3 (ds.length + 1) fun i j => decCell (nthD (ds ++ [d]) i) (if i < ds.length then V i else u) j := by
  refine cells_push _ _ _ (by omega) rfl (fun i j hi _ => by rw [nthD_left hi, if_pos hi]) (fun j hj => ?_)
  rw [nthD_last, if_neg (Nat.lt_irrefl _)]
  rcases (by omega : j = 0 ∨ j = 1 ∨ j = 2) with rfl | rfl | rfl <;> rfl
/-- A row of declarations with one more at its end. -/
theorem decs_pushed {w : World} {L base : Nat} {e : TypeId} {v : Value} {ds : List Dec} {V : Nat → Value} {d : Dec} {u : Value}
    (h : w.ownsRow base e 3 v (ds.length + 1) (cellsOf 3 ds.length (fun i j => decCell (nthD ds i) (V i) j) ++ [.int .i64 d.frm, .int .i64 d.to, u])) (hL : L ≤ base)
    (hc : ∀ i, i < ds.length → Cons w L w.heap.size (V i) (nthD ds i).cons) (hu : Cons w L w.heap.size u d.cons) : Decs w L w.heap.size v (ds ++ [d]) := by
  rw [push_decs] at h
  have hlen : (ds ++ [d]).length = ds.length + 1 := by simp
  refine decs_of_own (V := fun i => if i < ds.length then V i else u) (by rw [hlen]; exact h) hL fun i hi => ?_
  by_cases hlt : i < ds.length
  · simp only [hlt, if_true]; rw [nthD_left hlt]; exact hc i hlt
  · obtain rfl : i = ds.length := by omega
    simp only [Nat.lt_irrefl, if_false]; rw [nthD_last]; exact hu
theorem typesOk_push {ds : List Dec} {d : Dec} (h : typesOk ds = true) (hd : 0 < d.cons.length) (h0 : d.frm = 0) (h1 : d.to = 0) (hc : consOk (ds.length + 1) d.cons = true) : typesOk (ds ++ [d]) = decide (ds.length < 4) := by
  have h4 := typesOk_four h
  have hlen : (ds ++ [d]).length = ds.length + 1 := by simp
  unfold typesOk
  rw [hlen]
  by_cases hl : ds.length < 4
  · rw [decide_eq_true hl, decide_eq_true (by omega), Bool.true_and]
    unfold upTo
    rw [List.all_eq_true]
    intro k hk
    rw [List.mem_range] at hk
    by_cases hlt : k < ds.length
    · have hok := typesOk_at h hlt
      have wide : ∀ t : Int, isTy ds.length t = true → isTy (ds.length + 1) t = true := by
        intro t ht
        simp only [isTy, Bool.and_eq_true, decide_eq_true_eq] at ht ⊢
        omega
      unfold decOk at hok ⊢
      rw [nthD_left hlt, hlen]
      by_cases hp : 0 < (nthD ds k).cons.length
      · rw [if_pos hp] at hok ⊢
        simp only [Bool.and_eq_true, consOk, decide_eq_true_eq, List.all_eq_true] at hok ⊢
        exact ⟨hok.1, hok.2.1, hok.2.2.1, fun c hcm => ⟨(hok.2.2.2 c hcm).1, fun t ht => wide t ((hok.2.2.2 c hcm).2 t ht)⟩⟩
      · rw [if_neg hp] at hok ⊢
        simp only [Bool.and_eq_true, decide_eq_true_eq] at hok ⊢
        refine ⟨wide _ hok.1, wide _ hok.2.1, ?_⟩
        rw [seek_congr (R := fun j => isArr (nthD ds k).frm (nthD ds k).to (nthD ds j)) (fun j hj => by rw [nthD_left (by omega)])]
        exact hok.2.2
    · obtain rfl : k = ds.length := by omega
      unfold decOk
      rw [nthD_last, if_pos hd, h0, h1, hlen, hc]; rfl
  · rw [decide_eq_false hl, decide_eq_false (by omega), Bool.false_and]
theorem typesOk_twice {ds : List Dec} {k : Nat} (hk : k < ds.length) (hc : (nthD ds k).cons.length = 0) : typesOk (ds ++ [nthD ds k]) = false := by
  have hlen : (ds ++ [nthD ds k]).length = ds.length + 1 := by simp
  unfold typesOk
  rw [hlen, upTo_stop (k := ds.length) (by omega), Bool.and_false]
  unfold decOk
  rw [nthD_last, if_neg (by omega)]
  rcases seek_cases ds.length (fun j => isArr (nthD ds k).frm (nthD ds k).to (nthD (ds ++ [nthD ds k]) j)) with hs | ⟨i, _, hs, _⟩
  · exfalso
    unfold seek at hs
    split at hs
    · omega
    · rename_i hn
      rw [List.find?_eq_none] at hn
      refine hn k (List.mem_range.2 hk) ?_
      rw [nthD_left hk]
      have hz : (nthD ds k).cons = [] := List.eq_nil_of_length_eq_zero hc
      simp [isArr, hz]
  · rw [decide_eq_false (by omega), Bool.and_false, Bool.and_false]
end Go.Proofs.Ytgbeongiejppnaa

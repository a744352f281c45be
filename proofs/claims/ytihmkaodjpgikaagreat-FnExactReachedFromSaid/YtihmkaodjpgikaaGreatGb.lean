/- T0 T1 T2 T3 T4 T5 T8: merged texts. -/
import Derived.Test.YtihmkaodjpgikaaGreatGa
/- Expressions as data: trees, what a slice of them reads as, sums over them. Nothing here speaks of a program. -/
namespace Go.Proofs.YtihmkaodjpgikaaGreat
open Go.RowKit
inductive Ex where
  | node (op num : Int) (kids : List Ex)
def Ex.op : Ex → Int
  | .node o _ _ => o
def Ex.num : Ex → Int
  | .node _ n _ => n
def Ex.kids : Ex → List Ex
  | .node _ _ ks => ks
def noEx : Ex := .node 0 0 []
def nthX (es : List Ex) (i : Nat) : Ex := es.getD i noEx
theorem nthX_of {es : List Ex} {i : Nat} (h : i < es.length) : nthX es i = es[i] := by simp [nthX, h]
def exCell (e : Ex) (v : Value) (j : Nat) : Value := if j = 0 then .int .i64 e.op else if j = 1 then .int .i64 e.num else v
/-- A slice of expressions, read to every depth. -/
inductive Exs (w : World) (L U : Nat) : Value → List Ex → Prop
  | mk (A : Option Addr) (c : Nat) (V : Nat → Value) (es : List Ex) (r : Row w L U 3 A es.length c (fun i j => exCell (nthX es i) (V i) j))
      (h : ∀ i, i < es.length → Exs w L U (V i) (nthX es i).kids) : Exs w L U (.slice A es.length c) es
theorem Exs.keep {w w' : World} {L U : Nat} {v : Value} {es : List Ex} (h : Exs w L U v es) (s : Same L U w w') : Exs w' L U v es := by
  induction h with
  | mk A c V es r _ ih => exact .mk A c V es (r.keep s) ih
theorem Exs.wide {w : World} {L U L' U' : Nat} {v : Value} {es : List Ex} (h : Exs w L U v es) (hL : L' ≤ L) (hU : U ≤ U') : Exs w L' U' v es := by
  induction h with
  | mk A c V es r _ ih => exact .mk A c V es (r.wide hL hU) ih
theorem Exs.open_ {w : World} {L U : Nat} {v : Value} {es : List Ex} (h : Exs w L U v es) : ∃ A c, v = .slice A es.length c ∧ es.length ≤ c ∧ c ≤ 9223372036854775807 := by
  cases h with
  | mk A c V es r h => exact ⟨A, c, rfl, r.le, r.cap⟩
/-- The cells of one element of a row. -/
theorem row_at {w : World} {L U : Nat} {A : Option Addr} {c : Nat} {V : Nat → Value} {es : List Ex} (r : Row w L U 3 A es.length c (fun i j => exCell (nthX es i) (V i) j)) {k : Nat} (hk : k < es.length) :
    ∃ b o, A = some ⟨b, o, none⟩ ∧ L ≤ b ∧ b < U ∧ w.cell? ⟨b, o + k * 3, none⟩ = some (.int .i64 (nthX es k).op) ∧ w.cell? ⟨b, o + k * 3 + 1, none⟩ = some (.int .i64 (nthX es k).num) ∧ w.cell? ⟨b, o + k * 3 + 2, none⟩ = some (V k) := by
  obtain ⟨b, o, e, h1, h2, hc⟩ := r.place (by omega)
  exact ⟨b, o, e, h1, h2, hc k 0 hk (by omega), hc k 1 hk (by omega), hc k 2 hk (by omega)⟩
mutual
/-- A sum over all nodes. -/
def Ex.sum (f : Int → Int → Nat) : Ex → Nat
  | .node o n ks => f o n + sumL f ks
def sumL (f : Int → Int → Nat) : List Ex → Nat
  | [] => 0
  | e :: es => e.sum f + sumL f es
end
theorem sum_eq (f : Int → Int → Nat) (e : Ex) : e.sum f = f e.op e.num + sumL f e.kids := by
  cases e; simp [Ex.sum, Ex.op, Ex.num, Ex.kids]
theorem sumL_append (f : Int → Int → Nat) (a b : List Ex) : sumL f (a ++ b) = sumL f a + sumL f b := by
  induction a with
  | nil => simp [sumL]
  | cons x a ih => simp only [List.cons_append, sumL, ih]; omega
theorem sumL_step (f : Int → Int → Nat) {es : List Ex} {k : Nat} (h : k < es.length) : sumL f (es.take (k + 1)) = sumL f (es.take k) + (nthX es k).sum f := by
  rw [List.take_succ_eq_append_getElem h, sumL_append, nthX_of h]; simp [sumL]
theorem sumL_take (f : Int → Int → Nat) (es : List Ex) (k : Nat) : sumL f (es.take k) ≤ sumL f es := by
  have := sumL_append f (es.take k) (es.drop k)
  rw [List.take_append_drop] at this
  omega
theorem sumL_all (f : Int → Int → Nat) {es : List Ex} {k : Nat} (h : ¬ k < es.length) : sumL f (es.take k) = sumL f es := by rw [List.take_of_length_le (by omega)]
theorem sumL_mem (f : Int → Int → Nat) {es : List Ex} {k : Nat} (h : k < es.length) : (nthX es k).sum f ≤ sumL f es := by
  have h1 := sumL_step f h
  have h2 := sumL_take f es (k + 1)
  omega
def one_ (_ _ : Int) : Nat := 1
theorem sumL_length (es : List Ex) : es.length ≤ sumL one_ es := by
  induction es with
  | nil => simp [sumL]
  | cons e es ih =>
    simp only [sumL, List.length_cons, sum_eq, one_]
    omega
def nodesOfV (ks : List Ex) : Int := if 1 + sumL one_ ks ≤ 30 then ((1 + sumL one_ ks : Nat) : Int) else -1
end Go.Proofs.YtihmkaodjpgikaaGreat

/- Contracts of chapter 2: the number of nodes. -/
namespace Go.Proofs.YtihmkaodjpgikaaGreat
open Go.RowKit Go.BigFrame
set_option maxHeartbeats 400000 in
theorem nodesUpTo_any {w0 : World} {L U : Nat} {u : Value} {ks : List Ex} (h : Exs w0 L U u ks) : ∀ (o n : Int) (limit : Nat) (w : World), Same L U w0 w → U ≤ w.heap.size → limit ≤ 1000000 →
    Calls Tryz.prog 80 #[.agg #[.int .i64 o, .int .i64 n, u], .int .i64 limit] w fun e w' => e = .returned (.int .i64 ((min (1 + sumL one_ ks) (limit + 1) : Nat) : Int)) ∧ Below w.heap.size w w' := by
  induction h with
  | mk A c V es r hk ih =>
    intro o n limit w hS hU hlim
    have hl := r.le
    have hc : c ≤ 9223372036854775807 := r.cap
    have hsub := fun i (hi : i < es.length) => (hk i hi).open_
    obtain ⟨W0, hW0⟩ : ∃ W0, W0 = w.alloc (.cells #[.int .i64 o, .int .i64 n, .slice A es.length c] 64) := ⟨_, rfl⟩
    have hB0 : Below w.heap.size w W0 := by rw [hW0]; exact (Below.refl _ w).alloc (Nat.le_refl _) _
    have hz0 : W0.heap.size = w.heap.size + 1 := by rw [hW0]; simp
    have IH := Lib.hid ih
    have HS := Lib.hid hsub
    clear ih hsub hk
    go_enter Tryz.func80, Tryz.ntmps80
    go_wp2_with fail
    rw [← hW0]
    go_loopw [5, 11] (fun m i wr => ∃ k : Nat, k ≤ es.length ∧ i = .int .i64 k ∧ m = .int .i64 ((min (1 + sumL one_ (es.take k)) (limit + 1) : Nat) : Int) ∧ Below W0.heap.size W0 wr) (fun _ i _ => es.length - (intOf i).toNat)
    case atStart => exact ⟨0, by omega, rfl, by simp [sumL], Below.refl _ _⟩
    case round =>
      obtain ⟨k, hk, rfl, rfl, hB⟩ := hrel
      have hz := hB.size
      have hw : Below w.heap.size w wr := hB0.trans (hB.mono (by omega))
      by_cases hlt : k < es.length
      · have hS1 : Same L U w0 wr := hS.trans (Same.of_below hw hU)
        obtain ⟨b, oo, rfl, _, hb, c0, c1, c2⟩ := row_at (r.keep hS1) hlt
        obtain ⟨A', c', hV, _, _⟩ := HS.out k hlt
        have st := sumL_step one_ hlt
        have tot := sumL_take one_ es (k + 1)
        have IHk := Lib.hid (IH.out k hlt)
        rw [hV] at c2 IHk
        obtain ⟨s, hs⟩ : ∃ s, sumL one_ (es.take k) = s := ⟨_, rfl⟩
        obtain ⟨t, ht⟩ : ∃ t, sumL one_ (nthX es k).kids = t := ⟨_, rfl⟩
        have hn : (nthX es k).sum one_ = t + 1 := by rw [sum_eq, ht]; simp [one_]; omega
        obtain ⟨s', hs'⟩ : ∃ s', sumL one_ (es.take (k + 1)) = s' := ⟨_, rfl⟩
        obtain ⟨T, hT⟩ : ∃ T, sumL one_ es = T := ⟨_, rfl⟩
        rw [hs, hn, hs'] at st
        rw [hs', hT] at tot
        rw [hs]
        have HH := Lib.hid (And.intro hs' hT)
        have HT := Lib.hid ht
        clear hs hn hs' hT ht
        by_cases hle : 1 + s ≤ limit
        · rw [show min (1 + s) (limit + 1) = 1 + s by omega]
          obtain ⟨m, hm⟩ : ∃ m, 1 + s = m := ⟨_, rfl⟩
          rw [hm] at hle ⊢
          obtain ⟨l2, hl2⟩ : ∃ l2 : Nat, (limit : Int) - (m : Int) = (l2 : Int) := ⟨limit - m, by omega⟩
          go_wp2_with fail
          have hB3 := hw.alloc (show w.heap.size ≤ wr.heap.size by omega) (.cells #[.int .i64 (nthX es k).op, .int .i64 (nthX es k).num, .slice A' (nthX es k).kids.length c'] 64)
          have hB4 := hB.alloc hz (.cells #[.int .i64 (nthX es k).op, .int .i64 (nthX es k).num, .slice A' (nthX es k).kids.length c'] 64)
          refine (IHk.out _ _ l2 _ (hS.trans (Same.of_below hB3 hU)) (by simp; omega) (by omega)).mono ?_
          rintro e w2 ⟨rfl, hB2⟩
          rw [HT.out]
          have hB5 := Lib.hid (hB4.trans (hB2.mono hB4.size))
          obtain ⟨q, hq⟩ : ∃ q, min (1 + t) (l2 + 1) = q := ⟨_, rfl⟩
          have hq2 : q ≤ 1000000 := by omega
          rw [hq]
          have HQ := Lib.hid hq
          clear hB2 hB3 hB4 hB hw hq hS1
          go_wp2_with fail
          go_roundw
          case rel => exact ⟨k + 1, by omega, by go_num, by rw [HH.out.1]; have := HQ.out; exact congrArg (Value.int .i64) (by omega), hB5.out⟩
          case measure => simp [intOf]; omega
        · rw [show min (1 + s) (limit + 1) = limit + 1 by omega]
          go_wp2_with fail
          go_ret
          exact ⟨ret_int (by rw [HH.out.2]; congr 1; omega), hw.alloc (by omega) _⟩
      · go_wp2_with fail
        go_ret
        exact ⟨ret_int (by rw [sumL_all one_ hlt]), hw⟩
end Go.Proofs.YtihmkaodjpgikaaGreat

/- Contracts of chapter 2: the number of nodes, as the model counts it; the functions that are called from outside. -/
namespace Go.Proofs.YtihmkaodjpgikaaGreat
open Go.RowKit Go.BigFrame
set_option maxHeartbeats 400000 in
theorem nodesLeft_any {w0 : World} {L U : Nat} {u : Value} {ks : List Ex} (h : Exs w0 L U u ks) : ∀ (o n : Int) (left : Nat) (w : World), Same L U w0 w → U ≤ w.heap.size → left ≤ 1000000 →
    Calls Tryz.prog 49 #[.agg #[.int .i64 o, .int .i64 n, u], .int .i64 left] w fun e w' => e = .returned (.int .i64 (leftV left (1 + sumL one_ ks))) ∧ Below w.heap.size w w' := by
  induction h with
  | mk A c V es r hk ih =>
    intro o n left w hS hU hlim
    have hl := r.le
    have hc : c ≤ 9223372036854775807 := r.cap
    have hsub := fun i (hi : i < es.length) => (hk i hi).open_
    obtain ⟨W0, hW0⟩ : ∃ W0, W0 = w.alloc (.cells #[.int .i64 o, .int .i64 n, .slice A es.length c] 64) := ⟨_, rfl⟩
    have hB0 : Below w.heap.size w W0 := by rw [hW0]; exact (Below.refl _ w).alloc (Nat.le_refl _) _
    have hz0 : W0.heap.size = w.heap.size + 1 := by rw [hW0]; simp
    have hbox : W0.heap[w.heap.size]? = some (.cells #[.int .i64 o, .int .i64 n, .slice A es.length c] 64 (0, 0)) := by rw [hW0]; exact alloc_last _ _ _ rfl
    have IH := Lib.hid ih
    have HS := Lib.hid hsub
    have HX := Lib.hid hbox
    clear ih hsub hk hbox
    by_cases h1 : 1 ≤ left
    · go_enter Tryz.func49, Tryz.ntmps49
      go_wp2_with fail
      rw [← hW0]
      go_loopw [1, 5] (fun m i wr => ∃ k q : Nat, k ≤ es.length ∧ i = .int .i64 k ∧ m = .int .i64 q ∧ q + (1 + sumL one_ (es.take k)) = left ∧ Below W0.heap.size W0 wr) (fun _ i _ => es.length - (intOf i).toNat)
      case atStart => exact ⟨0, left - 1, by omega, rfl, by exact congrArg (Value.int .i64) (by omega), by simp [sumL]; omega, Below.refl _ _⟩
      case round =>
        obtain ⟨k, q, hk, rfl, rfl, hq, hB⟩ := hrel
        have hz := hB.size
        have hw : Below w.heap.size w wr := hB0.trans (hB.mono (by omega))
        have cb := cell_of_row wr w.heap.size 2 _ _ (0, 0) ((hB.block _ (by omega)).trans HX.out)
        simp only [List.getElem?_toArray, List.getElem?_cons_zero, List.getElem?_cons_succ] at cb
        by_cases hlt : k < es.length
        · have hS1 : Same L U w0 wr := hS.trans (Same.of_below hw hU)
          obtain ⟨b, oo, rfl, _, hb, c0, c1, c2⟩ := row_at (r.keep hS1) hlt
          obtain ⟨A', c', hV, _, _⟩ := HS.out k hlt
          have st := sumL_step one_ hlt
          have tot := sumL_take one_ es (k + 1)
          have IHk := Lib.hid (IH.out k hlt (nthX es k).op (nthX es k).num q wr hS1 (by omega) (by omega))
          have hn : (nthX es k).sum one_ = 1 + sumL one_ (nthX es k).kids := by rw [sum_eq]; rfl
          rw [hV] at c2 IHk
          rw [← hn] at IHk
          obtain ⟨s, hs⟩ : ∃ s, sumL one_ (es.take k) = s := ⟨_, rfl⟩
          obtain ⟨t, ht⟩ : ∃ t, (nthX es k).sum one_ = t := ⟨_, rfl⟩
          obtain ⟨s', hs'⟩ : ∃ s', sumL one_ (es.take (k + 1)) = s' := ⟨_, rfl⟩
          obtain ⟨T, hT⟩ : ∃ T, sumL one_ es = T := ⟨_, rfl⟩
          rw [hs, ht, hs'] at st
          rw [hs', hT] at tot
          rw [hs] at hq
          rw [ht] at IHk
          have HT := Lib.hid hT
          have HH := Lib.hid hs'
          clear hs hn hs' hT ht
          by_cases hle : t ≤ q
          · obtain ⟨x, hx⟩ : ∃ x : Nat, leftV q t = (x : Int) := ⟨q - t, by unfold leftV; rw [if_pos hle]; omega⟩
            have hx2 : x + t = q := by unfold leftV at hx; rw [if_pos hle] at hx; omega
            rw [hx] at IHk
            clear hx
            go_wp2_with fail
            refine IHk.out.mono ?_
            rintro e w2 ⟨rfl, hB2⟩
            have hB5 := Lib.hid (hB.trans (hB2.mono hz))
            clear hB2 hB hw hS1
            go_wp2_with fail
            go_roundw
            case rel => exact ⟨k + 1, x, by omega, by go_num, rfl, by rw [HH.out]; omega, hB5.out⟩
            case measure => simp [intOf]; omega
          · rw [show leftV q t = -1 by unfold leftV; rw [if_neg hle]] at IHk
            go_wp2_with fail
            refine IHk.out.mono ?_
            rintro e w2 ⟨rfl, hB2⟩
            have hB5 := Lib.hid (hw.trans (hB2.mono hw.size))
            clear hB2 hB hw hS1
            go_wp2_with fail
            go_ret
            exact ⟨ret_int (by unfold leftV; rw [HT.out, if_neg (by omega)]), hB5.out⟩
        · rw [sumL_all one_ hlt] at hq
          go_wp2_with fail
          go_ret
          exact ⟨ret_int (by unfold leftV; rw [if_pos (by omega)]; omega), hw⟩
    · go_enter Tryz.func49, Tryz.ntmps49
      go_wp2_with fail
      rw [← hW0]
      go_ret
      exact ⟨ret_int (by unfold leftV; rw [if_neg (by omega)]), hB0⟩
theorem nodesUpTo_is {w : World} {L U : Nat} {u : Value} {ks : List Ex} (h : Exs w L U u ks) (o n : Int) (hU : U ≤ w.heap.size) {x : Nat} (hx : min (1 + sumL one_ ks) (30 + 1) = x) :
    Calls Tryz.prog 80 #[.agg #[.int .i64 o, .int .i64 n, u], .int .i64 30] w fun e w' => e = .returned (.int .i64 (x : Int)) ∧ Below w.heap.size w w' := by
  subst hx
  exact nodesUpTo_any h o n 30 w (Same.refl _ _ _) hU (by omega)
theorem nodesTop {w : World} {L U : Nat} {u : Value} {ks : List Ex} (h : Exs w L U u ks) (o n : Int) (hU : U ≤ w.heap.size) :
    Calls Tryz.prog 64 #[.agg #[.int .i64 o, .int .i64 n, u]] w fun e w' => e = .returned (.int .i64 (nodesOfV ks)) ∧ Below w.heap.size w w' := by
  by_cases h30 : 1 + sumL one_ ks ≤ 30
  · obtain ⟨x, hx⟩ : ∃ x, min (1 + sumL one_ ks) (30 + 1) = x := ⟨_, rfl⟩
    have hx2 : x ≤ 30 := by omega
    rw [show nodesOfV ks = (x : Int) by unfold nodesOfV; rw [if_pos h30]; omega]
    have HX := Lib.hid fun O => nodesUpTo_is (h.keep (Same.of_below ((Below.refl w.heap.size w).alloc (Nat.le_refl _) O) hU)) o n (by simp; omega) hx
    clear h hx h30
    go_enter Tryz.func64, Tryz.ntmps64
    go_wp2_with fail
    refine (HX.out _).mono ?_
    rintro e w' ⟨rfl, hB⟩
    go_wp2_with fail
    go_ret
    exact ⟨rfl, ((Below.refl _ w).alloc (Nat.le_refl _) _).trans (hB.mono (by simp))⟩
  · rw [show nodesOfV ks = -1 by unfold nodesOfV; rw [if_neg h30]]
    have HX := Lib.hid fun O => nodesUpTo_is (h.keep (Same.of_below ((Below.refl w.heap.size w).alloc (Nat.le_refl _) O) hU)) o n (by simp; omega) (x := 31) (by omega)
    clear h h30
    go_enter Tryz.func64, Tryz.ntmps64
    go_wp2_with fail
    refine (HX.out _).mono ?_
    rintro e w' ⟨rfl, hB⟩
    go_wp2_with fail
    go_ret
    exact ⟨rfl, ((Below.refl _ w).alloc (Nat.le_refl _) _).trans (hB.mono (by simp))⟩
theorem nodesLeft_is {w : World} {L U : Nat} {u : Value} {ks : List Ex} (h : Exs w L U u ks) (o n : Int) (hU : U ≤ w.heap.size) {x : Int} (hx : leftV 30 (1 + sumL one_ ks) = x) :
    Calls Tryz.prog 49 #[.agg #[.int .i64 o, .int .i64 n, u], .int .i64 30] w fun e w' => e = .returned (.int .i64 x) ∧ Below w.heap.size w w' := by
  subst hx
  exact nodesLeft_any h o n 30 w (Same.refl _ _ _) hU (by omega)
theorem sNodes_any {w : World} {L U : Nat} {u : Value} {ks : List Ex} (h : Exs w L U u ks) (o n : Int) (hU : U ≤ w.heap.size) :
    Calls Tryz.prog 30 #[.agg #[.int .i64 o, .int .i64 n, u]] w fun e w' => e = .returned (.int .i64 (nodesOfV ks)) ∧ Below w.heap.size w w' := by
  by_cases h30 : 1 + sumL one_ ks ≤ 30
  · obtain ⟨x, hx⟩ : ∃ x : Nat, leftV 30 (1 + sumL one_ ks) = (x : Int) := ⟨30 - (1 + sumL one_ ks), by unfold leftV; rw [if_pos h30]; omega⟩
    have hx2 : x ≤ 30 := by unfold leftV at hx; rw [if_pos h30] at hx; omega
    rw [show nodesOfV ks = 30 - (x : Int) by unfold nodesOfV; rw [if_pos h30]; unfold leftV at hx; rw [if_pos h30] at hx; omega]
    have HX := Lib.hid fun O => nodesLeft_is (h.keep (Same.of_below ((Below.refl w.heap.size w).alloc (Nat.le_refl _) O) hU)) o n (by simp; omega) hx
    clear h hx h30
    go_enter Tryz.func30, Tryz.ntmps30
    go_wp2_with fail
    refine (HX.out _).mono ?_
    rintro e w' ⟨rfl, hB⟩
    go_wp2_with fail
    go_ret
    exact ⟨rfl, ((Below.refl _ w).alloc (Nat.le_refl _) _).trans (hB.mono (by simp))⟩
  · rw [show nodesOfV ks = -1 by unfold nodesOfV; rw [if_neg h30]]
    have HX := Lib.hid fun O => nodesLeft_is (h.keep (Same.of_below ((Below.refl w.heap.size w).alloc (Nat.le_refl _) O) hU)) o n (by simp; omega) (x := -1) (by unfold leftV; rw [if_neg h30])
    clear h h30
    go_enter Tryz.func30, Tryz.ntmps30
    go_wp2_with fail
    refine (HX.out _).mono ?_
    rintro e w' ⟨rfl, hB⟩
    go_wp2_with fail
    go_ret
    exact ⟨rfl, ((Below.refl _ w).alloc (Nat.le_refl _) _).trans (hB.mono (by simp))⟩
end Go.Proofs.YtihmkaodjpgikaaGreat

/- What the exact laws ask of expressions: contracts of the sizes and of the equality; expressions as they come in. -/
namespace Go.Proofs.YtihmkaodjpgikaaGreat
open Go.RowKit Go.BigFrame Go.Deep Go.ChangeShapes
section
variable {H : Type} {enc : TypeId × Value → H} {P : Program} {w : World} {held : Bool}
/-- A slice of expressions comes in. -/
theorem exprs_open {t e ti : TypeId} {g0 g1 g2 : Field} (ht : P.underlying t = some (.slice e)) (he : P.underlying e = some (.struct #[g0, g1, g2])) (hce : P.cellsOf e = 3)
    (hg0 : g0.offset = 0) (ht0 : g0.type = ti) (hg1 : g1.offset = 1) (ht1 : g1.type = ti) (hg2 : g2.offset = 2) (ht2 : g2.type = t) (hti : P.underlying ti = some (.int .i64)) (hci : P.cellsOf ti = 1) (hct : P.cellsOf t = 1) :
    ∀ (fuel : Nat) (v : Value) (x : DataW H × List MemPlace), DataW.trod enc P w 0 (fun _ => true) held fuel t [v] = some x → ∃ es, Exs w 0 w.heap.size v es := by
  intro fuel
  induction fuel using Nat.strongRecOn with
  | _ fuel ih =>
  intro v x h
  rcases DataW.trod_slice ht h with ⟨e, _⟩ | ⟨a0, l0, c0, _, _, n0, hn0, _⟩
  · injection e with e _
    rw [e]
    exact ⟨[], .mk none 0 (fun _ => undef) [] ⟨Nat.le_refl _, by simp [maxLen], fun _ => ⟨rfl, rfl⟩, fun h => absurd h (by simp)⟩ (fun i h => absurd h (by simp))⟩
  · rcases open_slice_fuel ht h with ⟨e, _⟩ | ⟨a, l, c, n, hfu, e, hl, hm, hx⟩
    · injection e with e _
      rw [e]
      exact ⟨[], .mk none 0 (fun _ => undef) [] ⟨Nat.le_refl _, by simp [maxLen], fun _ => ⟨rfl, rfl⟩, fun h => absurd h (by simp)⟩ (fun i h => absurd h (by simp))⟩
    · injection e with e _
      haveI : Inhabited Ex := ⟨noEx⟩
      have each : ∀ i, i < l → ∃ y : List Value × Ex, w.cells? 0 (a.add (i * 3)) 3 = some y.1 ∧ y.1.getD 0 undef = .int .i64 y.2.op ∧ y.1.getD 1 undef = .int .i64 y.2.num ∧ Exs w 0 w.heap.size (y.1.getD 2 undef) y.2.kids := by
        intro i hi
        obtain ⟨cs, x', h1, h2⟩ := hx i hi
        rw [hce] at h1
        have hlen := (World.cells?_some h1).2.1
        obtain ⟨u0, u1, u2, rfl⟩ : ∃ u0 u1 u2, cs = [u0, u1, u2] := by
          match cs, hlen with
          | [u0, u1, u2], _ => exact ⟨u0, u1, u2, rfl⟩
        obtain ⟨xs, n', hn', _, _, hxl, hf⟩ := DataW.trod_struct he h2
        match xs, hxl with
        | [y0, y1, y2], _ =>
          have h3 := hf 0 g0 rfl
          have h4 := hf 1 g1 rfl
          have h5 := hf 2 g2 rfl
          rw [hg0, ht0, hci] at h3
          rw [hg1, ht1, hci] at h4
          rw [hg2, ht2, hct] at h5
          simp only [List.drop_zero, List.drop_succ_cons, List.take_succ_cons, List.take_zero, List.getElem?_cons_zero, List.getElem?_cons_succ] at h3 h4 h5
          obtain ⟨k0, e0, _⟩ := DataW.trod_int hti h3
          obtain ⟨k1, e1, _⟩ := DataW.trod_int hti h4
          obtain ⟨es, hes⟩ := ih n' (by omega) u2 y2 h5
          injection e0 with e0 _
          injection e1 with e1 _
          exact ⟨([u0, u1, u2], .node k0 k1 es), h1, e0, e1, hes⟩
      obtain ⟨Y, hY⟩ := choose_lt each
      have hlen : ((List.range l).map fun i => (Y i).2).length = l := by simp
      have hN : ∀ i, i < l → nthX ((List.range l).map fun i => (Y i).2) i = (Y i).2 := fun i hi => by rw [nthX_of (by simpa using hi), List.getElem_map, List.getElem_range]
      refine ⟨(List.range l).map fun i => (Y i).2, ?_⟩
      have hv : v = .slice (some a) ((List.range l).map fun i => (Y i).2).length c := by rw [hlen]; exact e
      rw [hv]
      refine .mk (some a) c (fun i => (Y i).1.getD 2 undef) _ ?_ fun i hi => ?_
      · have r := row_open (w := w) (a := a) (n := l) (c := c) (k := 3) (by omega) hl hm (CS := fun i => (Y i).1) (fun i hi => (hY i hi).1)
        rw [hlen]
        refine ⟨r.le, r.cap, r.nil, fun hn => ?_⟩
        obtain ⟨b, o, e, h1, h2, h3⟩ := r.place hn
        refine ⟨b, o, e, h1, h2, fun i j hi hj => ?_⟩
        rw [h3 i j hi hj, hN i hi]
        obtain ⟨_, c0, c1, _⟩ := hY i hi
        rcases (by omega : j = 0 ∨ j = 1 ∨ j = 2) with rfl | rfl | rfl
        · exact congrArg some c0
        · exact congrArg some c1
        · rfl
      · rw [hlen] at hi
        rw [hN i hi]
        exact (hY i hi).2.2.2
/-- One expression comes in. -/
theorem expr_open {t e ti : TypeId} {g0 g1 g2 : Field} {fuel : Nat} {vs : List Value} {x : DataW H × List MemPlace} (he : P.underlying e = some (.struct #[g0, g1, g2])) (hce : P.cellsOf e = 3)
    (hg0 : g0.offset = 0) (ht0 : g0.type = ti) (hg1 : g1.offset = 1) (ht1 : g1.type = ti) (hg2 : g2.offset = 2) (ht2 : g2.type = t) (hti : P.underlying ti = some (.int .i64)) (hci : P.cellsOf ti = 1) (hct : P.cellsOf t = 1)
    (ht : P.underlying t = some (.slice e)) (h : DataW.trod enc P w 0 (fun _ => true) held fuel e vs = some x) : ∃ a b u ks, vs = [.int .i64 a, .int .i64 b, u] ∧ Exs w 0 w.heap.size u ks := by
  obtain ⟨xs, n', hn', _, hlen, hxl, hf⟩ := DataW.trod_struct he h
  rw [hce] at hlen
  obtain ⟨u0, u1, u2, rfl⟩ : ∃ u0 u1 u2, vs = [u0, u1, u2] := by
    match vs, hlen with
    | [u0, u1, u2], _ => exact ⟨u0, u1, u2, rfl⟩
  match xs, hxl with
  | [y0, y1, y2], _ =>
    have h3 := hf 0 g0 rfl
    have h4 := hf 1 g1 rfl
    have h5 := hf 2 g2 rfl
    rw [hg0, ht0, hci] at h3
    rw [hg1, ht1, hci] at h4
    rw [hg2, ht2, hct] at h5
    simp only [List.drop_zero, List.drop_succ_cons, List.take_succ_cons, List.take_zero, List.getElem?_cons_zero, List.getElem?_cons_succ] at h3 h4 h5
    obtain ⟨k0, e0, _⟩ := DataW.trod_int hti h3
    obtain ⟨k1, e1, _⟩ := DataW.trod_int hti h4
    obtain ⟨es, hes⟩ := exprs_open ht he hce hg0 ht0 hg1 ht1 hg2 ht2 hti hci hct n' u2 y2 h5
    injection e0 with e0 _
    injection e1 with e1 _
    exact ⟨k0, k1, u2, es, by rw [e0, e1], hes⟩
end
end Go.Proofs.YtihmkaodjpgikaaGreat

/- Contracts of the sizes and of the equality of expressions. -/
namespace Go.Proofs.YtihmkaodjpgikaaGreat
open Go.RowKit Go.BigFrame
theorem sumL_rest {es : List Ex} {k : Nat} : sumL one_ (es.take k) + (es.length - k) ≤ sumL one_ es := by
  have h1 := sumL_append one_ (es.take k) (es.drop k)
  rw [List.take_append_drop] at h1
  have h2 := sumL_length (es.drop k)
  rw [List.length_drop] at h2
  omega
theorem szExpr_of {u : Value} {ks : List Ex} (o n : Int) (left : Nat) (w : World) (hu : ∃ A c, u = .slice A ks.length c)
    (C : ∀ O, Calls Tryz.prog 70 #[u, .int .i64 left] (w.alloc O) fun e w' => e = .returned (.int .i64 (leftV left (sumL one_ ks))) ∧ Below (w.alloc O).heap.size (w.alloc O) w') (hl : left ≤ 1048576) :
    Calls Tryz.prog 46 #[.agg #[.int .i64 o, .int .i64 n, u], .int .i64 left] w fun e w' => e = .returned (.int .i64 (leftV left (sumL one_ ks))) ∧ Below w.heap.size w w' := by
  obtain ⟨A, c, rfl⟩ := hu
  have HB := Lib.hid fun O => (Below.refl w.heap.size w).alloc (Nat.le_refl _) O
  have HC := Lib.hid C
  clear C
  by_cases h : sumL one_ ks ≤ left
  · obtain ⟨x, hx⟩ : ∃ x : Nat, leftV left (sumL one_ ks) = (x : Int) := ⟨left - sumL one_ ks, by unfold leftV; rw [if_pos h]; omega⟩
    have hx2 : x ≤ 1048576 := by unfold leftV at hx; rw [if_pos h] at hx; omega
    rw [hx] at HC ⊢
    clear hx
    go_enter Tryz.func46, Tryz.ntmps46
    go_wp2_with fail
    refine (HC.out _).mono ?_
    rintro e w1 ⟨rfl, hB1⟩
    go_wp2_with fail
    go_ret
    exact ⟨rfl, (HB.out _).trans (hB1.mono (HB.out _).size)⟩
  · rw [show leftV left (sumL one_ ks) = -1 by unfold leftV; rw [if_neg h]] at HC ⊢
    go_enter Tryz.func46, Tryz.ntmps46
    go_wp2_with fail
    refine (HC.out _).mono ?_
    rintro e w1 ⟨rfl, hB1⟩
    go_wp2_with fail
    go_ret
    exact ⟨rfl, (HB.out _).trans (hB1.mono (HB.out _).size)⟩
set_option maxHeartbeats 400000 in
theorem szExprS_any {w0 : World} {L U : Nat} {u : Value} {ks : List Ex} (h : Exs w0 L U u ks) : ∀ (left : Nat) (w : World), Same L U w0 w → U ≤ w.heap.size → left ≤ 1048576 →
    Calls Tryz.prog 70 #[u, .int .i64 left] w fun e w' => e = .returned (.int .i64 (leftV left (sumL one_ ks))) ∧ Below w.heap.size w w' := by
  induction h with
  | mk A c V es r hk ih =>
    intro left w hS hU hlim
    have hl := r.le
    have hc : c ≤ 9223372036854775807 := r.cap
    have hsub := fun i (hi : i < es.length) => (hk i hi).open_
    have IH := Lib.hid ih
    have HS := Lib.hid hsub
    clear ih hsub hk
    have hlen := sumL_length es
    by_cases h1 : (es.length : Int) ≤ (left : Int)
    · go_enter Tryz.func70, Tryz.ntmps70
      go_wp2_with fail
      go_loopw [1, 5] (fun m i wr => ∃ k q : Nat, k ≤ es.length ∧ i = .int .i64 k ∧ m = .int .i64 q ∧ q + es.length + sumL one_ (es.take k) = left + k ∧ Below w.heap.size w wr) (fun _ i _ => es.length - (intOf i).toNat)
      case atStart => exact ⟨0, left - es.length, by omega, rfl, by exact congrArg (Value.int .i64) (by omega), by simp [sumL]; omega, Below.refl _ _⟩
      case round =>
        obtain ⟨k, q, hk, rfl, rfl, hq, hB⟩ := hrel
        have hz := hB.size
        by_cases hlt : k < es.length
        · have hS1 : Same L U w0 wr := hS.trans (Same.of_below hB hU)
          obtain ⟨b, oo, rfl, _, hb, c0, c1, c2⟩ := row_at (r.keep hS1) hlt
          obtain ⟨A', c', hV, _, _⟩ := HS.out k hlt
          have st := sumL_step one_ hlt
          have tot := sumL_rest (es := es) (k := k + 1)
          have st0 := sumL_length (es.take k)
          rw [List.length_take] at st0
          have q1 : q ≤ 1048576 := by omega
          have CK := szExpr_of (ks := (nthX es k).kids) (nthX es k).op (nthX es k).num q wr ⟨A', c', hV⟩ (fun O => IH.out k hlt q (wr.alloc O) (hS1.trans (Same.of_below ((Below.refl _ wr).alloc (Nat.le_refl _) O) (by omega))) (by simp; omega) q1) q1
          have hn : (nthX es k).sum one_ = 1 + sumL one_ (nthX es k).kids := by rw [sum_eq]; rfl
          rw [hV] at c2 CK
          obtain ⟨s, hs⟩ : ∃ s, sumL one_ (es.take k) = s := ⟨_, rfl⟩
          obtain ⟨t, ht⟩ : ∃ t, sumL one_ (nthX es k).kids = t := ⟨_, rfl⟩
          obtain ⟨s', hs'⟩ : ∃ s', sumL one_ (es.take (k + 1)) = s' := ⟨_, rfl⟩
          obtain ⟨T, hT⟩ : ∃ T, sumL one_ es = T := ⟨_, rfl⟩
          rw [hs, hn, ht, hs'] at st
          rw [hs', hT] at tot
          rw [hs] at hq st0
          rw [ht] at CK
          have HT := Lib.hid hT
          have HH := Lib.hid hs'
          have CK := Lib.hid CK
          clear hs hn hs' hT ht
          by_cases hle : t ≤ q
          · obtain ⟨x, hx⟩ : ∃ x : Nat, leftV q t = (x : Int) := ⟨q - t, by unfold leftV; rw [if_pos hle]; omega⟩
            have hx2 : x + t = q := by unfold leftV at hx; rw [if_pos hle] at hx; omega
            rw [hx] at CK
            clear hx
            go_wp2_with fail
            refine CK.out.mono ?_
            rintro e w2 ⟨rfl, hB2⟩
            have hB5 := Lib.hid (hB.trans (hB2.mono hz))
            clear hB2 hB hS1
            go_wp2_with fail
            go_roundw
            case rel => exact ⟨k + 1, x, by omega, by go_num, rfl, by rw [HH.out]; omega, hB5.out⟩
            case measure => simp [intOf]; omega
          · rw [show leftV q t = -1 by unfold leftV; rw [if_neg hle]] at CK
            go_wp2_with fail
            refine CK.out.mono ?_
            rintro e w2 ⟨rfl, hB2⟩
            have hB5 := Lib.hid (hB.trans (hB2.mono hz))
            clear hB2 hB hS1
            go_wp2_with fail
            go_ret
            exact ⟨ret_int (by unfold leftV; rw [HT.out, if_neg (by omega)]), hB5.out⟩
        · rw [sumL_all one_ hlt] at hq
          go_wp2_with fail
          go_ret
          exact ⟨ret_int (by unfold leftV; rw [if_pos (by omega)]; omega), hB⟩
    · go_enter Tryz.func70, Tryz.ntmps70
      go_wp2_with fail
      go_ret
      exact ⟨ret_int (by unfold leftV; rw [if_neg (by omega)]), Below.refl _ _⟩
theorem szExpr_any {w : World} {L U : Nat} {u : Value} {ks : List Ex} (h : Exs w L U u ks) (o n : Int) (left : Nat) (hU : U ≤ w.heap.size) (hl : left ≤ 1048576) :
    Calls Tryz.prog 46 #[.agg #[.int .i64 o, .int .i64 n, u], .int .i64 left] w fun e w' => e = .returned (.int .i64 (leftV left (sumL one_ ks))) ∧ Below w.heap.size w w' := by
  obtain ⟨A, c, e, _⟩ := h.open_
  exact szExpr_of o n left w ⟨A, c, e⟩ (fun O => szExprS_any h left (w.alloc O) (Same.of_below ((Below.refl _ w).alloc (Nat.le_refl _) O) hU) (by simp; omega) hl) hl
/-! Equality, where both are the same -/
theorem eqExpr_of {u u' : Value} {ks : List Ex} (o n : Int) (w : World) (hu : ∃ A c, u = .slice A ks.length c) (hu' : ∃ A c, u' = .slice A ks.length c)
    (C : ∀ O O', Calls Tryz.prog 88 #[u, u'] ((w.alloc O).alloc O') fun e w' => e = .returned (.bool true) ∧ Below ((w.alloc O).alloc O').heap.size ((w.alloc O).alloc O') w') :
    Calls Tryz.prog 68 #[.agg #[.int .i64 o, .int .i64 n, u], .agg #[.int .i64 o, .int .i64 n, u']] w fun e w' => e = .returned (.bool true) ∧ Below w.heap.size w w' := by
  obtain ⟨A, c, rfl⟩ := hu
  obtain ⟨A', c', rfl⟩ := hu'
  have HB := Lib.hid fun O O' => ((Below.refl w.heap.size w).alloc (Nat.le_refl _) O).alloc (by simp) O'
  have HC := Lib.hid C
  clear C
  go_enter Tryz.func68, Tryz.ntmps68
  go_wp2_with fail
  refine (HC.out _ _).mono ?_
  rintro e w1 ⟨rfl, hB1⟩
  have hB2 := (HB.out _ _).trans (hB1.mono (HB.out _ _).size)
  go_wp2_with fail
  go_ret
  exact ⟨rfl, hB2⟩
set_option maxHeartbeats 800000 in
theorem eqExprS_same {w0 : World} {L U : Nat} {u : Value} {ks : List Ex} (h : Exs w0 L U u ks) : ∀ {w1 : World} {L' U' : Nat} {u' : Value}, Exs w1 L' U' u' ks → ∀ w : World, Same L U w0 w → Same L' U' w1 w → U ≤ w.heap.size → U' ≤ w.heap.size →
    Calls Tryz.prog 88 #[u, u'] w fun e w' => e = .returned (.bool true) ∧ Below w.heap.size w w' := by
  induction h with
  | mk A c V es r hk ih =>
    intro w1 L' U' u' h' w hS hS' hU hU'
    cases h' with
    | mk A2 c2 V2 _ r2 hk2 =>
    have hl := r.le
    have hc : c ≤ 9223372036854775807 := r.cap
    have hl2 := r2.le
    have hc2 : c2 ≤ 9223372036854775807 := r2.cap
    have HS := Lib.hid fun i (hi : i < es.length) => (hk i hi).open_
    have HS2 := Lib.hid fun i (hi : i < es.length) => (hk2 i hi).open_
    have IH := Lib.hid ih
    have HK2 := Lib.hid hk2
    clear ih hk hk2
    go_enter Tryz.func88, Tryz.ntmps88
    go_wp2_with fail
    go_loopw [5] (fun i wr => ∃ k : Nat, k ≤ es.length ∧ i = .int .i64 k ∧ Below w.heap.size w wr) (fun i _ => es.length - (intOf i).toNat)
    case atStart => exact ⟨0, by omega, rfl, Below.refl _ _⟩
    case round =>
      obtain ⟨k, hk, rfl, hB⟩ := hrel
      have hz := hB.size
      by_cases hlt : k < es.length
      · have hS1 : Same L U w0 wr := hS.trans (Same.of_below hB hU)
        have hS2 : Same L' U' w1 wr := hS'.trans (Same.of_below hB hU')
        obtain ⟨b, o, rfl, _, hb, c0, c1, c3⟩ := row_at (r.keep hS1) hlt
        obtain ⟨b', o', rfl, _, hb', d0, d1, d3⟩ := row_at (r2.keep hS2) hlt
        obtain ⟨A3, k3, hV, _, _⟩ := HS.out k hlt
        obtain ⟨A4, k4, hV2, _, _⟩ := HS2.out k hlt
        have CK := eqExpr_of (ks := (nthX es k).kids) (nthX es k).op (nthX es k).num wr.drew ⟨A3, k3, hV⟩ ⟨A4, k4, hV2⟩ (fun O O' => IH.out k hlt (HK2.out k hlt) _ (hS1.trans (Same.of_below (((Below.refl wr.heap.size wr).drew.alloc (by simp) O).alloc (by simp) O') (by omega))) (hS2.trans (Same.of_below (((Below.refl wr.heap.size wr).drew.alloc (by simp) O).alloc (by simp) O') (by omega))) (by simp; omega) (by simp; omega))
        rw [hV] at c3 CK
        rw [hV2] at d3 CK
        have CK := Lib.hid CK
        have k0 : (0 : Int) ≤ (k : Int) := by omega
        have k1 : (k : Int) < (es.length : Int) := by omega
        have g1 : b < wr.heap.size := by omega
        have g2 : b' < wr.heap.size := by omega
        have HB := Lib.hid hB
        clear hB hS1 hS2 hV hV2
        go_wp2_with fail
        go_region_held3 (fun w' => w'.cell? ⟨b, o + k * 3, none⟩ = some (.int .i64 (nthX es k).op) ∧ w'.cell? ⟨b, o + k * 3 + 1, none⟩ = some (.int .i64 (nthX es k).num) ∧ w'.cell? ⟨b, o + k * 3 + 2, none⟩ = some (.slice A3 (nthX es k).kids.length k3) ∧ w'.cell? ⟨b', o' + k * 3, none⟩ = some (.int .i64 (nthX es k).op) ∧ w'.cell? ⟨b', o' + k * 3 + 1, none⟩ = some (.int .i64 (nthX es k).num) ∧ w'.cell? ⟨b', o' + k * 3 + 2, none⟩ = some (.slice A4 (nthX es k).kids.length k4))
          (first | go_keep | (exact ⟨(hB1.cell (by simp; assumption)).trans (by simp; assumption), (hB1.cell (by simp; assumption)).trans (by simp; assumption), (hB1.cell (by simp; assumption)).trans (by simp; assumption), (hB1.cell (by simp; assumption)).trans (by simp; assumption), (hB1.cell (by simp; assumption)).trans (by simp; assumption), (hB1.cell (by simp; assumption)).trans (by simp; assumption)⟩))
          (first | (go_at_call 68; refine CK.out.mono ?_; rintro e w' ⟨rfl, hB1⟩))
        have hB2 := HB.out.trans (((Below.refl _ wr).drew.trans (hB1.mono (by simp))).mono hz)
        clear hB1
        go_wp2_with fail
        go_roundw
        case rel => exact ⟨k + 1, by omega, by go_num, hB2⟩
        case measure => simp [intOf]; omega
      · go_wp2_with fail
        go_ret
        exact ⟨rfl, hB⟩
theorem eqExpr_same {w : World} {L U L' U' : Nat} {u u' : Value} {ks : List Ex} (h : Exs w L U u ks) (h' : Exs w L' U' u' ks) (o n : Int) (hU : U ≤ w.heap.size) (hU' : U' ≤ w.heap.size) :
    Calls Tryz.prog 68 #[.agg #[.int .i64 o, .int .i64 n, u], .agg #[.int .i64 o, .int .i64 n, u']] w fun e w' => e = .returned (.bool true) ∧ Below w.heap.size w w' := by
  obtain ⟨A, c, e, _⟩ := h.open_
  obtain ⟨A', c', e', _⟩ := h'.open_
  exact eqExpr_of o n w ⟨A, c, e⟩ ⟨A', c', e'⟩ (fun O O' => eqExprS_same h h' _ (Same.of_below (((Below.refl w.heap.size w).alloc (Nat.le_refl _) O).alloc (by simp) O') hU) (Same.of_below (((Below.refl w.heap.size w).alloc (Nat.le_refl _) O).alloc (by simp) O') hU') (by simp; omega) (by simp; omega))
end Go.Proofs.YtihmkaodjpgikaaGreat

/- Copies of expressions that the exact laws make. -/
namespace Go.Proofs.YtihmkaodjpgikaaGreat
open Go.RowKit Go.BigFrame
theorem infoX : (Tryz.prog.info? 64).map (fun i => (i.zero, i.size, i.bytes)) = some (some (.agg #[.int .i64 0, .int .i64 0, .slice none 0 0]), 3, 40) := by kernel_rfl
/-- Expressions in blocks of the call's own. -/
inductive OExs (w : World) (L U : Nat) : Value → List Ex → Prop
  | mk (v : Value) (V : Nat → Value) (es : List Ex) (b : Blk w L U 64 v es.length (cellsOf 3 es.length fun i j => exCell (nthX es i) (V i) j)) (h : ∀ i, i < es.length → OExs w L U (V i) (nthX es i).kids) : OExs w L U v es
theorem OExs.keep {w w' : World} {L U : Nat} {v : Value} {es : List Ex} (h : OExs w L U v es) (s : Same L U w w') : OExs w' L U v es := by
  induction h with
  | mk v V es b _ ih => exact .mk v V es (b.keep s) ih
theorem OExs.wide {w : World} {L U L' U' : Nat} {v : Value} {es : List Ex} (h : OExs w L U v es) (hL : L' ≤ L) (hU : U ≤ U') : OExs w L' U' v es := by
  induction h with
  | mk v V es b _ ih => exact .mk v V es (b.wide hL hU) ih
theorem OExs.exs {w : World} {L U : Nat} {v : Value} {es : List Ex} (h : OExs w L U v es) : Exs w L U v es := by
  induction h with
  | mk v V es b _ ih =>
    obtain ⟨g, rfl, r⟩ := b.row
    exact .mk _ _ V es r ih
theorem OExs.form {w : World} {L U : Nat} {v : Value} {es : List Ex} (h : OExs w L U v es) : ∃ g, v = .slice (some ⟨g, 0, none⟩) es.length es.length := by
  cases h with
  | mk v V es b h => obtain ⟨g, a, e, _⟩ := b; exact ⟨g, e⟩
set_option maxHeartbeats 400000 in
theorem toExpr_of {w : World} {L U : Nat} {v : Value} {ks : List Ex} (x y : Int) (hv : Exs w L U v ks) (hU : U ≤ w.heap.size)
    (C : ∀ W, Same L U w W → U ≤ W.heap.size → Calls Tryz.prog 77 #[v] W fun e w' => ∃ u, e = .returned u ∧ Below W.heap.size W w' ∧ OExs w' W.heap.size w'.heap.size u ks) :
    Calls Tryz.prog 60 #[.agg #[.int .i64 x, .int .i64 y, v]] w fun e w' => ∃ u, e = .returned (.agg #[.int .i64 x, .int .i64 y, u]) ∧ Below w.heap.size w w' ∧ OExs w' w.heap.size w'.heap.size u ks := by
  obtain ⟨B, d, rfl, hl, hd⟩ := hv.open_
  have HC0 := Lib.hid C
  clear C
  go_enter Tryz.func60, Tryz.ntmps60
  go_wp2_with fail
  refine named ?_
  intro W hW
  have hB : Below w.heap.size w W := by
    rw [hW]
    iterate 2 (refine Below.alloc ?_ (by simp only [World.size_alloc]; omega) _)
    exact (Below.refl _ w).alloc (Nat.le_refl _) _
  have hsz : W.heap.size = w.heap.size + 3 := by rw [hW]; simp
  have b1 : W.heap[w.heap.size + 1]? = some (.cells #[.int .i64 0, .int .i64 0, .slice none 0 0] 64 (0, 0)) := by
    rw [hW]
    refine Eq.trans (Below.heap_alloc _ _ _ (by simp only [World.size_alloc]; omega)) ?_
    exact alloc_last _ _ _ (by simp)
  have b2 : W.heap[w.heap.size + 1 + 1]? = some (.cells #[.int .i64 x, .int .i64 y, .slice none 0 0] 64 (0, 0)) := by
    rw [hW]
    exact alloc_last _ _ _ (by simp)
  clear hW
  refine (HC0.out W (Same.of_below hB hU) (by omega)).mono ?_
  rintro e w1 ⟨u, rfl, hB1, ho⟩
  have c1 := (hB1.block _ (by omega)).trans b1
  have c2 := (hB1.block _ (by omega)).trans b2
  have q10 := cell_of_row w1 _ 0 _ _ (0, 0) c1
  have q11 := cell_of_row w1 _ 1 _ _ (0, 0) c1
  have q12 := cell_of_row w1 _ 2 _ _ (0, 0) c1
  have q20 := cell_of_row w1 _ 0 _ _ (0, 0) c2
  have q21 := cell_of_row w1 _ 1 _ _ (0, 0) c2
  have q22 := cell_of_row w1 _ 2 _ _ (0, 0) c2
  have f10 := frozen_of_row w1 _ 0 _ _ c1
  have f11 := frozen_of_row w1 _ 1 _ _ c1
  have f12 := frozen_of_row w1 _ 2 _ _ c1
  have f22 := frozen_of_row w1 _ 2 _ _ c2
  simp only [List.getElem?_toArray, List.getElem?_cons_zero, List.getElem?_cons_succ] at q10 q11 q12 q20 q21 q22
  have HO := Lib.hid ho
  obtain ⟨g, rfl⟩ := ho.form
  have HC := Lib.hid (And.intro c1 c2)
  clear b1 b2 c1 c2 ho
  go_wp2_with fail
  (try simp only [Exit.inBlock, Exit.then])
  refine ended ?_
  intro W4 hW4
  have e4 : W4.heap[w.heap.size + 1]? = some (.cells #[.int .i64 x, .int .i64 y, .slice (some ⟨g, 0, none⟩) ks.length ks.length] 64 (0, 0)) := by
    rw [hW4]
    exact heap_setCell_same _ _ 2 _ _ _ (heap_setCell_same _ _ 1 _ _ _ (heap_setCell_same _ _ 0 _ _ _ ((heap_setCell_other w1 ⟨w.heap.size + 1 + 1, 2, none⟩ (w.heap.size + 1) _ (by simp)).trans HC.out.1)))
  have r0 := cell_of_row W4 _ 0 _ _ (0, 0) e4
  have r1 := cell_of_row W4 _ 1 _ _ (0, 0) e4
  have r2 := cell_of_row W4 _ 2 _ _ (0, 0) e4
  simp only [List.getElem?_toArray, List.getElem?_cons_zero, List.getElem?_cons_succ] at r0 r1 r2
  have hB4 : Below w.heap.size w W4 := by
    rw [hW4]
    exact (((((hB.trans (hB1.mono hB.size)).setCell (by simp; omega) _).setCell (by simp) _).setCell (by simp) _).setCell (by simp) _)
  have ho4 : OExs W4 w.heap.size W4.heap.size (.slice (some ⟨g, 0, none⟩) ks.length ks.length) ks := by
    rw [hW4]
    refine (HO.out.keep (fun k h1 h2 => ?_)).wide (by omega) (by simp)
    rw [heap_setCell_other _ _ _ _ (by simp; omega), heap_setCell_other _ _ _ _ (by simp; omega), heap_setCell_other _ _ _ _ (by simp; omega), heap_setCell_other _ _ _ _ (by simp; omega)]
  clear hW4 e4
  refine bodyPost_ret (v := .agg #[.int .i64 x, .int .i64 y, .slice (some ⟨g, 0, none⟩) ks.length ks.length]) ?_ rfl ⟨_, rfl, hB4, ho4⟩
  rw [results_one rfl]
  go_simp
set_option maxHeartbeats 800000 in
theorem toExprS_any {w0 : World} {L U : Nat} {v : Value} {ks : List Ex} (h : Exs w0 L U v ks) : ∀ w : World, Same L U w0 w → U ≤ w.heap.size → sumL one_ ks ≤ 1048576 →
    Calls Tryz.prog 77 #[v] w fun e w' => ∃ u, e = .returned u ∧ Below w.heap.size w w' ∧ OExs w' w.heap.size w'.heap.size u ks := by
  induction h with
  | mk A c V0 es r hk ih =>
    intro w hS hU hsum
    have hl := r.le
    have hc : c ≤ 9223372036854775807 := r.cap
    obtain ⟨i0, hi, hz0, hz1, hz2⟩ := info_parts infoX
    have hlen := sumL_length es
    have hs1 : es.length ≤ 1048576 := by omega
    have HK := Lib.hid hk
    have IH := Lib.hid ih
    clear hk ih
    have HSUM := Lib.hid hsum
    clear hsum hlen
    go_enter Tryz.func77, Tryz.ntmps77
    go_wp2_with (at_make; refine wpList_make_full _ rfl _ _ 62 rfl w.heap.size 64 i0 (.agg #[.int .i64 0, .int .i64 0, .slice none 0 0]) 3 Tryz.underlying62 hi hz0 hz1 .i64 .i64 _ _ es.length rfl rfl rfl rfl (by rw [hz2]; omega) (by unfold maxLen; omega) (Nat.le_refl _) ?_)
    intro w1 hown hg
    have hB1 : Below w.heap.size w w1 := (Below.refl _ w).grown hg (Nat.le_refl _) (fun k e => by cases e)
    have hF := Fill.made (k := 3) (z := #[.int .i64 0, .int .i64 0, .slice none 0 0]) hown rfl (fun _ _ => undef)
    have hsz : w.heap.size < w1.heap.size := (hown.lt _ rfl).2
    clear hown hg
    go_wp2_with fail
    go_loopw [4] (fun i wr => ∃ (k : Nat) (V : Nat → Value), k ≤ es.length ∧ i = .int .i64 k ∧ Fill wr w.heap.size 3 es.length k 64 (fun i j => exCell (nthX es i) (V i) j) (fun j => #[Value.int .i64 0, .int .i64 0, .slice none 0 0][j]!) ∧ Hid (∀ i, i < k → OExs wr (w.heap.size + 1) wr.heap.size (V i) (nthX es i).kids) ∧ Below w.heap.size w wr ∧ w.heap.size < wr.heap.size) (fun i _ => es.length - (intOf i).toNat)
    case atStart => exact ⟨0, fun _ => undef, by omega, rfl, hF, fun i hi => absurd hi (by omega), hB1, hsz⟩
    case round =>
      obtain ⟨k, V, hk, rfl, hF, HV, hB, hsz⟩ := hrel
      by_cases hlt : k < es.length
      · have hS1 : Same L U w0 wr := hS.trans (Same.of_below hB hU)
        obtain ⟨b, o, rfl, _, hb, c0, c1, c2⟩ := row_at (r.keep hS1) hlt
        have hz := hB.size
        obtain ⟨A', c', hV0, _, _⟩ := (HK.out k hlt).open_
        have hsub : sumL one_ (nthX es k).kids ≤ 1048576 := by
          have h1 := sumL_mem one_ hlt
          rw [sum_eq] at h1
          have := HSUM.out
          omega
        have CK := toExpr_of (nthX es k).op (nthX es k).num ((HK.out k hlt).keep hS1) (by omega) (fun W h1 h2 => IH.out k hlt W (hS1.trans h1) h2 hsub)
        rw [hV0] at c2 CK
        have CK := Lib.hid CK
        clear hV0 hsub hS1
        go_wp2_with fail
        refine CK.out.mono ?_
        rintro e w2 ⟨u, rfl, hB2, ho⟩
        have hF2 := hF.keep (hB2.block _ hsz)
        have hq0 := hF2.cell hlt (j := 0) (by omega)
        have hq1 := hF2.cell hlt (j := 1) (by omega)
        have hq2 := hF2.cell hlt (j := 2) (by omega)
        have hf0 := hF2.free (k * 3)
        have hf1 := hF2.free (k * 3 + 1)
        have hf2 := hF2.free (k * 3 + 2)
        rw [Nat.add_zero] at hq0
        obtain ⟨W3, hW3⟩ : ∃ W3, W3 = ((w2.setCell ⟨w.heap.size, k * 3, none⟩ (.int .i64 (nthX es k).op)).setCell ⟨w.heap.size, k * 3 + 1, none⟩ (.int .i64 (nthX es k).num)).setCell ⟨w.heap.size, k * 3 + 2, none⟩ u := ⟨_, rfl⟩
        have hz3 : W3.heap.size = w2.heap.size := by rw [hW3]; simp
        have hF3 : Fill W3 w.heap.size 3 es.length (k + 1) 64 (fun i j => exCell (nthX es i) (if i = k then u else V i) j) (fun j => #[Value.int .i64 0, .int .i64 0, .slice none 0 0][j]!) := by
          rw [hW3]
          exact (hF2.congr (V' := fun i j => exCell (nthX es i) (if i = k then u else V i) j) (fun i j hi _ => by rw [if_neg (by omega)])).three rfl rfl (by simp [exCell])
        have hB3 : Below w.heap.size w W3 := by
          rw [hW3]
          exact (((hB.trans (hB2.mono hz)).setCell (Nat.le_refl _) _).setCell (Nat.le_refl _) _).setCell (Nat.le_refl _) _
        have kp0 : ∀ g, w.heap.size + 1 ≤ g → W3.heap[g]? = w2.heap[g]? := fun g hg => by
          rw [hW3, heap_setCell_other _ _ _ _ (by simp; omega), heap_setCell_other _ _ _ _ (by simp; omega), heap_setCell_other _ _ _ _ (by simp; omega)]
        have HV3 : Hid (∀ i, i < k + 1 → OExs W3 (w.heap.size + 1) W3.heap.size (if i = k then u else V i) (nthX es i).kids) := by
          intro i hi
          have kp : ∀ {v : Value} {xs : List Ex}, OExs w2 (w.heap.size + 1) w2.heap.size v xs → OExs W3 (w.heap.size + 1) W3.heap.size v xs := fun h =>
            (h.keep (fun g h1 _ => kp0 g h1)).wide (Nat.le_refl _) (by omega)
          by_cases e : i = k
          · rw [if_pos e, e]
            exact kp (ho.wide (by omega) (Nat.le_refl _))
          · rw [if_neg e]
            exact kp (((HV.out i (by omega)).keep (Same.of_below hB2 (Nat.le_refl _))).wide (Nat.le_refl _) hB2.size)
        have hsz3 : w.heap.size < W3.heap.size := by have := hB2.size; omega
        obtain ⟨g, rfl⟩ := ho.form
        subst hW3
        have HH := Lib.hid (And.intro hF3 (And.intro hB3 hsz3))
        clear hF hF2 hB HV hB2 hF3 hB3 hsz3 hz3 kp0 ho
        go_wp2_with fail
        go_roundw
        case rel => exact ⟨k + 1, _, by omega, by go_num, HH.out.1, HV3, HH.out.2.1, HH.out.2.2⟩
        case measure => simp [intOf]; omega
      · go_wp2_with fail
        go_ret
        obtain rfl : k = es.length := by omega
        exact ⟨_, rfl, hB, .mk _ V es (hF.blk (Nat.le_refl _) hsz (by unfold maxLen; omega)) fun i hi => (HV.out i hi).wide (by omega) (Nat.le_refl _)⟩
theorem toExpr_any {w : World} {L U : Nat} {v : Value} {ks : List Ex} (hv : Exs w L U v ks) (x y : Int) (hU : U ≤ w.heap.size) (hs : sumL one_ ks ≤ 1048576) :
    Calls Tryz.prog 60 #[.agg #[.int .i64 x, .int .i64 y, v]] w fun e w' => ∃ u, e = .returned (.agg #[.int .i64 x, .int .i64 y, u]) ∧ Below w.heap.size w w' ∧ OExs w' w.heap.size w'.heap.size u ks :=
  toExpr_of x y hv hU fun W h1 h2 => toExprS_any hv W h1 h2 hs
end Go.Proofs.YtihmkaodjpgikaaGreat

/- Words for the walks of the exact laws over expressions. -/
namespace Go.Proofs.YtihmkaodjpgikaaGreat
open Go.RowKit Go.BigFrame
theorem three {W : World} {g : Nat} {T : TypeId} {a b c : Value} (h : W.heap[g]? = some (.cells #[a, b, c] T (0, 0))) : W.cell? ⟨g, 0, none⟩ = some a ∧ W.cell? ⟨g, 1, none⟩ = some b ∧ W.cell? ⟨g, 2, none⟩ = some c := by
  refine ⟨?_, ?_, ?_⟩ <;> rw [cell_of_row W g _ _ _ (0, 0) h] <;> rfl
theorem szExpr_top {w : World} {L U : Nat} {u : Value} {ks : List Ex} (h : Exs w L U u ks) (o n : Int) (hU : U ≤ w.heap.size) :
    Calls Tryz.prog 46 #[.agg #[.int .i64 o, .int .i64 n, u], .int .i64 1048576] w fun e w' => ∃ r : Int, e = .returned (.int .i64 r) ∧ Below w.heap.size w w' ∧ (r = -1 ∨ (0 ≤ r ∧ r ≤ 1048576 ∧ sumL one_ ks ≤ 1048576)) := by
  refine Calls.mono (szExpr_any h o n 1048576 hU (by omega)) ?_
  rintro e w' ⟨rfl, hB⟩
  refine ⟨_, rfl, hB, ?_⟩
  unfold leftV
  split
  · right; omega
  · exact .inl rfl
end Go.Proofs.YtihmkaodjpgikaaGreat

/- Generic texts and models for the proofs of this seat: part 22. -/
import Derived.Test.YtbodfaghedolbaaS21
import Derived.WalkKit
import Derived.Below
import Derived.Laws.OwnMore
import Derived.Lib.Hide
import Derived.Deep.Draws
import Derived.Laws.AppendOwn
import Derived.Laws.AppendOwnNone
import Derived.Deep.Slices
import Derived.ChangeSame
import Derived.OpenShut
import Derived.Test.YtbodfaghedolbaaProg
import Derived.Deep.RegionWith
import Derived.Deep.RegionHeld3
import Derived.RegionTactic
import Derived.ChangeAlike
import Derived.Deep.QuietTactic
import Derived.BigQuiet
import Derived.Outline
import Derived.LoopTactic
import Derived.OwnWalk
import Derived.Laws.MakeOwn
import Derived.Maps.AppendAt
set_option linter.unusedVariables false
set_option linter.unusedSimpArgs false
namespace Go.Proofs.Ytbodfaghedolbaa
open Go.RowKit
def nth (xs : List Int) (i : Nat) : Int := xs.getD i 0
def nthL (xs : List (List Int)) (i : Nat) : List Int := xs.getD i []
theorem nth_of {xs : List Int} {i : Nat} (h : i < xs.length) : nth xs i = xs[i] := by simp [nth, h]
theorem nthL_of {xs : List (List Int)} {i : Nat} (h : i < xs.length) : nthL xs i = xs[i] := by simp [nthL, h]
structure Dec where
  frm : Int
  to : Int
  cons : List (List Int)
def noDec : Dec := ⟨0, 0, []⟩
def nthD (ds : List Dec) (i : Nat) : Dec := ds.getD i noDec
def Same (L U : Nat) (w w' : World) : Prop := ∀ g, L ≤ g → g < U → w'.heap[g]? = w.heap[g]?
theorem Same.refl (L U : Nat) (w : World) : Same L U w w := fun _ _ _ => rfl
theorem Same.trans {L U : Nat} {a b c : World} (h : Same L U a b) (k : Same L U b c) : Same L U a c := fun g h1 h2 => (k g h1 h2).trans (h g h1 h2)
theorem Same.cell {L U : Nat} {w w' : World} (h : Same L U w w') {b o : Nat} {s : Option Nat} (h1 : L ≤ b) (h2 : b < U) : w'.cell? ⟨b, o, s⟩ = w.cell? ⟨b, o, s⟩ := World.cell?_of_block (w := w) (h b h1 h2)
structure Row (w : World) (L U k : Nat) (A : Option Addr) (n c : Nat) (V : Nat → Nat → Value) : Prop where
  le : n ≤ c
  cap : c ≤ maxLen
  nil : A = none → n = 0 ∧ c = 0
  place : 0 < n → ∃ b o, A = some ⟨b, o, none⟩ ∧ L ≤ b ∧ b < U ∧ ∀ i j, i < n → j < k → w.cell? ⟨b, o + i * k + j, none⟩ = some (V i j)
theorem Row.keep {w w' : World} {L U k : Nat} {A : Option Addr} {n c : Nat} {V : Nat → Nat → Value} (h : Row w L U k A n c V) (s : Same L U w w') : Row w' L U k A n c V :=
  ⟨h.le, h.cap, h.nil, fun hn => by
    obtain ⟨b, o, e, h1, h2, hc⟩ := h.place hn
    exact ⟨b, o, e, h1, h2, fun i j hi hj => (s.cell h1 h2).trans (hc i j hi hj)⟩⟩
def Ints (w : World) (L U : Nat) (v : Value) (xs : List Int) : Prop := ∃ A c, v = .slice A xs.length c ∧ Row w L U 1 A xs.length c (fun i _ => .int .i64 (nth xs i))
def Cons (w : World) (L U : Nat) (v : Value) (cs : List (List Int)) : Prop :=
  ∃ (A : Option Addr) (c : Nat) (V : Nat → Value), v = .slice A cs.length c ∧ Row w L U 1 A cs.length c (fun i _ => V i) ∧ ∀ i, i < cs.length → Ints w L U (V i) (nthL cs i)
def decCell (d : Dec) (v : Value) (j : Nat) : Value := if j = 0 then .int .i64 d.frm else if j = 1 then .int .i64 d.to else v
def Decs (w : World) (L U : Nat) (v : Value) (ds : List Dec) : Prop :=
  ∃ (A : Option Addr) (c : Nat) (V : Nat → Value), v = .slice A ds.length c ∧ Row w L U 3 A ds.length c (fun i j => decCell (nthD ds i) (V i) j) ∧ ∀ i, i < ds.length → Cons w L U (V i) (nthD ds i).cons
theorem Ints.keep {w w' : World} {L U : Nat} {v : Value} {xs : List Int} (h : Ints w L U v xs) (s : Same L U w w') : Ints w' L U v xs := by
  obtain ⟨A, c, e, r⟩ := h
  exact ⟨A, c, e, r.keep s⟩
theorem Cons.keep {w w' : World} {L U : Nat} {v : Value} {cs : List (List Int)} (h : Cons w L U v cs) (s : Same L U w w') : Cons w' L U v cs := by
  obtain ⟨A, c, V, e, r, hi⟩ := h
  exact ⟨A, c, V, e, r.keep s, fun i hl => (hi i hl).keep s⟩
theorem Decs.keep {w w' : World} {L U : Nat} {v : Value} {ds : List Dec} (h : Decs w L U v ds) (s : Same L U w w') : Decs w' L U v ds := by
  obtain ⟨A, c, V, e, r, hi⟩ := h
  exact ⟨A, c, V, e, r.keep s, fun i hl => (hi i hl).keep s⟩
theorem Ints.open_ {w : World} {L U : Nat} {v : Value} {xs : List Int} (h : Ints w L U v xs) : ∃ A c, v = .slice A xs.length c ∧ xs.length ≤ c ∧ c ≤ 9223372036854775807 := by
  obtain ⟨A, c, e, r⟩ := h
  exact ⟨A, c, e, r.le, r.cap⟩
theorem Ints.at_ {w : World} {L U : Nat} {A : Option Addr} {n c k : Nat} {xs : List Int} (h : Ints w L U (.slice A n c) xs) (hk : k < xs.length) :
    ∃ b o, A = some ⟨b, o, none⟩ ∧ L ≤ b ∧ b < U ∧ w.cell? ⟨b, o + k, none⟩ = some (.int .i64 xs[k]) := by
  obtain ⟨A, c, e, r⟩ := h
  injection e with e1 e2 e3
  subst e1
  obtain ⟨b, o, e, h1, h2, hc⟩ := r.place (by omega)
  refine ⟨b, o, e, h1, h2, ?_⟩
  have := hc k 0 hk (by omega)
  rwa [Nat.mul_one, Nat.add_zero, nth_of hk] at this
theorem Cons.open_ {w : World} {L U : Nat} {v : Value} {cs : List (List Int)} (h : Cons w L U v cs) : ∃ A c, v = .slice A cs.length c ∧ cs.length ≤ c ∧ c ≤ 9223372036854775807 := by
  obtain ⟨A, c, V, e, r, hi⟩ := h
  exact ⟨A, c, e, r.le, r.cap⟩
theorem Cons.at_ {w : World} {L U : Nat} {A : Option Addr} {n c k : Nat} {cs : List (List Int)} (h : Cons w L U (.slice A n c) cs) (hk : k < cs.length) :
    ∃ b o A' c', A = some ⟨b, o, none⟩ ∧ L ≤ b ∧ b < U ∧ w.cell? ⟨b, o + k, none⟩ = some (.slice A' (cs[k]).length c') ∧ Ints w L U (.slice A' (cs[k]).length c') cs[k] := by
  obtain ⟨A, c, V, e, r, hi⟩ := h
  injection e with e1 e2 e3
  subst e1
  obtain ⟨b, o, e, h1, h2, hc⟩ := r.place (by omega)
  have hu := hi k hk
  rw [nthL_of hk] at hu
  obtain ⟨A', c', e', _⟩ := hu.open_
  have hc' := hc k 0 hk (by omega)
  rw [Nat.mul_one, Nat.add_zero] at hc'
  rw [e'] at hc' hu
  exact ⟨b, o, A', c', e, h1, h2, hc', hu⟩
theorem Decs.open_ {w : World} {L U : Nat} {v : Value} {ds : List Dec} (h : Decs w L U v ds) : ∃ A c, v = .slice A ds.length c ∧ ds.length ≤ c ∧ c ≤ 9223372036854775807 := by
  obtain ⟨A, c, V, e, r, hi⟩ := h
  exact ⟨A, c, e, r.le, r.cap⟩
theorem Decs.at_ {w : World} {L U : Nat} {A : Option Addr} {n c k : Nat} {ds : List Dec} (h : Decs w L U (.slice A n c) ds) (hk : k < ds.length) :
    ∃ b o A' c', A = some ⟨b, o, none⟩ ∧ L ≤ b ∧ b < U ∧ w.cell? ⟨b, o + k * 3, none⟩ = some (.int .i64 (nthD ds k).frm) ∧ w.cell? ⟨b, o + k * 3 + 1, none⟩ = some (.int .i64 (nthD ds k).to) ∧
      w.cell? ⟨b, o + k * 3 + 2, none⟩ = some (.slice A' (nthD ds k).cons.length c') ∧ Cons w L U (.slice A' (nthD ds k).cons.length c') (nthD ds k).cons := by
  obtain ⟨A, c, V, e, r, hi⟩ := h
  injection e with e1 e2 e3
  subst e1
  obtain ⟨b, o, e, h1, h2, hc⟩ := r.place (by omega)
  have hu := hi k hk
  obtain ⟨A', c', e', _⟩ := hu.open_
  have h2' : w.cell? ⟨b, o + k * 3 + 2, none⟩ = some (V k) := hc k 2 hk (by omega)
  rw [e'] at h2' hu
  exact ⟨b, o, A', c', e, h1, h2, hc k 0 hk (by omega), hc k 1 hk (by omega), h2', hu⟩
def cellsOf (k m : Nat) (V : Nat → Nat → Value) : List Value := (List.range (m * k)).map fun x => V (x / k) (x % k)
theorem length_cellsOf (k m : Nat) (V : Nat → Nat → Value) : (cellsOf k m V).length = m * k := by simp [cellsOf]
theorem cellsOf_at {k m i j : Nat} (V : Nat → Nat → Value) (hi : i < m) (hj : j < k) : (cellsOf k m V)[i * k + j]? = some (V i j) := by
  have hlt : i * k + j < m * k := by
    have : (i + 1) * k ≤ m * k := Nat.mul_le_mul_right k hi
    rw [Nat.add_mul] at this; omega
  have e1 : (i * k + j) / k = i := by
    rw [Nat.mul_comm, Nat.mul_add_div (by omega), Nat.div_eq_of_lt hj, Nat.add_zero]
  have e2 : (i * k + j) % k = j := by
    rw [Nat.mul_comm, Nat.mul_add_mod, Nat.mod_eq_of_lt hj]
  unfold cellsOf
  rw [List.getElem?_map, List.getElem?_range hlt]
  simp [e1, e2]
theorem cellsOf_ints (xs : List Int) : cellsOf 1 xs.length (fun i _ => .int .i64 (nth xs i)) = xs.map (Value.int .i64) := by
  apply List.ext_getElem?
  intro j
  by_cases hj : j < xs.length
  · have := cellsOf_at (k := 1) (m := xs.length) (i := j) (j := 0) (fun i _ => Value.int .i64 (nth xs i)) hj (by omega)
    rw [Nat.mul_one, Nat.add_zero] at this
    rw [this, nth_of hj]; simp [hj]
  · rw [List.getElem?_eq_none (by rw [length_cellsOf]; omega), List.getElem?_eq_none (by simp; omega)]
theorem row_of_own {w : World} {base k n : Nat} {e : TypeId} {v : Value} {V : Nat → Nat → Value} (h : w.ownsRow base e k v n (cellsOf k n V)) : ∃ A c, v = .slice A n c ∧ Row w base w.heap.size k A n c V := by
  rcases h.2 with ⟨rfl, rfl⟩ | ⟨g, cap, cur, rfl, hb, hg, hnc, hcm, hcs, htake⟩
  · exact ⟨none, 0, rfl, Nat.le_refl _, by simp [maxLen], fun _ => ⟨rfl, rfl⟩, fun h => absurd h (by omega)⟩
  · refine ⟨_, cap, rfl, hnc, hcm, (fun e => by cases e), fun hn => ⟨g, 0, rfl, hb, ?_, fun i j hi hj => ?_⟩⟩
    · exact (Array.getElem?_eq_some_iff.1 hg).1
    · have hlt : i * k + j < n * k := by
        have : (i + 1) * k ≤ n * k := Nat.mul_le_mul_right k hi
        rw [Nat.add_mul] at this; omega
      rw [Nat.zero_add, h.cellAt (i * k + j) hlt, cellsOf_at V hi hj]
theorem ints_of_own {w : World} {base n : Nat} {e : TypeId} {v : Value} {xs : List Int} (h : w.ownsRow base e 1 v n (xs.map (Value.int .i64))) : Ints w base w.heap.size v xs := by
  have hn : n = xs.length := by have := h.1; simp at this; exact this.symm
  subst hn
  rw [← cellsOf_ints] at h
  exact row_of_own h
theorem Below.own {w w' wr : World} {B base n k : Nat} {e : TypeId} {v : Value} {xs : List Value} (hB : Below B w wr) (hown : wr.ownsRow base e k v n xs) (hg : wr.grownBy w' v.ownBlock) (h1 : B ≤ base) (h2 : B ≤ wr.heap.size) : Below B w w' :=
  hB.grown hg h2 fun g e => by have := (hown.lt g e).1; omega
theorem not_true {b : Bool} (h : (!b) = true) : b = false := by simpa using h
theorem not_false {b : Bool} (h : (!b) = false) : b = true := by simpa using h
end Go.Proofs.Ytbodfaghedolbaa
namespace Go.Proofs.Ytbodfaghedolbaa
open Go.RowKit Go.Deep Go.ChangeShapes
section
variable {H : Type} {enc : TypeId × Value → H} {P : Program} {w : World} {held : Bool}
end
end Go.Proofs.Ytbodfaghedolbaa
namespace Go.Proofs.Ytbodfaghedolbaa
open Go.RowKit
end Go.Proofs.Ytbodfaghedolbaa
namespace Go.Proofs.Ytbodfaghedolbaa
open Go.RowKit
theorem alloc_at (w : World) (o : Obj) (k : Nat) : (w.alloc o).heap[k]? = if k = w.heap.size then some o else w.heap[k]? := by
  show (w.heap.push o)[k]? = _
  rw [Array.getElem?_push]
theorem alloc_last (w : World) (o : Obj) (k : Nat) (h : k = w.heap.size) : (w.alloc o).heap[k]? = some o := by rw [alloc_at, if_pos h]
end Go.Proofs.Ytbodfaghedolbaa
namespace Go.Proofs.Ytbodfaghedolbaa
open Go.RowKit Go.BigFrame
theorem results_one {fn : Func} {p : Tmp} {ty : TypeId} (h : fn.results = #[.cell p ty]) (tmps : Array Value) (P : Program) (w : World) :
    (results fn tmps).run P w = ((asAddr (tmps.getD p undef)).run P w).andThen fun a w₁ => (loadVar ty a).run P w₁ := by
  simp only [results, h]
  simp [Sem.run_bind, Result.andThen]
def Blk (w : World) (L U : Nat) (T : TypeId) (v : Value) (n : Nat) (cs : List Value) : Prop :=
  ∃ g a, v = .slice (some ⟨g, 0, none⟩) n n ∧ L ≤ g ∧ g < U ∧ n ≤ maxLen ∧ w.heap[g]? = some (.cells a T (0, 0)) ∧ a.toList = cs
theorem Blk.keep {w w' : World} {L U : Nat} {T : TypeId} {v : Value} {n : Nat} {cs : List Value} (h : Blk w L U T v n cs) (s : Same L U w w') : Blk w' L U T v n cs := by
  obtain ⟨g, a, e, h1, h2, h3, h4, h5⟩ := h
  exact ⟨g, a, e, h1, h2, h3, (s g h1 h2).trans h4, h5⟩
theorem Blk.row {w : World} {L U k : Nat} {T : TypeId} {v : Value} {n : Nat} {V : Nat → Nat → Value} (h : Blk w L U T v n (cellsOf k n V)) : ∃ g, v = .slice (some ⟨g, 0, none⟩) n n ∧ Row w L U k (some ⟨g, 0, none⟩) n n V := by
  obtain ⟨g, a, e, h1, h2, h3, h4, h5⟩ := h
  refine ⟨g, e, Nat.le_refl _, h3, (fun e => by cases e), fun hn => ⟨g, 0, rfl, h1, h2, fun i j hi hj => ?_⟩⟩
  rw [cell_of_row w g _ a T (0, 0) h4]
  have := cellsOf_at V hi hj
  rw [← h5] at this
  rw [Nat.zero_add, ← this]
  simp
def part (k n m : Nat) (V : Nat → Nat → Value) (Z : Nat → Value) : List Value := cellsOf k n fun i j => if i < m then V i j else Z j
theorem part_done {k n : Nat} {V : Nat → Nat → Value} {Z : Nat → Value} : part k n n V Z = cellsOf k n V := by
  unfold part cellsOf
  refine List.map_congr_left fun x hx => ?_
  rw [List.mem_range] at hx
  have : x / k < n := Nat.div_lt_of_lt_mul (by rwa [Nat.mul_comm] at hx)
  exact if_pos this
theorem length_part (k n m : Nat) (V : Nat → Nat → Value) (Z : Nat → Value) : (part k n m V Z).length = n * k := length_cellsOf _ _ _
theorem made_part (z : Array Value) (n k : Nat) (hz : z.size = k) (V : Nat → Nat → Value) : (madeCells z (n * k)).toList = part k n 0 V (fun j => z[j]!) := by
  unfold madeCells part cellsOf
  subst hz
  simp
def Fill (w : World) (g k n m : Nat) (T : TypeId) (V : Nat → Nat → Value) (Z : Nat → Value) : Prop := ∃ a, w.heap[g]? = some (.cells a T (0, 0)) ∧ a.toList = part k n m V Z
theorem Fill.cell {w : World} {g k n m : Nat} {T : TypeId} {V : Nat → Nat → Value} {Z : Nat → Value} (h : Fill w g k n m T V Z) {i j : Nat} (hi : i < n) (hj : j < k) : w.cell? ⟨g, i * k + j, none⟩ = some (if i < m then V i j else Z j) := by
  obtain ⟨a, h1, h2⟩ := h
  rw [cell_of_row w g _ a T (0, 0) h1]
  have := cellsOf_at (fun i j => if i < m then V i j else Z j) hi hj
  unfold part at h2
  rw [← h2] at this
  rw [← this]; simp
theorem Fill.keep {w w' : World} {g k n m : Nat} {T : TypeId} {V : Nat → Nat → Value} {Z : Nat → Value} (h : Fill w g k n m T V Z) (e : w'.heap[g]? = w.heap[g]?) : Fill w' g k n m T V Z := by
  obtain ⟨a, h1, h2⟩ := h
  exact ⟨a, e.trans h1, h2⟩
theorem part_congr {k n m : Nat} {V V' : Nat → Nat → Value} {Z : Nat → Value} (h : ∀ i j, i < m → j < k → V i j = V' i j) : part k n m V Z = part k n m V' Z := by
  unfold part cellsOf
  refine List.map_congr_left fun x hx => ?_
  rw [List.mem_range] at hx
  by_cases hm : x / k < m
  · have hk : 0 < k := by rcases Nat.eq_zero_or_pos k with e | e
                          · subst e; omega
                          · exact e
    exact (if_pos hm).trans ((h _ _ hm (Nat.mod_lt _ hk)).trans (if_pos hm).symm)
  · exact (if_neg hm).trans (if_neg hm).symm
theorem Fill.congr {w : World} {g k n m : Nat} {T : TypeId} {V V' : Nat → Nat → Value} {Z : Nat → Value} (h : Fill w g k n m T V Z) (e : ∀ i j, i < m → j < k → V i j = V' i j) : Fill w g k n m T V' Z := by
  obtain ⟨a, h1, h2⟩ := h
  exact ⟨a, h1, h2.trans (part_congr e)⟩
theorem Fill.blk {w : World} {g k n : Nat} {T : TypeId} {V : Nat → Nat → Value} {Z : Nat → Value} (h : Fill w g k n n T V Z) {L U : Nat} (hL : L ≤ g) (hU : g < U) (hn : n ≤ maxLen) : Blk w L U T (.slice (some ⟨g, 0, none⟩) n n) n (cellsOf k n V) := by
  obtain ⟨a, h1, h2⟩ := h
  exact ⟨g, a, rfl, hL, hU, hn, h1, by rw [h2, part_done]⟩
theorem Fill.made {w : World} {base g n : Nat} {T : TypeId} {z : Array Value} {k : Nat} (h : w.ownsRow base T k (.slice (some ⟨g, 0, none⟩) n n) n (madeCells z (n * k)).toList) (hk : z.size = k) (V : Nat → Nat → Value) : Fill w g k n 0 T V (fun j => z[j]!) := by
  rcases h.2 with ⟨h', _⟩ | ⟨g', cap', cur, h', hb, hg, hnc, hcm, hcs, htake⟩
  · cases h'
  · injection h' with e1 e2 e3
    injection e1 with e1
    injection e1 with e1
    subst e1 e3
    refine ⟨cur, hg, ?_⟩
    rw [← made_part _ _ _ hk, ← htake, List.take_of_length_le (by simp [hcs])]
theorem Fill.one {w : World} {g n m : Nat} {T : TypeId} {V : Nat → Nat → Value} {Z : Nat → Value} (h : Fill w g 1 n m T V Z) (hm : m < n) {u : Value} (hu : V m 0 = u) : Fill (w.setCell ⟨g, m, none⟩ u) g 1 n (m + 1) T V Z := by
  obtain ⟨a, h1, h2⟩ := h
  refine ⟨a.setIfInBounds m u, heap_setCell_same w g m a T u h1, ?_⟩
  rw [Array.toList_setIfInBounds, h2]
  apply List.ext_getElem?
  intro x
  by_cases hx : x < n
  · have e1 := cellsOf_at (k := 1) (m := n) (i := x) (j := 0) (fun i j => if i < m + 1 then V i j else Z j) hx (by omega)
    have e0 := cellsOf_at (k := 1) (m := n) (i := x) (j := 0) (fun i j => if i < m then V i j else Z j) hx (by omega)
    simp only [Nat.mul_one, Nat.add_zero] at e1 e0
    unfold part
    rw [e1, List.getElem?_set]
    by_cases hmx : m = x
    · subst hmx; simp [length_cellsOf, hm, hu]
    · rw [if_neg hmx, e0]
      by_cases h3 : x < m
      · rw [if_pos h3, if_pos (by omega)]
      · rw [if_neg h3, if_neg (by omega)]
  · rw [List.getElem?_eq_none (by rw [List.length_set, length_part]; omega), List.getElem?_eq_none (by rw [length_part]; omega)]
theorem Fill.three {w : World} {g n m : Nat} {T : TypeId} {V : Nat → Nat → Value} {Z : Nat → Value} (h : Fill w g 3 n m T V Z) {u0 u1 u2 : Value} (h0 : V m 0 = u0) (h1 : V m 1 = u1) (h2 : V m 2 = u2) :
    Fill (((w.setCell ⟨g, m * 3, none⟩ u0).setCell ⟨g, m * 3 + 1, none⟩ u1).setCell ⟨g, m * 3 + 2, none⟩ u2) g 3 n (m + 1) T V Z := by
  obtain ⟨a, e1, e2⟩ := h
  refine ⟨((a.setIfInBounds (m * 3) u0).setIfInBounds (m * 3 + 1) u1).setIfInBounds (m * 3 + 2) u2, heap_setCell_same _ g _ _ T u2 (heap_setCell_same _ g _ _ T u1 (heap_setCell_same w g _ a T u0 e1)), ?_⟩
  rw [Array.toList_setIfInBounds, Array.toList_setIfInBounds, Array.toList_setIfInBounds, e2]
  have hlen : (part 3 n m V Z).length = n * 3 := length_part _ _ _ _ _
  apply List.ext_getElem?
  intro x
  by_cases hx : x < n * 3
  · have d1 : x / 3 < n := by omega
    have d2 : x % 3 < 3 := by omega
    have d3 : x / 3 * 3 + x % 3 = x := by omega
    have e1 := cellsOf_at (k := 3) (m := n) (i := x / 3) (j := x % 3) (fun i j => if i < m + 1 then V i j else Z j) d1 d2
    have e0 := cellsOf_at (k := 3) (m := n) (i := x / 3) (j := x % 3) (fun i j => if i < m then V i j else Z j) d1 d2
    rw [d3] at e1 e0
    unfold part at hlen ⊢
    rw [e1, List.getElem?_set, List.getElem?_set, List.getElem?_set, List.length_set, List.length_set, hlen, e0]
    by_cases c2 : m * 3 + 2 = x
    · rw [if_pos c2, if_pos (by omega), show x / 3 = m by omega, show x % 3 = 2 by omega, if_pos (by omega), h2]
    · rw [if_neg c2]
      by_cases c1 : m * 3 + 1 = x
      · rw [if_pos c1, if_pos (by omega), show x / 3 = m by omega, show x % 3 = 1 by omega, if_pos (by omega), h1]
      · rw [if_neg c1]
        by_cases c0 : m * 3 = x
        · rw [if_pos c0, if_pos (by omega), show x / 3 = m by omega, show x % 3 = 0 by omega, if_pos (by omega), h0]
        · rw [if_neg c0]
          by_cases h3 : x / 3 < m
          · rw [if_pos h3, if_pos (by omega)]
          · rw [if_neg h3, if_neg (by omega)]
  · rw [List.getElem?_eq_none (by simp only [List.length_set, length_part]; omega), List.getElem?_eq_none (by rw [length_part]; omega)]
theorem Fill.two {w : World} {g n m : Nat} {T : TypeId} {V : Nat → Nat → Value} {Z : Nat → Value} (h : Fill w g 2 n m T V Z) {u0 u1 : Value} (h0 : V m 0 = u0) (h1 : V m 1 = u1) :
    Fill ((w.setCell ⟨g, m * 2, none⟩ u0).setCell ⟨g, m * 2 + 1, none⟩ u1) g 2 n (m + 1) T V Z := by
  obtain ⟨a, e1, e2⟩ := h
  refine ⟨((a.setIfInBounds (m * 2) u0).setIfInBounds (m * 2 + 1) u1), (heap_setCell_same _ g _ _ T u1 (heap_setCell_same _ g _ _ T u0 e1)), ?_⟩
  rw [Array.toList_setIfInBounds, Array.toList_setIfInBounds, e2]
  have hlen : (part 2 n m V Z).length = n * 2 := length_part _ _ _ _ _
  apply List.ext_getElem?
  intro x
  by_cases hx : x < n * 2
  · have d1 : x / 2 < n := by omega
    have d2 : x % 2 < 2 := by omega
    have d3 : x / 2 * 2 + x % 2 = x := by omega
    have e1 := cellsOf_at (k := 2) (m := n) (i := x / 2) (j := x % 2) (fun i j => if i < m + 1 then V i j else Z j) d1 d2
    have e0 := cellsOf_at (k := 2) (m := n) (i := x / 2) (j := x % 2) (fun i j => if i < m then V i j else Z j) d1 d2
    rw [d3] at e1 e0
    unfold part at hlen ⊢
    rw [e1, List.getElem?_set, List.getElem?_set, List.length_set, hlen, e0]
    by_cases c1 : m * 2 + 1 = x
    · rw [if_pos c1, if_pos (by omega), show x / 2 = m by omega, show x % 2 = 1 by omega, if_pos (by omega), h1]
    · rw [if_neg c1]
      by_cases c0 : m * 2 = x
      · rw [if_pos c0, if_pos (by omega), show x / 2 = m by omega, show x % 2 = 0 by omega, if_pos (by omega), h0]
      · rw [if_neg c0]
        by_cases h3 : x / 2 < m
        · rw [if_pos h3, if_pos (by omega)]
        · rw [if_neg h3, if_neg (by omega)]
  · rw [List.getElem?_eq_none (by simp only [List.length_set, length_part]; omega), List.getElem?_eq_none (by rw [length_part]; omega)]
theorem Fill.five {w : World} {g n m : Nat} {T : TypeId} {V : Nat → Nat → Value} {Z : Nat → Value} (h : Fill w g 5 n m T V Z) {u0 u1 u2 u3 u4 : Value} (h0 : V m 0 = u0) (h1 : V m 1 = u1) (h2 : V m 2 = u2) (h3 : V m 3 = u3) (h4 : V m 4 = u4) :
    Fill (((((w.setCell ⟨g, m * 5, none⟩ u0).setCell ⟨g, m * 5 + 1, none⟩ u1).setCell ⟨g, m * 5 + 2, none⟩ u2).setCell ⟨g, m * 5 + 3, none⟩ u3).setCell ⟨g, m * 5 + 4, none⟩ u4) g 5 n (m + 1) T V Z := by
  obtain ⟨a, e1, e2⟩ := h
  refine ⟨(((((a.setIfInBounds (m * 5) u0).setIfInBounds (m * 5 + 1) u1).setIfInBounds (m * 5 + 2) u2).setIfInBounds (m * 5 + 3) u3).setIfInBounds (m * 5 + 4) u4), (heap_setCell_same _ g _ _ T u4 (heap_setCell_same _ g _ _ T u3 (heap_setCell_same _ g _ _ T u2 (heap_setCell_same _ g _ _ T u1 (heap_setCell_same _ g _ _ T u0 e1))))), ?_⟩
  rw [Array.toList_setIfInBounds, Array.toList_setIfInBounds, Array.toList_setIfInBounds, Array.toList_setIfInBounds, Array.toList_setIfInBounds, e2]
  have hlen : (part 5 n m V Z).length = n * 5 := length_part _ _ _ _ _
  apply List.ext_getElem?
  intro x
  by_cases hx : x < n * 5
  · have d1 : x / 5 < n := by omega
    have d2 : x % 5 < 5 := by omega
    have d3 : x / 5 * 5 + x % 5 = x := by omega
    have e1 := cellsOf_at (k := 5) (m := n) (i := x / 5) (j := x % 5) (fun i j => if i < m + 1 then V i j else Z j) d1 d2
    have e0 := cellsOf_at (k := 5) (m := n) (i := x / 5) (j := x % 5) (fun i j => if i < m then V i j else Z j) d1 d2
    rw [d3] at e1 e0
    unfold part at hlen ⊢
    rw [e1, List.getElem?_set, List.getElem?_set, List.getElem?_set, List.getElem?_set, List.getElem?_set, List.length_set, List.length_set, List.length_set, List.length_set, hlen, e0]
    by_cases c4 : m * 5 + 4 = x
    · rw [if_pos c4, if_pos (by omega), show x / 5 = m by omega, show x % 5 = 4 by omega, if_pos (by omega), h4]
    · rw [if_neg c4]
      by_cases c3 : m * 5 + 3 = x
      · rw [if_pos c3, if_pos (by omega), show x / 5 = m by omega, show x % 5 = 3 by omega, if_pos (by omega), h3]
      · rw [if_neg c3]
        by_cases c2 : m * 5 + 2 = x
        · rw [if_pos c2, if_pos (by omega), show x / 5 = m by omega, show x % 5 = 2 by omega, if_pos (by omega), h2]
        · rw [if_neg c2]
          by_cases c1 : m * 5 + 1 = x
          · rw [if_pos c1, if_pos (by omega), show x / 5 = m by omega, show x % 5 = 1 by omega, if_pos (by omega), h1]
          · rw [if_neg c1]
            by_cases c0 : m * 5 = x
            · rw [if_pos c0, if_pos (by omega), show x / 5 = m by omega, show x % 5 = 0 by omega, if_pos (by omega), h0]
            · rw [if_neg c0]
              by_cases h3 : x / 5 < m
              · rw [if_pos h3, if_pos (by omega)]
              · rw [if_neg h3, if_neg (by omega)]
  · rw [List.getElem?_eq_none (by simp only [List.length_set, length_part]; omega), List.getElem?_eq_none (by rw [length_part]; omega)]
structure Within (L U : Nat) (w w' : World) : Prop where
  os : w'.os = w.os
  tape : w'.tape = w.tape
  output : w'.output = w.output
  size : w'.heap.size = w.heap.size
  block : ∀ b, b < L ∨ U ≤ b → w'.heap[b]? = w.heap[b]?
theorem Within.below {L U B : Nat} {w w' : World} (h : Within L U w w') (hB : B ≤ L) : Below B w w' := ⟨h.os, h.tape, h.output, by rw [h.size]; exact Nat.le_refl _, fun k hk => h.block k (.inl (by omega))⟩
theorem Within.same {L U L' U' : Nat} {w w' : World} (h : Within L U w w') (hs : U' ≤ L ∨ U ≤ L') : Same L' U' w w' := fun g h1 h2 => h.block g (by omega)
end Go.Proofs.Ytbodfaghedolbaa
namespace Go.Proofs.Ytbodfaghedolbaa
open Go.RowKit
def Own (w : World) (base : Nat) (u : Value) (xs : List Int) : Prop := w.ownsRow base 3 1 u xs.length (xs.map (Value.int .i64))
theorem Own.of {w : World} {base n : Nat} {u : Value} {xs : List Int} (h : w.ownsRow base 3 1 u n (xs.map (Value.int .i64))) : Own w base u xs := by
  have hn : n = xs.length := by have := h.1; simp at this; exact this.symm
  subst hn; exact h
theorem Own.nil (w : World) (base : Nat) : Own w base (.slice none 0 0) [] := World.ownsRow_nil _ _ _ _
theorem Own.ints {w : World} {base : Nat} {u : Value} {xs : List Int} (h : Own w base u xs) : Ints w base w.heap.size u xs := ints_of_own h
theorem Own.keep {w w' : World} {base : Nat} {u : Value} {xs : List Int} (h : Own w base u xs) (s : Same base w.heap.size w w') : Own w' base u xs := by
  refine ⟨h.1, h.2.imp id fun ⟨g, cap, cur, e, h1, h2, h3⟩ => ⟨g, cap, cur, e, h1, (s g h1 ?_).trans h2, h3⟩⟩
  exact (Array.getElem?_eq_some_iff.1 h2).1
end Go.Proofs.Ytbodfaghedolbaa
namespace Go.Proofs.Ytbodfaghedolbaa
open Go.RowKit Go.BigFrame
def OInts (w : World) (L U : Nat) (v : Value) (xs : List Int) : Prop := Blk w L U 3 v xs.length (xs.map (Value.int .i64))
theorem OInts.keep {w w' : World} {L U : Nat} {v : Value} {xs : List Int} (h : OInts w L U v xs) (s : Same L U w w') : OInts w' L U v xs := Blk.keep h s
theorem OInts.ints {w : World} {L U : Nat} {v : Value} {xs : List Int} (h : OInts w L U v xs) : Ints w L U v xs := by
  unfold OInts at h
  rw [← cellsOf_ints] at h
  obtain ⟨g, e, r⟩ := h.row
  exact ⟨_, _, e, r⟩
def mk (xs : List Int) (k : Int) (j : Nat) : List Int := (List.range xs.length).map fun i => if i < j then k + (i : Int) else nth xs i
theorem OInts.own {w : World} {L U : Nat} {v : Value} {xs : List Int} (h : OInts w L U v xs) : Own w L v xs := by
  obtain ⟨g, a, rfl, h1, h2, h3, h4, h5⟩ := h
  have hz : a.size = xs.length := by have := congrArg List.length h5; simpa using this
  exact ⟨by simp, .inr ⟨g, xs.length, a, rfl, h1, h4, Nat.le_refl _, h3, by rw [hz, Nat.mul_one], by rw [Nat.mul_one, h5, List.take_of_length_le (by simp)]⟩⟩
end Go.Proofs.Ytbodfaghedolbaa
namespace Go.Proofs.Ytbodfaghedolbaa
open Go.RowKit Go.BigFrame
def ins (n : Int) : List Int → List Int
  | [] => [n]
  | x :: xs => if n < x then n :: x :: xs else if n = x then x :: xs else x :: ins n xs
theorem ins_eq {n : Int} {ys : List Int} (h : ∀ x ∈ ys, x < n) : ins n (ys ++ [n]) = ys ++ [n] := by
  induction ys with
  | nil => simp [ins]
  | cons y ys ih =>
    have hy := h y (by simp)
    simp only [List.cons_append, ins]
    rw [if_neg (by omega), if_neg (by omega), ih fun x hx => h x (by simp [hx])]
theorem ins_gt {n m : Int} {ys : List Int} (h : ∀ x ∈ ys, x < n) (hm : n < m) : ins n (ys ++ [m]) = ys ++ [n] ++ [m] := by
  induction ys with
  | nil => simp [ins, hm]
  | cons y ys ih =>
    have hy := h y (by simp)
    simp only [List.cons_append, ins]
    rw [if_neg (by omega), if_neg (by omega), ih fun x hx => h x (by simp [hx])]
theorem ins_length (n : Int) (ys : List Int) : (ins n ys).length ≤ ys.length + 1 := by
  induction ys with
  | nil => simp [ins]
  | cons y ys ih =>
    simp only [ins]
    split
    · simp
    · split
      · simp
      · simp only [List.length_cons]; omega
def InsAt (xs : List Int) (n : Int) (k : Nat) (b : Bool) (ys : List Int) : Prop :=
  (b = false ∧ (∀ x ∈ xs.take k, x < n) ∧ ys = xs.take k) ∨ (b = true ∧ (∃ x ∈ xs.take k, n ≤ x) ∧ ys = ins n (xs.take k))
theorem InsAt.zero (xs : List Int) (n : Int) : InsAt xs n 0 false [] := .inl ⟨rfl, by simp, by simp⟩
theorem take_more {xs : List Int} {k : Nat} (hk : k < xs.length) : xs.take (k + 1) = xs.take k ++ [xs[k]] := List.take_succ_eq_append_getElem hk
theorem InsAt.same {xs : List Int} {n : Int} {k : Nat} {ys : List Int} (h : InsAt xs n k false ys) (hk : k < xs.length) (hm : xs[k] = n) : InsAt xs n (k + 1) true (ys ++ [n]) := by
  rcases h with ⟨_, h1, rfl⟩ | ⟨h, _⟩
  · refine .inr ⟨rfl, ⟨n, by rw [take_more hk, hm]; exact List.mem_append.2 (.inr (by simp)), Int.le_refl _⟩, ?_⟩
    rw [take_more hk, hm, ins_eq h1]
  · cases h
theorem InsAt.more {xs : List Int} {n : Int} {k : Nat} {ys : List Int} (h : InsAt xs n k false ys) (hk : k < xs.length) (hm : n < xs[k]) : InsAt xs n (k + 1) true (ys ++ [n] ++ [xs[k]]) := by
  rcases h with ⟨_, h1, rfl⟩ | ⟨h, _⟩
  · refine .inr ⟨rfl, ⟨xs[k], by rw [take_more hk]; exact List.mem_append.2 (.inr (by simp)), by omega⟩, ?_⟩
    rw [take_more hk, ins_gt h1 hm]
  · cases h
theorem InsAt.last {xs : List Int} {n : Int} {k : Nat} {ys : List Int} (h : InsAt xs n k true ys) (hk : ¬ k < xs.length) : ys = ins n xs := by
  rcases h with ⟨h, _⟩ | ⟨_, _, rfl⟩
  · cases h
  · rw [List.take_of_length_le (by omega)]
theorem InsAt.length {xs : List Int} {n : Int} {k : Nat} {b : Bool} {ys : List Int} (h : InsAt xs n k b ys) : ys.length ≤ xs.length + 1 := by
  rcases h with ⟨_, _, rfl⟩ | ⟨_, _, rfl⟩
  · rw [List.length_take]; omega
  · have := ins_length n (xs.take k)
    rw [List.length_take] at this
    omega
end Go.Proofs.Ytbodfaghedolbaa
namespace Go.Proofs.Ytbodfaghedolbaa
open Go.RowKit Go.BigFrame
end Go.Proofs.Ytbodfaghedolbaa
namespace Go.Proofs.Ytbodfaghedolbaa
open Go.RowKit Go.BigFrame
def Cs (a a' : Array Value) : Prop := a'.size = a.size ∧ (∀ (x : Nat) s n c, a[x]? = some (Value.slice s n c) → a'[x]? = some (Value.slice s n c)) ∧ ∀ (x : Nat) n, a[x]? = some (Value.int .i64 n) → ∃ m, a'[x]? = some (Value.int .i64 m)
theorem Cs.refl (a : Array Value) : Cs a a := ⟨rfl, fun _ _ _ _ h => h, fun _ n h => ⟨n, h⟩⟩
theorem Cs.trans {a b c : Array Value} (h : Cs a b) (k : Cs b c) : Cs a c := by
  refine ⟨k.1.trans h.1, fun x s n c e => k.2.1 x s n c (h.2.1 x s n c e), fun x n e => ?_⟩
  obtain ⟨m, e'⟩ := h.2.2 x n e
  exact k.2.2 x m e'
theorem Cs.set {a : Array Value} {o : Nat} {n m : Int} (h : a[o]? = some (.int .i64 n)) : Cs a (a.setIfInBounds o (.int .i64 m)) := by
  refine ⟨by simp, fun x s n' c e => ?_, fun x n' e => ?_⟩
  · by_cases hx : o = x
    · subst hx; rw [h] at e; cases e
    · rw [Array.getElem?_setIfInBounds_ne hx]; exact e
  · by_cases hx : o = x
    · subst hx
      have : o < a.size := (Array.getElem?_eq_some_iff.1 h).1
      exact ⟨m, by rw [Array.getElem?_setIfInBounds_self, if_pos this]⟩
    · exact ⟨n', by rw [Array.getElem?_setIfInBounds_ne hx]; exact e⟩
structure TurnV (L U : Nat) (w w' : World) : Prop where
  os : w'.os = w.os
  tape : w'.tape = w.tape
  output : w'.output = w.output
  size : w'.heap.size = w.heap.size
  block : ∀ b, w'.heap[b]? = w.heap[b]? ∨ (L ≤ b ∧ b < U ∧ ∃ (T : TypeId) (a a' : Array Value), w.heap[b]? = some (.cells a T (0, 0)) ∧ w'.heap[b]? = some (.cells a' T (0, 0)) ∧ Cs a a')
theorem TurnV.refl (L U : Nat) (w : World) : TurnV L U w w := ⟨rfl, rfl, rfl, rfl, fun _ => .inl rfl⟩
theorem TurnV.trans {L U : Nat} {a b c : World} (h : TurnV L U a b) (k : TurnV L U b c) : TurnV L U a c := by
  refine ⟨k.os.trans h.os, k.tape.trans h.tape, k.output.trans h.output, k.size.trans h.size, fun x => ?_⟩
  rcases h.block x with e1 | ⟨l1, l2, T, p, q, e1, e2, s1⟩
  · rcases k.block x with e3 | ⟨l1, l2, T, p, q, e3, e4, s1⟩
    · exact .inl (e3.trans e1)
    · exact .inr ⟨l1, l2, T, p, q, e1.symm.trans e3, e4, s1⟩
  · rcases k.block x with e3 | ⟨_, _, T', p', q', e3, e4, s3⟩
    · exact .inr ⟨l1, l2, T, p, q, e1, e3.trans e2, s1⟩
    · rw [e2] at e3
      injection e3 with e3
      injection e3 with e3 e5 _
      subst e3 e5
      exact .inr ⟨l1, l2, T, p, q', e1, e4, s1.trans s3⟩
theorem TurnV.row {L U g : Nat} {w w' : World} {a : Array Value} {T : TypeId} (t : TurnV L U w w') (h : w.heap[g]? = some (.cells a T (0, 0))) : ∃ a', w'.heap[g]? = some (.cells a' T (0, 0)) ∧ Cs a a' := by
  rcases t.block g with e | ⟨_, _, T', p, q, e1, e2, s⟩
  · exact ⟨a, e.trans h, Cs.refl a⟩
  · rw [h] at e1
    injection e1 with e1
    injection e1 with e1 e5 _
    subst e1 e5
    exact ⟨q, e2, s⟩
theorem TurnV.set {w : World} {L U g o : Nat} {a : Array Value} {T : TypeId} {n m : Int} (h1 : L ≤ g) (h2 : g < U) (h : w.heap[g]? = some (.cells a T (0, 0))) (ho : a[o]? = some (.int .i64 n)) : TurnV L U w (w.setCell ⟨g, o, none⟩ (.int .i64 m)) := by
  refine ⟨rfl, rfl, rfl, by simp, fun b => ?_⟩
  by_cases e : b = g
  · subst e
    exact .inr ⟨h1, h2, T, a, _, h, heap_setCell_same w b o a _ _ h, Cs.set ho⟩
  · exact .inl (heap_setCell_other _ _ _ _ e)
end Go.Proofs.Ytbodfaghedolbaa
namespace Go.Proofs.Ytbodfaghedolbaa
open Go Go.RowKit
section
variable {P : Program} {p q : Stb} {w w' : World}
theorem evo_raise {n b : Nat} (h0 : p b = 0) : Evo (· = b) p w (raP p b n) w :=
  ⟨rfl, rfl, rfl, Nat.le_refl _, fun _ _ _ => rfl, fun x _ => (by
    rw [raP_f]
    split
    · rename_i e; subst e; omega
    · exact Nat.le_refl _), fun x _ hx => raP_ne hx, fun _ _ _ _ => rfl, fun _ _ => rfl, fun _ h1 h2 => absurd h1 (Nat.not_le.2 h2)⟩
end
end Go.Proofs.Ytbodfaghedolbaa

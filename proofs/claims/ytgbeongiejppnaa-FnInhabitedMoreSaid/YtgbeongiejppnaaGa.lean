/- Lib Op A0 Nm Bk Ow Oi In Im Tv: merged texts. -/
import Derived.WalkKit
import Derived.Below
import Derived.Laws.OwnMore
import Derived.Lib.Hide
import Derived.Deep.Draws
import Derived.Laws.AppendOwn
import Derived.Laws.AppendOwnNone
import Derived.Deep.Slices
import Derived.ChangeSame
import Derived.OpenShut
import Derived.Test.YtgbeongiejppnaaProg
import Derived.Deep.RegionWith
import Derived.Deep.RegionHeld3
import Derived.RegionTactic
import Derived.ChangeAlike
import Derived.Deep.QuietTactic
import Derived.BigQuiet
import Derived.Outline
import Derived.LoopTactic
import Derived.OwnWalk
import Derived.Laws.MakeOwn
import Derived.Maps.AppendAt
/- Plain words on memory for the laws of chapter 1: what a slice of ints, of constructors, of declarations reads as. Nothing here speaks of a program. -/
namespace Go.Proofs.Ytgbeongiejppnaa
open Go.RowKit

/-- The element at a place; 0 beyond the end. -/
def nth (xs : List Int) (i : Nat) : Int := xs.getD i 0
def nthL (xs : List (List Int)) (i : Nat) : List Int := xs.getD i []

theorem nth_of {xs : List Int} {i : Nat} (h : i < xs.length) : nth xs i = xs[i] := by simp [nth, h]
theorem nthL_of {xs : List (List Int)} {i : Nat} (h : i < xs.length) : nthL xs i = xs[i] := by simp [nthL, h]

/-- A declaration as data. -/
structure Dec where
  frm : Int
  to : Int
  cons : List (List Int)

def noDec : Dec := ⟨0, 0, []⟩
def nthD (ds : List Dec) (i : Nat) : Dec := ds.getD i noDec
theorem nthD_of {xs : List Dec} {i : Nat} (h : i < xs.length) : nthD xs i = xs[i] := by simp [nthD, h]

/-- The blocks from L to U hold what they held. -/
def Same (L U : Nat) (w w' : World) : Prop := ∀ g, L ≤ g → g < U → w'.heap[g]? = w.heap[g]?

theorem Same.refl (L U : Nat) (w : World) : Same L U w w := fun _ _ _ => rfl
theorem Same.trans {L U : Nat} {a b c : World} (h : Same L U a b) (k : Same L U b c) : Same L U a c := fun g h1 h2 => (k g h1 h2).trans (h g h1 h2)
theorem Same.of_below {L U B : Nat} {w w' : World} (h : Below B w w') (hB : U ≤ B) : Same L U w w' := fun g _ h2 => h.block g (by omega)
theorem Same.of_grown {L U : Nat} {w w' : World} {row : Option Nat} (h : w.grownBy w' row) (hU : U ≤ w.heap.size) (hr : ∀ k, row = some k → k < L ∨ U ≤ k) : Same L U w w' :=
  fun g h1 h2 => h.block g (by omega) (fun e => by have := hr g e.symm; omega)
theorem Same.cell {L U : Nat} {w w' : World} (h : Same L U w w') {b o : Nat} {s : Option Nat} (h1 : L ≤ b) (h2 : b < U) : w'.cell? ⟨b, o, s⟩ = w.cell? ⟨b, o, s⟩ := World.cell?_of_block (w := w) (h b h1 h2)

/-- n elements of k cells each lie behind A, in a block from L to U. -/
structure Row (w : World) (L U k : Nat) (A : Option Addr) (n c : Nat) (V : Nat → Nat → Value) : Prop where
  le : n ≤ c
  cap : c ≤ maxLen
  nil : A = none → n = 0 ∧ c = 0
  place : 0 < n → ∃ b o, A = some ⟨b, o, none⟩ ∧ L ≤ b ∧ b < U ∧ ∀ i j, i < n → j < k → w.cell? ⟨b, o + i * k + j, none⟩ = some (V i j)

theorem Row.keep {w w' : World} {L U k : Nat} {A : Option Addr} {n c : Nat} {V : Nat → Nat → Value} (h : Row w L U k A n c V) (s : Same L U w w') : Row w' L U k A n c V :=
  ⟨h.le, h.cap, h.nil, fun hn => by
    obtain ⟨b, o, e, h1, h2, hc⟩ := h.place hn
    exact ⟨b, o, e, h1, h2, fun i j hi hj => (s.cell h1 h2).trans (hc i j hi hj)⟩⟩
theorem Row.wide {w : World} {L U L' U' k : Nat} {A : Option Addr} {n c : Nat} {V : Nat → Nat → Value} (h : Row w L U k A n c V) (hL : L' ≤ L) (hU : U ≤ U') : Row w L' U' k A n c V :=
  ⟨h.le, h.cap, h.nil, fun hn => by
    obtain ⟨b, o, e, h1, h2, hc⟩ := h.place hn
    exact ⟨b, o, e, by omega, by omega, hc⟩⟩
/-- The first m elements. -/
theorem Row.short {w : World} {L U k : Nat} {A : Option Addr} {n c m : Nat} {V : Nat → Nat → Value} (h : Row w L U k A n c V) (hm : m ≤ n) : Row w L U k A m c V :=
  ⟨Nat.le_trans hm h.le, h.cap, fun e => ⟨by have := (h.nil e).1; omega, (h.nil e).2⟩, fun hn => by
    obtain ⟨b, o, e, h1, h2, hc⟩ := h.place (by omega)
    exact ⟨b, o, e, h1, h2, fun i j hi hj => hc i j (by omega) hj⟩⟩

/-- A slice of ints. -/
def Ints (w : World) (L U : Nat) (v : Value) (xs : List Int) : Prop := ∃ A c, v = .slice A xs.length c ∧ Row w L U 1 A xs.length c (fun i _ => .int .i64 (nth xs i))
/-- A slice of constructors: each cell is a slice of ints. -/
def Cons (w : World) (L U : Nat) (v : Value) (cs : List (List Int)) : Prop :=
  ∃ (A : Option Addr) (c : Nat) (V : Nat → Value), v = .slice A cs.length c ∧ Row w L U 1 A cs.length c (fun i _ => V i) ∧ ∀ i, i < cs.length → Ints w L U (V i) (nthL cs i)
/-- The three cells of a declaration. -/
def decCell (d : Dec) (v : Value) (j : Nat) : Value := if j = 0 then .int .i64 d.frm else if j = 1 then .int .i64 d.to else v
/-- A slice of declarations. -/
def Decs (w : World) (L U : Nat) (v : Value) (ds : List Dec) : Prop :=
  ∃ (A : Option Addr) (c : Nat) (V : Nat → Value), v = .slice A ds.length c ∧ Row w L U 3 A ds.length c (fun i j => decCell (nthD ds i) (V i) j) ∧ ∀ i, i < ds.length → Cons w L U (V i) (nthD ds i).cons

theorem Ints.keep {w w' : World} {L U : Nat} {v : Value} {xs : List Int} (h : Ints w L U v xs) (s : Same L U w w') : Ints w' L U v xs := by
  obtain ⟨A, c, e, r⟩ := h
  exact ⟨A, c, e, r.keep s⟩
theorem Ints.wide {w : World} {L U L' U' : Nat} {v : Value} {xs : List Int} (h : Ints w L U v xs) (hL : L' ≤ L) (hU : U ≤ U') : Ints w L' U' v xs := by
  obtain ⟨A, c, e, r⟩ := h
  exact ⟨A, c, e, r.wide hL hU⟩
theorem Cons.keep {w w' : World} {L U : Nat} {v : Value} {cs : List (List Int)} (h : Cons w L U v cs) (s : Same L U w w') : Cons w' L U v cs := by
  obtain ⟨A, c, V, e, r, hi⟩ := h
  exact ⟨A, c, V, e, r.keep s, fun i hl => (hi i hl).keep s⟩
theorem Cons.wide {w : World} {L U L' U' : Nat} {v : Value} {cs : List (List Int)} (h : Cons w L U v cs) (hL : L' ≤ L) (hU : U ≤ U') : Cons w L' U' v cs := by
  obtain ⟨A, c, V, e, r, hi⟩ := h
  exact ⟨A, c, V, e, r.wide hL hU, fun i hl => (hi i hl).wide hL hU⟩
theorem Decs.keep {w w' : World} {L U : Nat} {v : Value} {ds : List Dec} (h : Decs w L U v ds) (s : Same L U w w') : Decs w' L U v ds := by
  obtain ⟨A, c, V, e, r, hi⟩ := h
  exact ⟨A, c, V, e, r.keep s, fun i hl => (hi i hl).keep s⟩
theorem Decs.wide {w : World} {L U L' U' : Nat} {v : Value} {ds : List Dec} (h : Decs w L U v ds) (hL : L' ≤ L) (hU : U ≤ U') : Decs w L' U' v ds := by
  obtain ⟨A, c, V, e, r, hi⟩ := h
  exact ⟨A, c, V, e, r.wide hL hU, fun i hl => (hi i hl).wide hL hU⟩

/-- What a walk is told of a slice: its form; then, element by element, its cells. -/
theorem Ints.open_ {w : World} {L U : Nat} {v : Value} {xs : List Int} (h : Ints w L U v xs) : ∃ A c, v = .slice A xs.length c ∧ xs.length ≤ c ∧ c ≤ 9223372036854775807 := by
  obtain ⟨A, c, e, r⟩ := h
  exact ⟨A, c, e, r.le, r.cap⟩
theorem Ints.at_ {w : World} {L U : Nat} {A : Option Addr} {n c k : Nat} {xs : List Int} (h : Ints w L U (.slice A n c) xs) (hk : k < xs.length) :
    ∃ b o, A = some ⟨b, o, none⟩ ∧ L ≤ b ∧ b < U ∧ w.cell? ⟨b, o + k, none⟩ = some (.int .i64 xs[k]) := by
  obtain ⟨A, c, e, r⟩ := h
  injection e with e1 e2 e3
  subst e1
  obtain ⟨b, o, e, h1, h2, hc⟩ := r.place (by omega)
  refine ⟨b, o, e, h1, h2, ?_⟩
  have := hc k 0 hk (by omega)
  rwa [Nat.mul_one, Nat.add_zero, nth_of hk] at this
theorem Cons.open_ {w : World} {L U : Nat} {v : Value} {cs : List (List Int)} (h : Cons w L U v cs) : ∃ A c, v = .slice A cs.length c ∧ cs.length ≤ c ∧ c ≤ 9223372036854775807 := by
  obtain ⟨A, c, V, e, r, hi⟩ := h
  exact ⟨A, c, e, r.le, r.cap⟩
theorem Cons.at_ {w : World} {L U : Nat} {A : Option Addr} {n c k : Nat} {cs : List (List Int)} (h : Cons w L U (.slice A n c) cs) (hk : k < cs.length) :
    ∃ b o A' c', A = some ⟨b, o, none⟩ ∧ L ≤ b ∧ b < U ∧ w.cell? ⟨b, o + k, none⟩ = some (.slice A' (cs[k]).length c') ∧ Ints w L U (.slice A' (cs[k]).length c') cs[k] := by
  obtain ⟨A, c, V, e, r, hi⟩ := h
  injection e with e1 e2 e3
  subst e1
  obtain ⟨b, o, e, h1, h2, hc⟩ := r.place (by omega)
  have hu := hi k hk
  rw [nthL_of hk] at hu
  obtain ⟨A', c', e', _⟩ := hu.open_
  have hc' := hc k 0 hk (by omega)
  rw [Nat.mul_one, Nat.add_zero] at hc'
  rw [e'] at hc' hu
  exact ⟨b, o, A', c', e, h1, h2, hc', hu⟩
theorem Decs.open_ {w : World} {L U : Nat} {v : Value} {ds : List Dec} (h : Decs w L U v ds) : ∃ A c, v = .slice A ds.length c ∧ ds.length ≤ c ∧ c ≤ 9223372036854775807 := by
  obtain ⟨A, c, V, e, r, hi⟩ := h
  exact ⟨A, c, e, r.le, r.cap⟩
theorem Decs.at_ {w : World} {L U : Nat} {A : Option Addr} {n c k : Nat} {ds : List Dec} (h : Decs w L U (.slice A n c) ds) (hk : k < ds.length) :
    ∃ b o A' c', A = some ⟨b, o, none⟩ ∧ L ≤ b ∧ b < U ∧ w.cell? ⟨b, o + k * 3, none⟩ = some (.int .i64 (nthD ds k).frm) ∧ w.cell? ⟨b, o + k * 3 + 1, none⟩ = some (.int .i64 (nthD ds k).to) ∧
      w.cell? ⟨b, o + k * 3 + 2, none⟩ = some (.slice A' (nthD ds k).cons.length c') ∧ Cons w L U (.slice A' (nthD ds k).cons.length c') (nthD ds k).cons := by
  obtain ⟨A, c, V, e, r, hi⟩ := h
  injection e with e1 e2 e3
  subst e1
  obtain ⟨b, o, e, h1, h2, hc⟩ := r.place (by omega)
  have hu := hi k hk
  obtain ⟨A', c', e', _⟩ := hu.open_
  have h2' : w.cell? ⟨b, o + k * 3 + 2, none⟩ = some (V k) := hc k 2 hk (by omega)
  rw [e'] at h2' hu
  exact ⟨b, o, A', c', e, h1, h2, hc k 0 hk (by omega), hc k 1 hk (by omega), h2', hu⟩

/-- The end of a walk: nothing below has turned. -/
theorem ret_bool {a b : Bool} (h : a = b) : Ending.returned (.bool a) = .returned (.bool b) := by rw [h]
theorem ret_int {a b : Int} (h : a = b) : Ending.returned (.int .i64 a) = .returned (.int .i64 b) := by rw [h]
/-! Rows that the call itself owns, and appends onto them -/
def cellsOf (k m : Nat) (V : Nat → Nat → Value) : List Value := (List.range (m * k)).map fun x => V (x / k) (x % k)
theorem length_cellsOf (k m : Nat) (V : Nat → Nat → Value) : (cellsOf k m V).length = m * k := by simp [cellsOf]
theorem cellsOf_at {k m i j : Nat} (V : Nat → Nat → Value) (hi : i < m) (hj : j < k) : (cellsOf k m V)[i * k + j]? = some (V i j) := by
  have hlt : i * k + j < m * k := by
    have : (i + 1) * k ≤ m * k := Nat.mul_le_mul_right k hi
    rw [Nat.add_mul] at this; omega
  have e1 : (i * k + j) / k = i := by
    rw [Nat.mul_comm, Nat.mul_add_div (by omega), Nat.div_eq_of_lt hj, Nat.add_zero]
  have e2 : (i * k + j) % k = j := by
    rw [Nat.mul_comm, Nat.mul_add_mod, Nat.mod_eq_of_lt hj]
  unfold cellsOf
  rw [List.getElem?_map, List.getElem?_range hlt]
  simp [e1, e2]
theorem cellsOf_parts {k m x : Nat} (V : Nat → Nat → Value) {u : Value} (h : (cellsOf k m V)[x]? = some u) : x / k < m ∧ x % k < k ∧ V (x / k) (x % k) = u := by
  have hx : x < m * k := by
    have := (List.getElem?_eq_some_iff.1 h).1
    rwa [length_cellsOf] at this
  have hk : 0 < k := by rcases Nat.eq_zero_or_pos k with e | e
                        · subst e; omega
                        · exact e
  unfold cellsOf at h
  rw [List.getElem?_map, List.getElem?_range hx] at h
  exact ⟨Nat.div_lt_of_lt_mul (by rwa [Nat.mul_comm]), Nat.mod_lt _ hk, by simpa using h⟩
theorem cellsOf_ints (xs : List Int) : cellsOf 1 xs.length (fun i _ => .int .i64 (nth xs i)) = xs.map (Value.int .i64) := by
  apply List.ext_getElem?
  intro j
  by_cases hj : j < xs.length
  · have := cellsOf_at (k := 1) (m := xs.length) (i := j) (j := 0) (fun i _ => Value.int .i64 (nth xs i)) hj (by omega)
    rw [Nat.mul_one, Nat.add_zero] at this
    rw [this, nth_of hj]; simp [hj]
  · rw [List.getElem?_eq_none (by rw [length_cellsOf]; omega), List.getElem?_eq_none (by simp; omega)]

theorem cells_push {k n : Nat} (V W : Nat → Nat → Value) (news : List Value) (hk : 0 < k) (hn : news.length = k) (h1 : ∀ i j, i < n → j < k → W i j = V i j) (h2 : ∀ j, j < k → news[j]? = some (W n j)) : cellsOf k n V ++ news = cellsOf k (n + 1) W := by
  apply List.ext_getElem?
  intro x
  by_cases hx : x < n * k
  · have e : x / k * k + x % k = x := by rw [Nat.mul_comm, Nat.div_add_mod]
    have l1 : x / k < n := Nat.div_lt_of_lt_mul (by rwa [Nat.mul_comm] at hx)
    have l2 : x % k < k := Nat.mod_lt _ hk
    rw [List.getElem?_append_left (by rw [length_cellsOf]; exact hx), ← e, cellsOf_at V l1 l2, cellsOf_at W (Nat.lt_succ_of_lt l1) l2, h1 _ _ l1 l2]
  · rw [List.getElem?_append_right (by rw [length_cellsOf]; omega), length_cellsOf]
    by_cases hy : x - n * k < k
    · rw [h2 _ hy]
      have := cellsOf_at (k := k) (m := n + 1) (i := n) (j := x - n * k) W (by omega) hy
      rw [show n * k + (x - n * k) = x by omega] at this
      rw [this]
    · rw [List.getElem?_eq_none (by omega), List.getElem?_eq_none (by rw [length_cellsOf, Nat.add_mul]; omega)]
/-- What the call owns reads as a row. -/
theorem row_of_own {w : World} {base k n : Nat} {e : TypeId} {v : Value} {V : Nat → Nat → Value} (h : w.ownsRow base e k v n (cellsOf k n V)) : ∃ A c, v = .slice A n c ∧ Row w base w.heap.size k A n c V := by
  rcases h.2 with ⟨rfl, rfl⟩ | ⟨g, cap, cur, rfl, hb, hg, hnc, hcm, hcs, htake⟩
  · exact ⟨none, 0, rfl, Nat.le_refl _, by simp [maxLen], fun _ => ⟨rfl, rfl⟩, fun h => absurd h (by omega)⟩
  · refine ⟨_, cap, rfl, hnc, hcm, (fun e => by cases e), fun hn => ⟨g, 0, rfl, hb, ?_, fun i j hi hj => ?_⟩⟩
    · exact (Array.getElem?_eq_some_iff.1 hg).1
    · have hlt : i * k + j < n * k := by
        have : (i + 1) * k ≤ n * k := Nat.mul_le_mul_right k hi
        rw [Nat.add_mul] at this; omega
      rw [Nat.zero_add, h.cellAt (i * k + j) hlt, cellsOf_at V hi hj]
theorem ints_of_own {w : World} {base n : Nat} {e : TypeId} {v : Value} {xs : List Int} (h : w.ownsRow base e 1 v n (xs.map (Value.int .i64))) : Ints w base w.heap.size v xs := by
  have hn : n = xs.length := by have := h.1; simp at this; exact this.symm
  subst hn
  rw [← cellsOf_ints] at h
  exact row_of_own h
theorem Below.own {w w' wr : World} {B base n k : Nat} {e : TypeId} {v : Value} {xs : List Value} (hB : Below B w wr) (hown : wr.ownsRow base e k v n xs) (hg : wr.grownBy w' v.ownBlock) (h1 : B ≤ base) (h2 : B ≤ wr.heap.size) : Below B w w' :=
  hB.grown hg h2 fun g e => by have := (hown.lt g e).1; omega

/-- append of a row that lies anywhere, nil or not, onto a row of the call's own. -/
theorem wpList_append_row {P : Program} {w : World} {ops : Array Oper} {rest : List Oper} {o : Oper} {a : Act} {Q : Exit → Act → World → Prop} (hgd : o.guard = none) (s x : Operand) (t : TypeId)
    (ho : o.op = .call { callee := .builtin .append, args := #[s, x], argTypes := #[t, t] })
    (base : Nat) (e : TypeId) (i : TypeInfo) (z : Value) (k bytes : Nat) (ht : P.underlying t = some (.slice e)) (hi : P.info? e = some i) (hz : i.zero = some z)
    (hsize : i.size = k) (hby : i.bytes = bytes) (hzs : z.cells.size = k) (hsz : 0 < k)
    (v : Value) (n : Nat) (xs : List Value) (hs : a.eval s = v) (hown : w.ownsRow base e k v n xs)
    (L U : Nat) (A : Option Addr) (m c : Nat) (V : Nat → Nat → Value) (hx : a.eval x = .slice A m c) (hr : Row w L U k A m c V) (h1 : ∀ i j, i < m → j < k → (V i j).oneCell' = true)
    (h63 : n + m ≤ maxLen) (hbytes : (n + m) * bytes ≤ 140737488355328) (hbase : base ≤ w.heap.size)
    (h : ∀ v' w', w'.ownsRow base e k v' (n + m) (xs ++ cellsOf k m V) → w.grownBy w' v.ownBlock → wpList P ops Q rest (a.put o.dst v') w') : wpList P ops Q (o :: rest) a w := by
  rcases A with _ | ad
  · obtain ⟨rfl, rfl⟩ := hr.nil rfl
    refine wpList_append_own_none hgd s x t ho base e i k ht hi v n xs hs hown hx ?_
    refine h v w ?_ (World.grownBy.refl w _)
    have : cellsOf k 0 V = [] := List.eq_nil_of_length_eq_zero (by rw [length_cellsOf]; omega)
    rw [this, List.append_nil, Nat.add_zero]; exact hown
  · refine wpList_append_own w hgd s x t ho base e i z k bytes ht hi hz hsize hby hzs hsz v n xs hs hown ad m c (cellsOf k m V) hx (length_cellsOf k m V) ?_ ?_ h63 hbytes hbase (fun v' w' h2 h3 _ => h v' w' h2 h3)
    · intro j u hu
      obtain ⟨p1, p2, p3⟩ := cellsOf_parts V hu
      obtain ⟨b, o', e', _, _, hc⟩ := hr.place (Nat.lt_of_le_of_lt (Nat.zero_le _) p1)
      injection e' with e'
      subst e'
      have := hc (j / k) (j % k) p1 p2
      rw [p3, Nat.add_assoc, Nat.mul_comm, Nat.div_add_mod] at this
      unfold Addr.add
      by_cases hj : j = 0
      · subst hj; rw [if_pos rfl]; simpa using this
      · rw [if_neg hj]; exact this
    · intro u hu
      obtain ⟨j, hj⟩ := List.getElem?_of_mem hu
      obtain ⟨p1, p2, p3⟩ := cellsOf_parts V hj
      rw [← p3]; exact h1 _ _ p1 p2

/-! Searches over lists, by the number of rounds done -/
theorem all_take_succ {α : Type} (p : α → Bool) (xs : List α) (k : Nat) (h : k < xs.length) : (xs.take (k + 1)).all p = ((xs.take k).all p && p xs[k]) := by
  rw [List.take_succ_eq_append_getElem h, List.all_append]; simp
theorem all_step {α : Type} {p : α → Bool} {xs : List α} {k : Nat} (H : Hid ((xs.take k).all p = true)) (h : k < xs.length) (hp : p xs[k] = true) : Hid ((xs.take (k + 1)).all p = true) := by
  show _ = _; rw [all_take_succ p xs k h, H.out, hp]; rfl
theorem all_stop {α : Type} {p : α → Bool} {xs : List α} {k : Nat} (h : k < xs.length) (hp : p xs[k] = false) : xs.all p = false := by
  rw [List.all_eq_false]; exact ⟨xs[k], List.getElem_mem h, by simp [hp]⟩
theorem all_done {α : Type} {p : α → Bool} {xs : List α} {k : Nat} (H : Hid ((xs.take k).all p = true)) (h : ¬ k < xs.length) : xs.all p = true := by
  have := H.out; rwa [List.take_of_length_le (by omega)] at this
theorem any_take_succ {α : Type} (p : α → Bool) (xs : List α) (k : Nat) (h : k < xs.length) : (xs.take (k + 1)).any p = ((xs.take k).any p || p xs[k]) := by
  rw [List.take_succ_eq_append_getElem h, List.any_append]; simp
theorem any_step {α : Type} {p : α → Bool} {xs : List α} {k : Nat} (H : Hid ((xs.take k).any p = false)) (h : k < xs.length) (hp : p xs[k] = false) : Hid ((xs.take (k + 1)).any p = false) := by
  show _ = _; rw [any_take_succ p xs k h, H.out, hp]; rfl
theorem any_stop {α : Type} {p : α → Bool} {xs : List α} {k : Nat} (h : k < xs.length) (hp : p xs[k] = true) : xs.any p = true := by
  rw [List.any_eq_true]; exact ⟨xs[k], List.getElem_mem h, hp⟩
theorem any_done {α : Type} {p : α → Bool} {xs : List α} {k : Nat} (H : Hid ((xs.take k).any p = false)) (h : ¬ k < xs.length) : xs.any p = false := by
  have := H.out; rwa [List.take_of_length_le (by omega)] at this
theorem below_drewN {B : Nat} {a w : World} (h : Below B a w) (n : Nat) : Below B a (w.drewN n) := ⟨h.os, h.tape, h.output, h.size, h.block⟩
theorem not_true {b : Bool} (h : (!b) = true) : b = false := by simpa using h
theorem not_false {b : Bool} (h : (!b) = false) : b = true := by simpa using h
end Go.Proofs.Ytgbeongiejppnaa

/- What comes in as data, opened: slices of ints, of constructors, of declarations. Nothing here speaks of a program's code. -/
namespace Go.Proofs.Ytgbeongiejppnaa
open Go.RowKit Go.Deep Go.ChangeShapes
section
variable {H : Type} {enc : TypeId × Value → H} {P : Program} {w : World} {held : Bool}
theorem add_spot {b o i : Nat} : (⟨b, o, none⟩ : Addr).add i = ⟨b, o + i, none⟩ := by unfold Addr.add; split <;> simp_all
/-- A slice opened, its elements read with less fuel. -/
theorem open_slice_fuel {t e : TypeId} {fuel : Nat} {cs : List Value} {x : DataW H × List MemPlace} (ht : P.underlying t = some (.slice e)) (h : DataW.trod enc P w 0 (fun _ => true) held fuel t cs = some x) :
    (cs = [.slice none 0 0] ∧ x = (.nil, [])) ∨
    ∃ (a : Addr) (len cap n : Nat), fuel = n + 1 ∧ cs = [.slice (some a) len cap] ∧ len ≤ cap ∧ cap ≤ maxLen ∧ ∀ i, i < len → ∃ cs' y, w.cells? 0 (a.add (i * P.cellsOf e)) (P.cellsOf e) = some cs' ∧ DataW.trod enc P w 0 (fun _ => true) held n e cs' = some y := by
  rcases DataW.trod_slice ht h with h0 | ⟨a, len, cap, elems, rest, n, hf, rfl, _, hb, hl, hm, hlen, hel, _, _⟩
  · exact .inl h0
  · refine .inr ⟨a, len, cap, n, hf, rfl, hl, hm, fun i hi => ?_⟩
    have h1 := hel i hi
    rw [List.getElem?_eq_getElem (by omega), Option.bind_eq_some_iff] at h1
    obtain ⟨cs', h2, h3⟩ := h1
    exact ⟨cs', _, h2, h3⟩
/-- A family of groups of k cells behind an address reads as a row. -/
theorem row_open {a : Addr} {n c k : Nat} (hk : 0 < k) (hl : n ≤ c) (hm : c ≤ maxLen) {CS : Nat → List Value} (h : ∀ i, i < n → w.cells? 0 (a.add (i * k)) k = some (CS i)) :
    Row w 0 w.heap.size k (some a) n c (fun i j => (CS i).getD j undef) := by
  refine ⟨hl, hm, (fun e => by cases e), fun hn => ?_⟩
  obtain ⟨b, o, spot⟩ := a
  have h0 := (World.cells?_some (h 0 hn)).2.2 0 hk
  have hlen : ∀ i, i < n → (CS i).length = k := fun i hi => (World.cells?_some (h i hi)).2.1
  have hg0 : (CS 0)[0]? = some ((CS 0)[0]'(by rw [hlen 0 hn]; exact hk)) := List.getElem?_eq_getElem _
  have h00 : w.cell? ((⟨b, o, spot⟩ : Addr).add (0 * k + 0)) = some ((CS 0)[0]'(by rw [hlen 0 hn]; exact hk)) := by
    rw [← add_add]; rw [h0]; exact hg0
  have hspot : spot = none := by
    have := World.cell?_spot (show w.cell? ⟨b, o, spot⟩ = _ by simpa [Addr.add] using h00)
    simpa using this
  subst hspot
  refine ⟨b, o, rfl, Nat.zero_le _, World.block_lt_of_cell? w _ (show w.cell? ⟨b, o, none⟩ = _ by simpa [Addr.add] using h00), fun i j hi hj => ?_⟩
  have hij := (World.cells?_some (h i hi)).2.2 j hj
  rw [add_add, add_spot, ← Nat.add_assoc] at hij
  rw [hij, List.getElem?_eq_getElem (by rw [hlen i hi]; exact hj), List.getD_eq_getElem?_getD, List.getElem?_eq_getElem (by rw [hlen i hi]; exact hj), Option.getD_some]
theorem ints_open {t e : TypeId} {fuel : Nat} {v : Value} {x : DataW H × List MemPlace} (ht : P.underlying t = some (.slice e)) (he : P.underlying e = some (.int .i64)) (hc : P.cellsOf e = 1)
    (h : DataW.trod enc P w 0 (fun _ => true) held fuel t [v] = some x) : ∃ xs, Ints w 0 w.heap.size v xs := by
  rcases open_ints ht he hc h with ⟨e, _⟩ | ⟨a, l, c, zs, e, _, hl, hm, hz, _, hcell, _⟩
  · injection e with e _
    exact ⟨[], none, 0, e, Nat.le_refl _, by simp [maxLen], fun _ => ⟨rfl, rfl⟩, fun h => absurd h (by simp)⟩
  · injection e with e _
    simp only [if_true] at hz
    have hlen : (zs.take l).length = l := by rw [List.length_take]; omega
    refine ⟨zs.take l, some a, c, by rw [hlen]; exact e, ?_⟩
    rw [hlen]
    have r := row_open (w := w) (a := a) (n := l) (c := c) (k := 1) (by omega) hl hm (CS := fun i => [.int .i64 (zs.getD i 0)]) (fun i hi => by
      rw [Nat.mul_one]; exact cells?_one (Nat.zero_le _) (hcell i (by omega)))
    refine ⟨r.le, r.cap, r.nil, fun hn => ?_⟩
    obtain ⟨b, o, e, h1, h2, h3⟩ := r.place hn
    refine ⟨b, o, e, h1, h2, fun i j hi hj => ?_⟩
    obtain rfl : j = 0 := by omega
    rw [h3 i 0 hi hj]
    simp [nth, List.getD_eq_getElem?_getD, hi]
theorem cons_open {t e q r : TypeId} {f0 : Field} {fuel : Nat} {v : Value} {x : DataW H × List MemPlace} (ht : P.underlying t = some (.slice e)) (he : P.underlying e = some (.struct #[f0])) (hce : P.cellsOf e = 1)
    (hf0 : f0.offset = 0) (hf1 : f0.type = q) (hq : P.underlying q = some (.slice r)) (hcq : P.cellsOf q = 1) (hr : P.underlying r = some (.int .i64)) (hcr : P.cellsOf r = 1)
    (h : DataW.trod enc P w 0 (fun _ => true) held fuel t [v] = some x) : ∃ cs, Cons w 0 w.heap.size v cs := by
  rcases open_slice ht h with ⟨e, _⟩ | ⟨a, l, c, m, n, D, Pl, e, _, hl, hm, hmm, _, hx⟩
  · injection e with e _
    exact ⟨[], none, 0, fun _ => undef, e, ⟨Nat.le_refl _, by simp [maxLen], fun _ => ⟨rfl, rfl⟩, fun h => absurd h (by simp)⟩, fun i h => absurd h (by simp)⟩
  · injection e with e _
    simp only [if_true] at hmm
    subst hmm
    have each : ∀ i, i < m → ∃ y : List Value × List Int, w.cells? 0 (a.add (i * 1)) 1 = some y.1 ∧ Ints w 0 w.heap.size (y.1.getD 0 undef) y.2 := by
      intro i hi
      obtain ⟨cs, h1, h2⟩ := hx i hi
      rw [hce] at h1
      have hlen := (World.cells?_some h1).2.1
      obtain ⟨u, rfl⟩ : ∃ u, cs = [u] := by
        match cs, hlen with
        | [u], _ => exact ⟨u, rfl⟩
      obtain ⟨xs, n', _, _, _, _, hf⟩ := DataW.trod_struct he h2
      have h3 := hf 0 f0 rfl
      rw [hf0, hf1, hcq] at h3
      simp only [List.drop_zero, List.take_succ_cons, List.take_zero] at h3
      obtain ⟨y, hy⟩ : ∃ y, xs[0]? = some y := by
        rcases hxs : xs[0]? with _ | y
        · rename_i hxl
          rw [List.getElem?_eq_none_iff] at hxs
          simp at hxl
          omega
        · exact ⟨y, rfl⟩
      rw [hy] at h3
      obtain ⟨zs, hz⟩ := ints_open hq hr hcr h3
      exact ⟨([u], zs), h1, hz⟩
    obtain ⟨Y, hY⟩ := choose_lt each
    refine ⟨(List.range l).map fun i => (Y i).2, some a, m, fun i => (Y i).1.getD 0 undef, by simpa using e, ?_, fun i hi => ?_⟩
    · have r := row_open (w := w) (a := a) (n := l) (c := m) (k := 1) (by omega) hl hm (CS := fun i => (Y i).1) (fun i hi => (hY i (by omega)).1)
      rw [List.length_map, List.length_range]
      refine ⟨r.le, r.cap, r.nil, fun hn => ?_⟩
      obtain ⟨b, o, e, h1, h2, h3⟩ := r.place hn
      refine ⟨b, o, e, h1, h2, fun i j hi hj => ?_⟩
      obtain rfl : j = 0 := by omega
      exact h3 i 0 hi hj
    · rw [List.length_map, List.length_range] at hi
      have := (hY i (by omega)).2
      rwa [nthL_of (by simpa using hi), List.getElem_map, List.getElem_range]
theorem decs_open {t e ti tc ec q r : TypeId} {g0 g1 g2 f0 : Field} {fuel : Nat} {v : Value} {x : DataW H × List MemPlace} (ht : P.underlying t = some (.slice e)) (he : P.underlying e = some (.struct #[g0, g1, g2])) (hce : P.cellsOf e = 3)
    (hg0 : g0.offset = 0) (ht0 : g0.type = ti) (hg1 : g1.offset = 1) (ht1 : g1.type = ti) (hg2 : g2.offset = 2) (ht2 : g2.type = tc) (hti : P.underlying ti = some (.int .i64)) (hci : P.cellsOf ti = 1) (hct : P.cellsOf tc = 1)
    (htc : P.underlying tc = some (.slice ec)) (hec : P.underlying ec = some (.struct #[f0])) (hcec : P.cellsOf ec = 1)
    (hf0 : f0.offset = 0) (hf1 : f0.type = q) (hq : P.underlying q = some (.slice r)) (hcq : P.cellsOf q = 1) (hr : P.underlying r = some (.int .i64)) (hcr : P.cellsOf r = 1)
    (h : DataW.trod enc P w 0 (fun _ => true) held fuel t [v] = some x) : ∃ ds, Decs w 0 w.heap.size v ds := by
  rcases open_slice ht h with ⟨e, _⟩ | ⟨a, l, c, m, n, D, Pl, e, _, hl, hm, hmm, _, hx⟩
  · injection e with e _
    exact ⟨[], none, 0, fun _ => undef, e, ⟨Nat.le_refl _, by simp [maxLen], fun _ => ⟨rfl, rfl⟩, fun h => absurd h (by simp)⟩, fun i h => absurd h (by simp)⟩
  · injection e with e _
    simp only [if_true] at hmm
    subst hmm
    haveI : Inhabited Dec := ⟨noDec⟩
    have each : ∀ i, i < m → ∃ y : List Value × Dec, w.cells? 0 (a.add (i * 3)) 3 = some y.1 ∧ y.1.getD 0 undef = .int .i64 y.2.frm ∧ y.1.getD 1 undef = .int .i64 y.2.to ∧ Cons w 0 w.heap.size (y.1.getD 2 undef) y.2.cons := by
      intro i hi
      obtain ⟨cs, h1, h2⟩ := hx i hi
      rw [hce] at h1
      have hlen := (World.cells?_some h1).2.1
      obtain ⟨u0, u1, u2, rfl⟩ : ∃ u0 u1 u2, cs = [u0, u1, u2] := by
        match cs, hlen with
        | [u0, u1, u2], _ => exact ⟨u0, u1, u2, rfl⟩
      obtain ⟨xs, n', _, _, _, hxl, hf⟩ := DataW.trod_struct he h2
      match xs, hxl with
      | [y0, y1, y2], _ =>
        have h3 := hf 0 g0 rfl
        have h4 := hf 1 g1 rfl
        have h5 := hf 2 g2 rfl
        rw [hg0, ht0, hci] at h3
        rw [hg1, ht1, hci] at h4
        rw [hg2, ht2, hct] at h5
        simp only [List.drop_zero, List.drop_succ_cons, List.take_succ_cons, List.take_zero, List.getElem?_cons_zero, List.getElem?_cons_succ] at h3 h4 h5
        obtain ⟨k0, e0, _⟩ := DataW.trod_int hti h3
        obtain ⟨k1, e1, _⟩ := DataW.trod_int hti h4
        obtain ⟨cs, hcs⟩ := cons_open htc hec hcec hf0 hf1 hq hcq hr hcr h5
        injection e0 with e0 _
        injection e1 with e1 _
        exact ⟨([u0, u1, u2], ⟨k0, k1, cs⟩), h1, e0, e1, hcs⟩
    obtain ⟨Y, hY⟩ := choose_lt each
    refine ⟨(List.range l).map fun i => (Y i).2, some a, m, fun i => (Y i).1.getD 2 undef, by simpa using e, ?_, fun i hi => ?_⟩
    · have r := row_open (w := w) (a := a) (n := l) (c := m) (k := 3) (by omega) hl hm (CS := fun i => (Y i).1) (fun i hi => (hY i (by omega)).1)
      rw [List.length_map, List.length_range]
      refine ⟨r.le, r.cap, r.nil, fun hn => ?_⟩
      obtain ⟨b, o, e, h1, h2, h3⟩ := r.place hn
      refine ⟨b, o, e, h1, h2, fun i j hi hj => ?_⟩
      rw [h3 i j hi hj, nthD_of (by simpa using hi), List.getElem_map, List.getElem_range]
      obtain ⟨_, c0, c1, _⟩ := hY i (by omega)
      rcases (by omega : j = 0 ∨ j = 1 ∨ j = 2) with rfl | rfl | rfl
      · exact congrArg some c0
      · exact congrArg some c1
      · rfl
    · rw [List.length_map, List.length_range] at hi
      have := (hY i (by omega)).2.2.2
      rwa [nthD_of (by simpa using hi), List.getElem_map, List.getElem_range]
end
end Go.Proofs.Ytgbeongiejppnaa

/- What every text of this seat imports: the walks' tactics, and small words on draws. -/
namespace Go.Proofs.Ytgbeongiejppnaa
open Go.RowKit

theorem quiet_eq {P : Program} {f : FuncId} {args : Array Value} {w : World} {n : Nat} {v : Value}
    (h : Calls P f args (w.drewN n) fun e w' => e = .returned v ∧ w.drewN n = w') : Calls P f args (w.drewN n) fun e w'' => e = .returned v ∧ ∃ m, w'' = w.drewN m :=
  h.mono fun _ _ ⟨he, hm⟩ => ⟨he, n, hm.symm⟩
theorem drewN_drew (w : World) : w.drew = w.drewN 1 := rfl
theorem same_drewN (L U : Nat) (w : World) (n : Nat) : Same L U w (w.drewN n) := fun _ _ _ => rfl
theorem same_drew (L U : Nat) (w : World) : Same L U w w.drew := fun _ _ _ => rfl
end Go.Proofs.Ytgbeongiejppnaa

/- A world by its name; the block that was laid last. -/
namespace Go.Proofs.Ytgbeongiejppnaa
open Go.RowKit
theorem named {P : Program} {f : FuncId} {args : Array Value} {W : World} {R : Ending → World → Prop} (h : ∀ W', W' = W → Calls P f args W' R) : Calls P f args W R := h W rfl
theorem alloc_at (w : World) (o : Obj) (k : Nat) : (w.alloc o).heap[k]? = if k = w.heap.size then some o else w.heap[k]? := by
  show (w.heap.push o)[k]? = _
  rw [Array.getElem?_push]
theorem alloc_last (w : World) (o : Obj) (k : Nat) (h : k = w.heap.size) : (w.alloc o).heap[k]? = some o := by rw [alloc_at, if_pos h]
/-- What is left. -/
def leftV (left n : Nat) : Int := if n ≤ left then (left : Int) - (n : Int) else -1
end Go.Proofs.Ytgbeongiejppnaa

/- Rows of the call's own, by their blocks; rows that are being filled. Nothing here speaks of a program. -/
namespace Go.Proofs.Ytgbeongiejppnaa
open Go.RowKit Go.BigFrame
theorem ended {P : Program} {fn : Func} {R : Ending → World → Prop} {x : Exit} {a : Act} {W : World} (h : ∀ W', W' = W → bodyPost P fn R x a W') : bodyPost P fn R x a W := h W rfl
theorem results_one {fn : Func} {p : Tmp} {ty : TypeId} (h : fn.results = #[.cell p ty]) (tmps : Array Value) (P : Program) (w : World) :
    (results fn tmps).run P w = ((asAddr (tmps.getD p undef)).run P w).andThen fun a w₁ => (loadVar ty a).run P w₁ := by
  simp only [results, h]
  simp [Sem.run_bind, Result.andThen]
/-- A row that fills a block of its own, of a known type. -/
def Blk (w : World) (L U : Nat) (T : TypeId) (v : Value) (n : Nat) (cs : List Value) : Prop :=
  ∃ g a, v = .slice (some ⟨g, 0, none⟩) n n ∧ L ≤ g ∧ g < U ∧ n ≤ maxLen ∧ w.heap[g]? = some (.cells a T (0, 0)) ∧ a.toList = cs
theorem Blk.keep {w w' : World} {L U : Nat} {T : TypeId} {v : Value} {n : Nat} {cs : List Value} (h : Blk w L U T v n cs) (s : Same L U w w') : Blk w' L U T v n cs := by
  obtain ⟨g, a, e, h1, h2, h3, h4, h5⟩ := h
  exact ⟨g, a, e, h1, h2, h3, (s g h1 h2).trans h4, h5⟩
theorem Blk.wide {w : World} {L U L' U' : Nat} {T : TypeId} {v : Value} {n : Nat} {cs : List Value} (h : Blk w L U T v n cs) (hL : L' ≤ L) (hU : U ≤ U') : Blk w L' U' T v n cs := by
  obtain ⟨g, a, e, h1, h2, h3, h4, h5⟩ := h
  exact ⟨g, a, e, by omega, by omega, h3, h4, h5⟩
theorem Blk.row {w : World} {L U k : Nat} {T : TypeId} {v : Value} {n : Nat} {V : Nat → Nat → Value} (h : Blk w L U T v n (cellsOf k n V)) : ∃ g, v = .slice (some ⟨g, 0, none⟩) n n ∧ Row w L U k (some ⟨g, 0, none⟩) n n V := by
  obtain ⟨g, a, e, h1, h2, h3, h4, h5⟩ := h
  refine ⟨g, e, Nat.le_refl _, h3, (fun e => by cases e), fun hn => ⟨g, 0, rfl, h1, h2, fun i j hi hj => ?_⟩⟩
  rw [cell_of_row w g _ a T (0, 0) h4]
  have := cellsOf_at V hi hj
  rw [← h5] at this
  rw [Nat.zero_add, ← this]
  simp
/-- The cells of a row that is filled from its head: the first m groups done, the others as they were made. -/
def part (k n m : Nat) (V : Nat → Nat → Value) (Z : Nat → Value) : List Value := cellsOf k n fun i j => if i < m then V i j else Z j
theorem part_done {k n : Nat} {V : Nat → Nat → Value} {Z : Nat → Value} : part k n n V Z = cellsOf k n V := by
  unfold part cellsOf
  refine List.map_congr_left fun x hx => ?_
  rw [List.mem_range] at hx
  have : x / k < n := Nat.div_lt_of_lt_mul (by rwa [Nat.mul_comm] at hx)
  exact if_pos this
theorem length_part (k n m : Nat) (V : Nat → Nat → Value) (Z : Nat → Value) : (part k n m V Z).length = n * k := length_cellsOf _ _ _
theorem made_part (z : Array Value) (n k : Nat) (hz : z.size = k) (V : Nat → Nat → Value) : (madeCells z (n * k)).toList = part k n 0 V (fun j => z[j]!) := by
  unfold madeCells part cellsOf
  subst hz
  simp
/-- A row as it is being filled. -/
def Fill (w : World) (g k n m : Nat) (T : TypeId) (V : Nat → Nat → Value) (Z : Nat → Value) : Prop := ∃ a, w.heap[g]? = some (.cells a T (0, 0)) ∧ a.toList = part k n m V Z
theorem Fill.cell {w : World} {g k n m : Nat} {T : TypeId} {V : Nat → Nat → Value} {Z : Nat → Value} (h : Fill w g k n m T V Z) {i j : Nat} (hi : i < n) (hj : j < k) : w.cell? ⟨g, i * k + j, none⟩ = some (if i < m then V i j else Z j) := by
  obtain ⟨a, h1, h2⟩ := h
  rw [cell_of_row w g _ a T (0, 0) h1]
  have := cellsOf_at (fun i j => if i < m then V i j else Z j) hi hj
  unfold part at h2
  rw [← h2] at this
  rw [← this]; simp
theorem Fill.free {w : World} {g k n m : Nat} {T : TypeId} {V : Nat → Nat → Value} {Z : Nat → Value} (h : Fill w g k n m T V Z) (x : Nat) : w.frozen? ⟨g, x, none⟩ = false := by
  obtain ⟨a, h1, _⟩ := h
  exact frozen_of_row w g x a T h1
theorem Fill.keep {w w' : World} {g k n m : Nat} {T : TypeId} {V : Nat → Nat → Value} {Z : Nat → Value} (h : Fill w g k n m T V Z) (e : w'.heap[g]? = w.heap[g]?) : Fill w' g k n m T V Z := by
  obtain ⟨a, h1, h2⟩ := h
  exact ⟨a, e.trans h1, h2⟩
theorem part_congr {k n m : Nat} {V V' : Nat → Nat → Value} {Z : Nat → Value} (h : ∀ i j, i < m → j < k → V i j = V' i j) : part k n m V Z = part k n m V' Z := by
  unfold part cellsOf
  refine List.map_congr_left fun x hx => ?_
  rw [List.mem_range] at hx
  by_cases hm : x / k < m
  · have hk : 0 < k := by rcases Nat.eq_zero_or_pos k with e | e
                          · subst e; omega
                          · exact e
    exact (if_pos hm).trans ((h _ _ hm (Nat.mod_lt _ hk)).trans (if_pos hm).symm)
  · exact (if_neg hm).trans (if_neg hm).symm
theorem Fill.congr {w : World} {g k n m : Nat} {T : TypeId} {V V' : Nat → Nat → Value} {Z : Nat → Value} (h : Fill w g k n m T V Z) (e : ∀ i j, i < m → j < k → V i j = V' i j) : Fill w g k n m T V' Z := by
  obtain ⟨a, h1, h2⟩ := h
  exact ⟨a, h1, h2.trans (part_congr e)⟩
theorem Fill.blk {w : World} {g k n : Nat} {T : TypeId} {V : Nat → Nat → Value} {Z : Nat → Value} (h : Fill w g k n n T V Z) {L U : Nat} (hL : L ≤ g) (hU : g < U) (hn : n ≤ maxLen) : Blk w L U T (.slice (some ⟨g, 0, none⟩) n n) n (cellsOf k n V) := by
  obtain ⟨a, h1, h2⟩ := h
  exact ⟨g, a, rfl, hL, hU, hn, h1, by rw [h2, part_done]⟩
theorem Fill.made {w : World} {base g n : Nat} {T : TypeId} {z : Array Value} {k : Nat} (h : w.ownsRow base T k (.slice (some ⟨g, 0, none⟩) n n) n (madeCells z (n * k)).toList) (hk : z.size = k) (V : Nat → Nat → Value) : Fill w g k n 0 T V (fun j => z[j]!) := by
  rcases h.2 with ⟨h', _⟩ | ⟨g', cap', cur, h', hb, hg, hnc, hcm, hcs, htake⟩
  · cases h'
  · injection h' with e1 e2 e3
    injection e1 with e1
    injection e1 with e1
    subst e1 e3
    refine ⟨cur, hg, ?_⟩
    rw [← made_part _ _ _ hk, ← htake, List.take_of_length_le (by simp [hcs])]
theorem Fill.made1 {w : World} {base g n : Nat} {T : TypeId} {z : Value} (h : w.ownsRow base T 1 (.slice (some ⟨g, 0, none⟩) n n) n (madeCells #[z] n).toList) (V : Nat → Nat → Value) : Fill w g 1 n 0 T V (fun j => #[z][j]!) :=
  Fill.made (k := 1) (z := #[z]) (base := base) (by rw [Nat.mul_one]; exact h) rfl V
/-- One group more is stored: here a group of one cell. -/
theorem Fill.one {w : World} {g n m : Nat} {T : TypeId} {V : Nat → Nat → Value} {Z : Nat → Value} (h : Fill w g 1 n m T V Z) (hm : m < n) {u : Value} (hu : V m 0 = u) : Fill (w.setCell ⟨g, m, none⟩ u) g 1 n (m + 1) T V Z := by
  obtain ⟨a, h1, h2⟩ := h
  refine ⟨a.setIfInBounds m u, heap_setCell_same w g m a T u h1, ?_⟩
  rw [Array.toList_setIfInBounds, h2]
  apply List.ext_getElem?
  intro x
  by_cases hx : x < n
  · have e1 := cellsOf_at (k := 1) (m := n) (i := x) (j := 0) (fun i j => if i < m + 1 then V i j else Z j) hx (by omega)
    have e0 := cellsOf_at (k := 1) (m := n) (i := x) (j := 0) (fun i j => if i < m then V i j else Z j) hx (by omega)
    simp only [Nat.mul_one, Nat.add_zero] at e1 e0
    unfold part
    rw [e1, List.getElem?_set]
    by_cases hmx : m = x
    · subst hmx; simp [length_cellsOf, hm, hu]
    · rw [if_neg hmx, e0]
      by_cases h3 : x < m
      · rw [if_pos h3, if_pos (by omega)]
      · rw [if_neg h3, if_neg (by omega)]
  · rw [List.getElem?_eq_none (by rw [List.length_set, length_part]; omega), List.getElem?_eq_none (by rw [length_part]; omega)]
/-- One group of three cells more is stored. -/
theorem Fill.three {w : World} {g n m : Nat} {T : TypeId} {V : Nat → Nat → Value} {Z : Nat → Value} (h : Fill w g 3 n m T V Z) {u0 u1 u2 : Value} (h0 : V m 0 = u0) (h1 : V m 1 = u1) (h2 : V m 2 = u2) :
    Fill (((w.setCell ⟨g, m * 3, none⟩ u0).setCell ⟨g, m * 3 + 1, none⟩ u1).setCell ⟨g, m * 3 + 2, none⟩ u2) g 3 n (m + 1) T V Z := by
  obtain ⟨a, e1, e2⟩ := h
  refine ⟨((a.setIfInBounds (m * 3) u0).setIfInBounds (m * 3 + 1) u1).setIfInBounds (m * 3 + 2) u2, heap_setCell_same _ g _ _ T u2 (heap_setCell_same _ g _ _ T u1 (heap_setCell_same w g _ a T u0 e1)), ?_⟩
  rw [Array.toList_setIfInBounds, Array.toList_setIfInBounds, Array.toList_setIfInBounds, e2]
  have hlen : (part 3 n m V Z).length = n * 3 := length_part _ _ _ _ _
  apply List.ext_getElem?
  intro x
  by_cases hx : x < n * 3
  · have d1 : x / 3 < n := by omega
    have d2 : x % 3 < 3 := by omega
    have d3 : x / 3 * 3 + x % 3 = x := by omega
    have e1 := cellsOf_at (k := 3) (m := n) (i := x / 3) (j := x % 3) (fun i j => if i < m + 1 then V i j else Z j) d1 d2
    have e0 := cellsOf_at (k := 3) (m := n) (i := x / 3) (j := x % 3) (fun i j => if i < m then V i j else Z j) d1 d2
    rw [d3] at e1 e0
    unfold part at hlen ⊢
    rw [e1, List.getElem?_set, List.getElem?_set, List.getElem?_set, List.length_set, List.length_set, hlen, e0]
    by_cases c2 : m * 3 + 2 = x
    · rw [if_pos c2, if_pos (by omega), show x / 3 = m by omega, show x % 3 = 2 by omega, if_pos (by omega), h2]
    · rw [if_neg c2]
      by_cases c1 : m * 3 + 1 = x
      · rw [if_pos c1, if_pos (by omega), show x / 3 = m by omega, show x % 3 = 1 by omega, if_pos (by omega), h1]
      · rw [if_neg c1]
        by_cases c0 : m * 3 = x
        · rw [if_pos c0, if_pos (by omega), show x / 3 = m by omega, show x % 3 = 0 by omega, if_pos (by omega), h0]
        · rw [if_neg c0]
          by_cases h3 : x / 3 < m
          · rw [if_pos h3, if_pos (by omega)]
          · rw [if_neg h3, if_neg (by omega)]
  · rw [List.getElem?_eq_none (by simp only [List.length_set, length_part]; omega), List.getElem?_eq_none (by rw [length_part]; omega)]
/-- One group of 2 cells more is stored. -/
theorem Fill.two {w : World} {g n m : Nat} {T : TypeId} {V : Nat → Nat → Value} {Z : Nat → Value} (h : Fill w g 2 n m T V Z) {u0 u1 : Value} (h0 : V m 0 = u0) (h1 : V m 1 = u1) :
    Fill ((w.setCell ⟨g, m * 2, none⟩ u0).setCell ⟨g, m * 2 + 1, none⟩ u1) g 2 n (m + 1) T V Z := by
  obtain ⟨a, e1, e2⟩ := h
  refine ⟨((a.setIfInBounds (m * 2) u0).setIfInBounds (m * 2 + 1) u1), (heap_setCell_same _ g _ _ T u1 (heap_setCell_same _ g _ _ T u0 e1)), ?_⟩
  rw [Array.toList_setIfInBounds, Array.toList_setIfInBounds, e2]
  have hlen : (part 2 n m V Z).length = n * 2 := length_part _ _ _ _ _
  apply List.ext_getElem?
  intro x
  by_cases hx : x < n * 2
  · have d1 : x / 2 < n := by omega
    have d2 : x % 2 < 2 := by omega
    have d3 : x / 2 * 2 + x % 2 = x := by omega
    have e1 := cellsOf_at (k := 2) (m := n) (i := x / 2) (j := x % 2) (fun i j => if i < m + 1 then V i j else Z j) d1 d2
    have e0 := cellsOf_at (k := 2) (m := n) (i := x / 2) (j := x % 2) (fun i j => if i < m then V i j else Z j) d1 d2
    rw [d3] at e1 e0
    unfold part at hlen ⊢
    rw [e1, List.getElem?_set, List.getElem?_set, List.length_set, hlen, e0]
    by_cases c1 : m * 2 + 1 = x
    · rw [if_pos c1, if_pos (by omega), show x / 2 = m by omega, show x % 2 = 1 by omega, if_pos (by omega), h1]
    · rw [if_neg c1]
      by_cases c0 : m * 2 = x
      · rw [if_pos c0, if_pos (by omega), show x / 2 = m by omega, show x % 2 = 0 by omega, if_pos (by omega), h0]
      · rw [if_neg c0]
        by_cases h3 : x / 2 < m
        · rw [if_pos h3, if_pos (by omega)]
        · rw [if_neg h3, if_neg (by omega)]
  · rw [List.getElem?_eq_none (by simp only [List.length_set, length_part]; omega), List.getElem?_eq_none (by rw [length_part]; omega)]
/-- One group of 5 cells more is stored. -/
theorem Fill.five {w : World} {g n m : Nat} {T : TypeId} {V : Nat → Nat → Value} {Z : Nat → Value} (h : Fill w g 5 n m T V Z) {u0 u1 u2 u3 u4 : Value} (h0 : V m 0 = u0) (h1 : V m 1 = u1) (h2 : V m 2 = u2) (h3 : V m 3 = u3) (h4 : V m 4 = u4) :
    Fill (((((w.setCell ⟨g, m * 5, none⟩ u0).setCell ⟨g, m * 5 + 1, none⟩ u1).setCell ⟨g, m * 5 + 2, none⟩ u2).setCell ⟨g, m * 5 + 3, none⟩ u3).setCell ⟨g, m * 5 + 4, none⟩ u4) g 5 n (m + 1) T V Z := by
  obtain ⟨a, e1, e2⟩ := h
  refine ⟨(((((a.setIfInBounds (m * 5) u0).setIfInBounds (m * 5 + 1) u1).setIfInBounds (m * 5 + 2) u2).setIfInBounds (m * 5 + 3) u3).setIfInBounds (m * 5 + 4) u4), (heap_setCell_same _ g _ _ T u4 (heap_setCell_same _ g _ _ T u3 (heap_setCell_same _ g _ _ T u2 (heap_setCell_same _ g _ _ T u1 (heap_setCell_same _ g _ _ T u0 e1))))), ?_⟩
  rw [Array.toList_setIfInBounds, Array.toList_setIfInBounds, Array.toList_setIfInBounds, Array.toList_setIfInBounds, Array.toList_setIfInBounds, e2]
  have hlen : (part 5 n m V Z).length = n * 5 := length_part _ _ _ _ _
  apply List.ext_getElem?
  intro x
  by_cases hx : x < n * 5
  · have d1 : x / 5 < n := by omega
    have d2 : x % 5 < 5 := by omega
    have d3 : x / 5 * 5 + x % 5 = x := by omega
    have e1 := cellsOf_at (k := 5) (m := n) (i := x / 5) (j := x % 5) (fun i j => if i < m + 1 then V i j else Z j) d1 d2
    have e0 := cellsOf_at (k := 5) (m := n) (i := x / 5) (j := x % 5) (fun i j => if i < m then V i j else Z j) d1 d2
    rw [d3] at e1 e0
    unfold part at hlen ⊢
    rw [e1, List.getElem?_set, List.getElem?_set, List.getElem?_set, List.getElem?_set, List.getElem?_set, List.length_set, List.length_set, List.length_set, List.length_set, hlen, e0]
    by_cases c4 : m * 5 + 4 = x
    · rw [if_pos c4, if_pos (by omega), show x / 5 = m by omega, show x % 5 = 4 by omega, if_pos (by omega), h4]
    · rw [if_neg c4]
      by_cases c3 : m * 5 + 3 = x
      · rw [if_pos c3, if_pos (by omega), show x / 5 = m by omega, show x % 5 = 3 by omega, if_pos (by omega), h3]
      · rw [if_neg c3]
        by_cases c2 : m * 5 + 2 = x
        · rw [if_pos c2, if_pos (by omega), show x / 5 = m by omega, show x % 5 = 2 by omega, if_pos (by omega), h2]
        · rw [if_neg c2]
          by_cases c1 : m * 5 + 1 = x
          · rw [if_pos c1, if_pos (by omega), show x / 5 = m by omega, show x % 5 = 1 by omega, if_pos (by omega), h1]
          · rw [if_neg c1]
            by_cases c0 : m * 5 = x
            · rw [if_pos c0, if_pos (by omega), show x / 5 = m by omega, show x % 5 = 0 by omega, if_pos (by omega), h0]
            · rw [if_neg c0]
              by_cases h3 : x / 5 < m
              · rw [if_pos h3, if_pos (by omega)]
              · rw [if_neg h3, if_neg (by omega)]
  · rw [List.getElem?_eq_none (by simp only [List.length_set, length_part]; omega), List.getElem?_eq_none (by rw [length_part]; omega)]
/-- Marking has turned blocks between L and U alone. -/
structure Within (L U : Nat) (w w' : World) : Prop where
  os : w'.os = w.os
  tape : w'.tape = w.tape
  output : w'.output = w.output
  size : w'.heap.size = w.heap.size
  block : ∀ b, b < L ∨ U ≤ b → w'.heap[b]? = w.heap[b]?
theorem Within.below {L U B : Nat} {w w' : World} (h : Within L U w w') (hB : B ≤ L) : Below B w w' := ⟨h.os, h.tape, h.output, by rw [h.size]; exact Nat.le_refl _, fun k hk => h.block k (.inl (by omega))⟩
theorem Within.same {L U L' U' : Nat} {w w' : World} (h : Within L U w w') (hs : U' ≤ L ∨ U ≤ L') : Same L' U' w w' := fun g h1 h2 => h.block g (by omega)
end Go.Proofs.Ytgbeongiejppnaa

/- A row of ints that the call owns. -/
namespace Go.Proofs.Ytgbeongiejppnaa
open Go.RowKit
def Own (w : World) (base : Nat) (u : Value) (xs : List Int) : Prop := w.ownsRow base 3 1 u xs.length (xs.map (Value.int .i64))
theorem Own.of {w : World} {base n : Nat} {u : Value} {xs : List Int} (h : w.ownsRow base 3 1 u n (xs.map (Value.int .i64))) : Own w base u xs := by
  have hn : n = xs.length := by have := h.1; simp at this; exact this.symm
  subst hn; exact h
theorem Own.nil (w : World) (base : Nat) : Own w base (.slice none 0 0) [] := World.ownsRow_nil _ _ _ _
theorem Own.wide {w : World} {base base' : Nat} {u : Value} {xs : List Int} (h : Own w base u xs) (hb : base' ≤ base) : Own w base' u xs := by
  refine ⟨h.1, h.2.imp id fun ⟨g, cap, cur, e, h1, h2⟩ => ⟨g, cap, cur, e, by omega, h2⟩⟩
theorem Own.ints {w : World} {base : Nat} {u : Value} {xs : List Int} (h : Own w base u xs) : Ints w base w.heap.size u xs := ints_of_own h
theorem Own.keep {w w' : World} {base : Nat} {u : Value} {xs : List Int} (h : Own w base u xs) (s : Same base w.heap.size w w') : Own w' base u xs := by
  refine ⟨h.1, h.2.imp id fun ⟨g, cap, cur, e, h1, h2, h3⟩ => ⟨g, cap, cur, e, h1, (s g h1 ?_).trans h2, h3⟩⟩
  exact (Array.getElem?_eq_some_iff.1 h2).1
end Go.Proofs.Ytgbeongiejppnaa

/- Lists of ints as the exact laws take them: their size, their equality, their copies, marks on them. -/
namespace Go.Proofs.Ytgbeongiejppnaa
open Go.RowKit Go.BigFrame
theorem infoI : (Try.prog.info? 3).map (fun i => (i.zero, i.size, i.bytes)) = some (some (.int .i64 0), 1, 8) := by kernel_rfl
def OInts (w : World) (L U : Nat) (v : Value) (xs : List Int) : Prop := Blk w L U 3 v xs.length (xs.map (Value.int .i64))
theorem OInts.keep {w w' : World} {L U : Nat} {v : Value} {xs : List Int} (h : OInts w L U v xs) (s : Same L U w w') : OInts w' L U v xs := Blk.keep h s
theorem OInts.wide {w : World} {L U L' U' : Nat} {v : Value} {xs : List Int} (h : OInts w L U v xs) (hL : L' ≤ L) (hU : U ≤ U') : OInts w L' U' v xs := Blk.wide h hL hU
theorem OInts.ints {w : World} {L U : Nat} {v : Value} {xs : List Int} (h : OInts w L U v xs) : Ints w L U v xs := by
  unfold OInts at h
  rw [← cellsOf_ints] at h
  obtain ⟨g, e, r⟩ := h.row
  exact ⟨_, _, e, r⟩
/-! Equality, where both are the same -/
/-- The first j elements are marks from k on. -/
def mk (xs : List Int) (k : Int) (j : Nat) : List Int := (List.range xs.length).map fun i => if i < j then k + (i : Int) else nth xs i
theorem length_mk (xs : List Int) (k : Int) (j : Nat) : (mk xs k j).length = xs.length := by simp [mk]
theorem mk_at {xs : List Int} {k : Int} {j i : Nat} (h : i < (mk xs k j).length) : (mk xs k j)[i] = if i < j then k + (i : Int) else nth xs i := by simp [mk]
theorem mk_zero (xs : List Int) (k : Int) : mk xs k 0 = xs := by
  apply List.ext_getElem (by simp [mk])
  intro i h1 h2
  rw [mk_at, if_neg (by omega), nth_of h2]
theorem mk_step {xs : List Int} {k : Int} {j : Nat} : ((mk xs k j).map (Value.int .i64)).set j (.int .i64 (k + (j : Int))) = (mk xs k (j + 1)).map (Value.int .i64) := by
  apply List.ext_getElem (by simp [mk])
  intro i h1 h2
  rw [List.getElem_set]
  by_cases e : j = i
  · subst e
    rw [if_pos rfl, List.getElem_map, mk_at, if_pos (by omega)]
  · rw [if_neg e, List.getElem_map, List.getElem_map, mk_at, mk_at]
    by_cases h3 : i < j
    · rw [if_pos h3, if_pos (by omega)]
    · rw [if_neg h3, if_neg (by omega)]
theorem only_two {a b c : World} {r : Option Nat} (h : a.grownBy b r) (k : b.grownBy c r) : a.grownBy c r :=
  ⟨k.os.trans h.os, k.tape.trans h.tape, k.output.trans h.output, Nat.le_trans h.size k.size, fun i hi hne => (k.block i (Nat.lt_of_lt_of_le hi h.size) hne).trans (h.block i hi hne)⟩
theorem OInts.own {w : World} {L U : Nat} {v : Value} {xs : List Int} (h : OInts w L U v xs) : Own w L v xs := by
  obtain ⟨g, a, rfl, h1, h2, h3, h4, h5⟩ := h
  have hz : a.size = xs.length := by have := congrArg List.length h5; simpa using this
  exact ⟨by simp, .inr ⟨g, xs.length, a, rfl, h1, h4, Nat.le_refl _, h3, by rw [hz, Nat.mul_one], by rw [Nat.mul_one, h5, List.take_of_length_le (by simp)]⟩⟩
end Go.Proofs.Ytgbeongiejppnaa

/- Ascending lists, and a number put into one: the plain part, and the law on appending one number. -/
namespace Go.Proofs.Ytgbeongiejppnaa
open Go.RowKit Go.BigFrame
def ins (n : Int) : List Int → List Int
  | [] => [n]
  | x :: xs => if n < x then n :: x :: xs else if n = x then x :: xs else x :: ins n xs
/-- Strictly ascending. -/
def Asc (xs : List Int) : Prop := ∀ i j, i < j → j < xs.length → nth xs i < nth xs j
theorem ins_lt {n : Int} {ys : List Int} (h : ∀ x ∈ ys, x < n) : ins n ys = ys ++ [n] := by
  induction ys with
  | nil => rfl
  | cons y ys ih =>
    have hy := h y (by simp)
    simp only [ins]
    rw [if_neg (by omega), if_neg (by omega), ih fun x hx => h x (by simp [hx])]
    rfl
theorem ins_eq {n : Int} {ys : List Int} (h : ∀ x ∈ ys, x < n) : ins n (ys ++ [n]) = ys ++ [n] := by
  induction ys with
  | nil => simp [ins]
  | cons y ys ih =>
    have hy := h y (by simp)
    simp only [List.cons_append, ins]
    rw [if_neg (by omega), if_neg (by omega), ih fun x hx => h x (by simp [hx])]
theorem ins_gt {n m : Int} {ys : List Int} (h : ∀ x ∈ ys, x < n) (hm : n < m) : ins n (ys ++ [m]) = ys ++ [n] ++ [m] := by
  induction ys with
  | nil => simp [ins, hm]
  | cons y ys ih =>
    have hy := h y (by simp)
    simp only [List.cons_append, ins]
    rw [if_neg (by omega), if_neg (by omega), ih fun x hx => h x (by simp [hx])]
theorem ins_in {n m : Int} {ys : List Int} (h : ∃ x ∈ ys, n ≤ x) : ins n (ys ++ [m]) = ins n ys ++ [m] := by
  induction ys with
  | nil => obtain ⟨x, hx, _⟩ := h; cases hx
  | cons y ys ih =>
    simp only [List.cons_append, ins]
    by_cases h1 : n < y
    · rw [if_pos h1, if_pos h1]; rfl
    · rw [if_neg h1, if_neg h1]
      by_cases h2 : n = y
      · rw [if_pos h2, if_pos h2]; rfl
      · rw [if_neg h2, if_neg h2]
        obtain ⟨x, hx, hn⟩ := h
        rw [ih ⟨x, by rcases List.mem_cons.1 hx with rfl | h'; omega; exact h', hn⟩]
        rfl
theorem ins_length (n : Int) (ys : List Int) : (ins n ys).length ≤ ys.length + 1 := by
  induction ys with
  | nil => simp [ins]
  | cons y ys ih =>
    simp only [ins]
    split
    · simp
    · split
      · simp
      · simp only [List.length_cons]; omega
theorem ins_mem {n x : Int} {ys : List Int} : x ∈ ins n ys ↔ x = n ∨ x ∈ ys := by
  induction ys with
  | nil => simp [ins]
  | cons y ys ih =>
    simp only [ins]
    split
    · simp
    · split
      · rename_i h; subst h; simp
      · simp only [List.mem_cons, ih]
        constructor
        · rintro (h | h | h) <;> simp [h]
        · rintro (h | h | h) <;> simp [h]
theorem asc_iff (xs : List Int) : Asc xs ↔ xs.Pairwise (· < ·) := by
  rw [List.pairwise_iff_getElem]
  constructor
  · intro h i j hi hj hij
    have := h i j hij hj
    rwa [nth_of hi, nth_of hj] at this
  · intro h i j hij hj
    rw [nth_of (by omega), nth_of hj]
    exact h i j (by omega) hj hij
theorem ins_asc {n : Int} {ys : List Int} (h : Asc ys) : Asc (ins n ys) := by
  rw [asc_iff] at h ⊢
  induction ys with
  | nil => simp [ins]
  | cons y ys ih =>
    rw [List.pairwise_cons] at h
    simp only [ins]
    split
    · rename_i h1
      rw [List.pairwise_cons, List.pairwise_cons]
      refine ⟨fun x hx => ?_, h.1, h.2⟩
      rcases List.mem_cons.1 hx with rfl | h'
      · exact h1
      · have := h.1 x h'; omega
    · split
      · rw [List.pairwise_cons]; exact h
      · rw [List.pairwise_cons]
        refine ⟨fun x hx => ?_, ih h.2⟩
        rcases ins_mem.1 hx with rfl | h'
        · omega
        · exact h.1 x h'
theorem asc_past {xs : List Int} (h : Asc xs) {k : Nat} (hk : k < xs.length) {n : Int} (hx : ∃ x ∈ xs.take k, n ≤ x) : n < xs[k] := by
  obtain ⟨x, hm, hn⟩ := hx
  obtain ⟨i, hi, rfl⟩ := List.getElem_of_mem hm
  rw [List.length_take] at hi
  have := h i k (by omega) hk
  rw [nth_of (by omega), nth_of hk] at this
  rw [List.getElem_take] at hn
  omega
/-- How far a walk over an ascending list has come: whether the number is placed, and what is gathered. -/
def InsAt (xs : List Int) (n : Int) (k : Nat) (b : Bool) (ys : List Int) : Prop :=
  (b = false ∧ (∀ x ∈ xs.take k, x < n) ∧ ys = xs.take k) ∨ (b = true ∧ (∃ x ∈ xs.take k, n ≤ x) ∧ ys = ins n (xs.take k))
theorem InsAt.zero (xs : List Int) (n : Int) : InsAt xs n 0 false [] := .inl ⟨rfl, by simp, by simp⟩
theorem take_more {xs : List Int} {k : Nat} (hk : k < xs.length) : xs.take (k + 1) = xs.take k ++ [xs[k]] := List.take_succ_eq_append_getElem hk
theorem InsAt.less {xs : List Int} {n : Int} {k : Nat} {ys : List Int} (h : InsAt xs n k false ys) (hk : k < xs.length) (hm : xs[k] < n) : InsAt xs n (k + 1) false (ys ++ [xs[k]]) := by
  rcases h with ⟨_, h1, rfl⟩ | ⟨h, _⟩
  · refine .inl ⟨rfl, fun x hx => ?_, by rw [take_more hk]⟩
    rw [take_more hk, List.mem_append] at hx
    rcases hx with h' | h'
    · exact h1 x h'
    · simp at h'; omega
  · cases h
theorem InsAt.same {xs : List Int} {n : Int} {k : Nat} {ys : List Int} (h : InsAt xs n k false ys) (hk : k < xs.length) (hm : xs[k] = n) : InsAt xs n (k + 1) true (ys ++ [n]) := by
  rcases h with ⟨_, h1, rfl⟩ | ⟨h, _⟩
  · refine .inr ⟨rfl, ⟨n, by rw [take_more hk, hm]; exact List.mem_append.2 (.inr (by simp)), Int.le_refl _⟩, ?_⟩
    rw [take_more hk, hm, ins_eq h1]
  · cases h
theorem InsAt.more {xs : List Int} {n : Int} {k : Nat} {ys : List Int} (h : InsAt xs n k false ys) (hk : k < xs.length) (hm : n < xs[k]) : InsAt xs n (k + 1) true (ys ++ [n] ++ [xs[k]]) := by
  rcases h with ⟨_, h1, rfl⟩ | ⟨h, _⟩
  · refine .inr ⟨rfl, ⟨xs[k], by rw [take_more hk]; exact List.mem_append.2 (.inr (by simp)), by omega⟩, ?_⟩
    rw [take_more hk, ins_gt h1 hm]
  · cases h
theorem InsAt.past {xs : List Int} {n : Int} {k : Nat} {ys : List Int} (h : InsAt xs n k true ys) (hk : k < xs.length) : InsAt xs n (k + 1) true (ys ++ [xs[k]]) := by
  rcases h with ⟨h, _⟩ | ⟨_, ⟨x, hx, hn⟩, rfl⟩
  · cases h
  · exact .inr ⟨rfl, ⟨x, by rw [take_more hk]; exact List.mem_append.2 (.inl hx), hn⟩, by rw [take_more hk, ins_in ⟨x, hx, hn⟩]⟩
theorem InsAt.gt {xs : List Int} {n : Int} {k : Nat} {ys : List Int} (h : InsAt xs n k true ys) (ha : Asc xs) (hk : k < xs.length) : n < xs[k] := by
  rcases h with ⟨h, _⟩ | ⟨_, hx, _⟩
  · cases h
  · exact asc_past ha hk hx
theorem InsAt.last {xs : List Int} {n : Int} {k : Nat} {ys : List Int} (h : InsAt xs n k true ys) (hk : ¬ k < xs.length) : ys = ins n xs := by
  rcases h with ⟨h, _⟩ | ⟨_, _, rfl⟩
  · cases h
  · rw [List.take_of_length_le (by omega)]
theorem InsAt.end_ {xs : List Int} {n : Int} {k : Nat} {ys : List Int} (h : InsAt xs n k false ys) (hk : ¬ k < xs.length) : ys ++ [n] = ins n xs := by
  rcases h with ⟨_, h1, rfl⟩ | ⟨h, _⟩
  · rw [List.take_of_length_le (by omega)] at h1 ⊢
    rw [ins_lt h1]
  · cases h
theorem InsAt.length {xs : List Int} {n : Int} {k : Nat} {b : Bool} {ys : List Int} (h : InsAt xs n k b ys) : ys.length ≤ xs.length + 1 := by
  rcases h with ⟨_, _, rfl⟩ | ⟨_, _, rfl⟩
  · rw [List.length_take]; omega
  · have := ins_length n (xs.take k)
    rw [List.length_take] at this
    omega
/-- One number is appended to a row of ints of the call's own. -/
theorem wp_push {w : World} {ops : Array Oper} {rest : List Oper} {o : Oper} {a : Act} {Q : Exit → Act → World → Prop} (hgd : o.guard = none) (s x : Operand)
    (ho : o.op = .call { callee := .builtin .append, args := #[s, x], argTypes := #[25, 25] }) {base : Nat} {v : Value} {ys : List Int} {m : Int} (hs : a.eval s = v) (hown : Own w base v ys)
    (hx : a.eval x = .slice (some ⟨w.heap.size, 0, none⟩) 1 1) (hl : ys.length ≤ 10000000) (hb : base ≤ w.heap.size)
    (h : ∀ v' w', Own w' base v' (ys ++ [m]) → Below base w w' → w.heap.size ≤ w'.heap.size → wpList Try.prog ops Q rest (a.put o.dst v') w') : wpList Try.prog ops Q (o :: rest) a (w.alloc (.cells #[.int .i64 m] 3)) := by
  obtain ⟨i0, hi, hz0, hz1, hz2⟩ := info_parts infoI
  refine wpList_append_own _ hgd s x 25 ho base 3 i0 (.int .i64 0) 1 8 Try.underlying25 hi hz0 hz1 hz2 rfl (by decide) v ys.length (ys.map (Value.int .i64)) hs (hown.alloc _) ⟨w.heap.size, 0, none⟩ 1 1 [.int .i64 m] hx rfl (cell_one_new _ _ _) (by simp [Value.oneCell']) (by unfold maxLen; omega) (by omega) (by simp; omega) ?_
  intro v' w' hown' hg _
  have hB : Below base w w' := Below.own ((Below.refl base w).alloc hb _) (hown.alloc _) hg (Nat.le_refl _) (by simp; omega)
  refine h v' w' ?_ hB hB.size
  have e : (ys ++ [m]).map (Value.int .i64) = ys.map (Value.int .i64) ++ [.int .i64 m] := by simp
  show w'.ownsRow base 3 1 v' (ys ++ [m]).length ((ys ++ [m]).map (Value.int .i64))
  rw [e, List.length_append]
  exact hown'
end Go.Proofs.Ytgbeongiejppnaa

/- Contracts of withInt and insert: a number is put into an ascending list. -/
namespace Go.Proofs.Ytgbeongiejppnaa
open Go.RowKit Go.BigFrame
set_option maxHeartbeats 1600000 in
theorem withInt_any (L U : Nat) (xs : List Int) (v : Value) (n : Int) (w : World) (hv : Ints w L U v xs) (hU : U ≤ w.heap.size) (ha : Asc xs) (hs : xs.length ≤ 2000000) :
    Calls Try.prog 77 #[v, .int .i64 n] w fun e w' => ∃ u, e = .returned u ∧ Below w.heap.size w w' ∧ Own w' w.heap.size u (ins n xs) := by
  obtain ⟨B, d, rfl, hl, hd⟩ := hv.open_
  go_enter Try.func77, Try.ntmps77
  go_wp2_with fail
  go_loopw [5, 6, 11] (fun u p i wr => ∃ (k : Nat) (b : Bool) (ys : List Int), k ≤ xs.length ∧ i = .int .i64 k ∧ p = .bool b ∧ Hid (InsAt xs n k b ys) ∧ Own wr w.heap.size u ys ∧ Below w.heap.size w wr) (fun _ _ i _ => xs.length - (intOf i).toNat)
  case atStart => exact ⟨0, false, [], by omega, rfl, rfl, InsAt.zero xs n, Own.nil _ _, Below.refl _ _⟩
  case round =>
    obtain ⟨k, b, ys, hk, rfl, rfl, HI, hown, hB⟩ := hrel
    have hz := hB.size
    have hyl := HI.out.length
    by_cases hlt : k < xs.length
    · obtain ⟨bb, o, rfl, _, _, hc⟩ := (hv.keep (Same.of_below hB hU)).at_ hlt
      rcases b with _ | _
      · rcases Int.lt_trichotomy xs[k] n with hm | hm | hm
        · have HN := Lib.hid (HI.out.less hlt hm)
          have hne : ¬ xs[k] = n := by omega
          go_wp2_with (at_builtin; refine wp_push rfl (.tmp 29) (.tmp 31) rfl rfl hown rfl (by omega) hz ?_)
          intro u1 w1 ho1 hB1 _
          have HH := Lib.hid (And.intro ho1 (hB.trans hB1))
          clear ho1 hB1 hB hown hc
          go_wp2_with fail
          go_roundw
          case rel => exact ⟨k + 1, false, _, by omega, by go_num, rfl, HN, HH.out.1, HH.out.2⟩
          case measure => simp [intOf]; omega
        · have HN := Lib.hid (HI.out.same hlt hm)
          rw [hm] at hc
          clear hm
          go_wp2_with (at_builtin; refine wp_push rfl (.tmp 22) (.tmp 24) rfl rfl hown rfl (by omega) hz ?_)
          intro u1 w1 ho1 hB1 _
          have HH := Lib.hid (And.intro ho1 (hB.trans hB1))
          clear ho1 hB1 hB hown hc
          go_wp2_with fail
          go_roundw
          case rel => exact ⟨k + 1, true, _, by omega, by go_num, rfl, HN, HH.out.1, HH.out.2⟩
          case measure => simp [intOf]; omega
        · have HN : Hid (InsAt xs n (k + 1) true (ys ++ [n, xs[k]])) := by
            have := HI.out.more hlt hm
            rw [List.append_assoc] at this
            exact this
          have hne : ¬ xs[k] = n := by omega
          go_wp2_with (at_builtin; refine wp_push rfl (.tmp 22) (.tmp 24) rfl rfl hown rfl (by omega) hz ?_)
          intro u1 w1 ho1 hB1 _
          have B1 := hB.trans hB1
          clear hB hB1 hown hc
          have hz1 := B1.size
          have hl1 : (ys ++ [n]).length ≤ 2000002 := by rw [List.length_append]; simp; omega
          go_wp2_with (at_builtin; refine wp_push rfl (.tmp 29) (.tmp 31) rfl rfl ho1 rfl (by omega) hz1 ?_)
          intro u2 w2 ho2 hB2 _
          have HH := Lib.hid (And.intro ho2 (B1.trans hB2))
          clear ho1 ho2 hB2 B1
          go_wp2_with fail
          go_roundw
          case rel => exact ⟨k + 1, true, _, by omega, by go_num, rfl, HN, HH.out.1, HH.out.2⟩
          case measure => simp [intOf]; omega
      · have hm := HI.out.gt ha hlt
        have HN := Lib.hid (HI.out.past hlt)
        have hne : ¬ xs[k] = n := by omega
        go_wp2_with (at_builtin; refine wp_push rfl (.tmp 29) (.tmp 31) rfl rfl hown rfl (by omega) hz ?_)
        intro u1 w1 ho1 hB1 _
        have HH := Lib.hid (And.intro ho1 (hB.trans hB1))
        clear ho1 hB1 hB hown hc
        go_wp2_with fail
        go_roundw
        case rel => exact ⟨k + 1, true, _, by omega, by go_num, rfl, HN, HH.out.1, HH.out.2⟩
        case measure => simp [intOf]; omega
    · rcases b with _ | _
      · have he := HI.out.end_ hlt
        go_wp2_with (at_builtin; refine wp_push rfl (.tmp 36) (.tmp 38) rfl rfl hown rfl (by omega) hz ?_)
        intro u1 w1 ho1 hB1 _
        have HH := Lib.hid (And.intro ho1 (hB.trans hB1))
        clear ho1 hB1 hB hown he
        go_wp2_with fail
        go_ret
        exact ⟨_, rfl, HH.out.2, HH.out.1⟩
      · have he := HI.out.last hlt
        subst he
        go_wp2_with fail
        go_ret
        exact ⟨_, rfl, hB, hown⟩
set_option maxHeartbeats 1600000 in
theorem insert_any (L U : Nat) (xs : List Int) (v : Value) (n : Int) (w : World) (hv : Ints w L U v xs) (hU : U ≤ w.heap.size) (ha : Asc xs) (hs : xs.length ≤ 2000000) :
    Calls Try.prog 51 #[v, .int .i64 n] w fun e w' => ∃ u, e = .returned u ∧ Below w.heap.size w w' ∧ Own w' w.heap.size u (ins n xs) := by
  obtain ⟨B, d, rfl, hl, hd⟩ := hv.open_
  go_enter Try.func51, Try.ntmps51
  go_wp2_with fail
  go_loopw [5, 6, 7] (fun u p i wr => ∃ (k : Nat) (b : Bool) (ys : List Int), k ≤ xs.length ∧ i = .int .i64 k ∧ p = .bool b ∧ Hid (InsAt xs n k b ys) ∧ Own wr w.heap.size u ys ∧ Below w.heap.size w wr) (fun _ _ i _ => xs.length - (intOf i).toNat)
  case atStart => exact ⟨0, false, [], by omega, rfl, rfl, InsAt.zero xs n, Own.of (n := 0) (World.ownsRow_lit (base := w.heap.size) (e := 3) (size := 1) w #[] 0 (Nat.le_refl _) (by simp [maxLen]) rfl), (Below.refl _ _).alloc (Nat.le_refl _) _⟩
  case round =>
    obtain ⟨k, b, ys, hk, rfl, rfl, HI, hown, hB⟩ := hrel
    have hz := hB.size
    have hyl := HI.out.length
    by_cases hlt : k < xs.length
    · obtain ⟨bb, o, rfl, _, _, hc⟩ := (hv.keep (Same.of_below hB hU)).at_ hlt
      rcases b with _ | _
      · rcases Int.lt_trichotomy xs[k] n with hm | hm | hm
        · have HN := Lib.hid (HI.out.less hlt hm)
          have hne : ¬ xs[k] = n := by omega
          go_wp2_with (at_builtin; refine wp_push rfl (.tmp 35) (.tmp 40) rfl rfl hown rfl (by omega) hz ?_)
          intro u1 w1 ho1 hB1 _
          have HH := Lib.hid (And.intro ho1 (hB.trans hB1))
          clear ho1 hB1 hB hown hc
          go_wp2_with fail
          go_roundw
          case rel => exact ⟨k + 1, false, _, by omega, by go_num, rfl, HN, HH.out.1, HH.out.2⟩
          case measure => simp [intOf]; omega
        · have HN := Lib.hid (HI.out.same hlt hm)
          rw [hm] at hc
          clear hm
          go_wp2_with (at_builtin; refine wp_push rfl (.tmp 35) (.tmp 40) rfl rfl hown rfl (by omega) hz ?_)
          intro u1 w1 ho1 hB1 _
          have HH := Lib.hid (And.intro ho1 (hB.trans hB1))
          clear ho1 hB1 hB hown hc
          go_wp2_with fail
          go_roundw
          case rel => exact ⟨k + 1, true, _, by omega, by go_num, rfl, HN, HH.out.1, HH.out.2⟩
          case measure => simp [intOf]; omega
        · have HN : Hid (InsAt xs n (k + 1) true (ys ++ [n, xs[k]])) := by
            have := HI.out.more hlt hm
            rw [List.append_assoc] at this
            exact this
          have hne : ¬ xs[k] = n := by omega
          go_wp2_with (at_builtin; refine wp_push rfl (.tmp 31) (.tmp 33) rfl rfl hown rfl (by omega) hz ?_)
          intro u1 w1 ho1 hB1 _
          have B1 := hB.trans hB1
          clear hB hB1 hown hc
          have hz1 := B1.size
          obtain ⟨bb', o', e', _, _, hc1⟩ := (hv.keep (Same.of_below B1 hU)).at_ hlt
          cases e'
          have hl1 : (ys ++ [n]).length ≤ 2000002 := by rw [List.length_append]; simp; omega
          go_wp2_with (at_builtin; refine wp_push rfl (.tmp 35) (.tmp 40) rfl rfl ho1 rfl (by omega) hz1 ?_)
          intro u2 w2 ho2 hB2 _
          have HH := Lib.hid (And.intro ho2 (B1.trans hB2))
          clear ho1 ho2 hB2 B1
          go_wp2_with fail
          go_roundw
          case rel => exact ⟨k + 1, true, _, by omega, by go_num, rfl, HN, HH.out.1, HH.out.2⟩
          case measure => simp [intOf]; omega
      · have hm := HI.out.gt ha hlt
        have HN := Lib.hid (HI.out.past hlt)
        have hne : ¬ xs[k] = n := by omega
        go_wp2_with (at_builtin; refine wp_push rfl (.tmp 35) (.tmp 40) rfl rfl hown rfl (by omega) hz ?_)
        intro u1 w1 ho1 hB1 _
        have HH := Lib.hid (And.intro ho1 (hB.trans hB1))
        clear ho1 hB1 hB hown hc
        go_wp2_with fail
        go_roundw
        case rel => exact ⟨k + 1, true, _, by omega, by go_num, rfl, HN, HH.out.1, HH.out.2⟩
        case measure => simp [intOf]; omega
    · rcases b with _ | _
      · have he := HI.out.end_ hlt
        go_wp2_with (at_builtin; refine wp_push rfl (.tmp 44) (.tmp 46) rfl rfl hown rfl (by omega) hz ?_)
        intro u1 w1 ho1 hB1 _
        have HH := Lib.hid (And.intro ho1 (hB.trans hB1))
        clear ho1 hB1 hB hown he
        go_wp2_with fail
        go_ret
        exact ⟨_, rfl, HH.out.2, HH.out.1⟩
      · have he := HI.out.last hlt
        subst he
        go_wp2_with fail
        go_ret
        exact ⟨_, rfl, hB, hown⟩
end Go.Proofs.Ytgbeongiejppnaa

/- Marks in general: what marking turns is numbers; slices stay. Marks on rows of ints. -/
namespace Go.Proofs.Ytgbeongiejppnaa
open Go.RowKit Go.BigFrame
/-- Cells of two rows: slices are the same, numbers are numbers. -/
def Cs (a a' : Array Value) : Prop := a'.size = a.size ∧ (∀ (x : Nat) s n c, a[x]? = some (Value.slice s n c) → a'[x]? = some (Value.slice s n c)) ∧ ∀ (x : Nat) n, a[x]? = some (Value.int .i64 n) → ∃ m, a'[x]? = some (Value.int .i64 m)
theorem Cs.refl (a : Array Value) : Cs a a := ⟨rfl, fun _ _ _ _ h => h, fun _ n h => ⟨n, h⟩⟩
theorem Cs.trans {a b c : Array Value} (h : Cs a b) (k : Cs b c) : Cs a c := by
  refine ⟨k.1.trans h.1, fun x s n c e => k.2.1 x s n c (h.2.1 x s n c e), fun x n e => ?_⟩
  obtain ⟨m, e'⟩ := h.2.2 x n e
  exact k.2.2 x m e'
theorem Cs.set {a : Array Value} {o : Nat} {n m : Int} (h : a[o]? = some (.int .i64 n)) : Cs a (a.setIfInBounds o (.int .i64 m)) := by
  refine ⟨by simp, fun x s n' c e => ?_, fun x n' e => ?_⟩
  · by_cases hx : o = x
    · subst hx; rw [h] at e; cases e
    · rw [Array.getElem?_setIfInBounds_ne hx]; exact e
  · by_cases hx : o = x
    · subst hx
      have : o < a.size := (Array.getElem?_eq_some_iff.1 h).1
      exact ⟨m, by rw [Array.getElem?_setIfInBounds_self, if_pos this]⟩
    · exact ⟨n', by rw [Array.getElem?_setIfInBounds_ne hx]; exact e⟩
/-- What marking turns: numbers in rows between L and U. -/
structure TurnV (L U : Nat) (w w' : World) : Prop where
  os : w'.os = w.os
  tape : w'.tape = w.tape
  output : w'.output = w.output
  size : w'.heap.size = w.heap.size
  block : ∀ b, w'.heap[b]? = w.heap[b]? ∨ (L ≤ b ∧ b < U ∧ ∃ (T : TypeId) (a a' : Array Value), w.heap[b]? = some (.cells a T (0, 0)) ∧ w'.heap[b]? = some (.cells a' T (0, 0)) ∧ Cs a a')
theorem TurnV.refl (L U : Nat) (w : World) : TurnV L U w w := ⟨rfl, rfl, rfl, rfl, fun _ => .inl rfl⟩
theorem TurnV.trans {L U : Nat} {a b c : World} (h : TurnV L U a b) (k : TurnV L U b c) : TurnV L U a c := by
  refine ⟨k.os.trans h.os, k.tape.trans h.tape, k.output.trans h.output, k.size.trans h.size, fun x => ?_⟩
  rcases h.block x with e1 | ⟨l1, l2, T, p, q, e1, e2, s1⟩
  · rcases k.block x with e3 | ⟨l1, l2, T, p, q, e3, e4, s1⟩
    · exact .inl (e3.trans e1)
    · exact .inr ⟨l1, l2, T, p, q, e1.symm.trans e3, e4, s1⟩
  · rcases k.block x with e3 | ⟨_, _, T', p', q', e3, e4, s3⟩
    · exact .inr ⟨l1, l2, T, p, q, e1, e3.trans e2, s1⟩
    · rw [e2] at e3
      injection e3 with e3
      injection e3 with e3 e5 _
      subst e3 e5
      exact .inr ⟨l1, l2, T, p, q', e1, e4, s1.trans s3⟩
theorem TurnV.within {L U : Nat} {w w' : World} (h : TurnV L U w w') : Within L U w w' :=
  ⟨h.os, h.tape, h.output, h.size, fun b hb => by
    rcases h.block b with e | ⟨l1, l2, _⟩
    · exact e
    · omega⟩
theorem TurnV.row {L U g : Nat} {w w' : World} {a : Array Value} {T : TypeId} (t : TurnV L U w w') (h : w.heap[g]? = some (.cells a T (0, 0))) : ∃ a', w'.heap[g]? = some (.cells a' T (0, 0)) ∧ Cs a a' := by
  rcases t.block g with e | ⟨_, _, T', p, q, e1, e2, s⟩
  · exact ⟨a, e.trans h, Cs.refl a⟩
  · rw [h] at e1
    injection e1 with e1
    injection e1 with e1 e5 _
    subst e1 e5
    exact ⟨q, e2, s⟩
theorem TurnV.set {w : World} {L U g o : Nat} {a : Array Value} {T : TypeId} {n m : Int} (h1 : L ≤ g) (h2 : g < U) (h : w.heap[g]? = some (.cells a T (0, 0))) (ho : a[o]? = some (.int .i64 n)) : TurnV L U w (w.setCell ⟨g, o, none⟩ (.int .i64 m)) := by
  refine ⟨rfl, rfl, rfl, by simp, fun b => ?_⟩
  by_cases e : b = g
  · subst e
    exact .inr ⟨h1, h2, T, a, _, h, heap_setCell_same w b o a _ _ h, Cs.set ho⟩
  · exact .inl (heap_setCell_other _ _ _ _ e)
/-- A row of numbers, by its shape. -/
def PI (w : World) (L U : Nat) (v : Value) (n : Nat) : Prop := ∃ (g : Nat) (a : Array Value) (T : TypeId), v = .slice (some ⟨g, 0, none⟩) n n ∧ L ≤ g ∧ g < U ∧ n ≤ maxLen ∧ w.heap[g]? = some (.cells a T (0, 0)) ∧ a.size = n ∧ ∀ x, x < n → ∃ m, a[x]? = some (Value.int .i64 m)
theorem PI.turn {w w' : World} {L U L' U' n : Nat} {v : Value} (h : PI w L U v n) (t : TurnV L' U' w w') : PI w' L U v n := by
  obtain ⟨g, a, T, e, h1, h2, h3, h4, h5, h6⟩ := h
  obtain ⟨a', e', s⟩ := t.row h4
  exact ⟨g, a', T, e, h1, h2, h3, e', s.1.trans h5, fun x hx => by obtain ⟨m, hm⟩ := h6 x hx; exact s.2.2 x m hm⟩
theorem OInts.pi {w : World} {L U : Nat} {v : Value} {xs : List Int} (h : OInts w L U v xs) : PI w L U v xs.length := by
  obtain ⟨g, a, rfl, h1, h2, h3, h4, h5⟩ := h
  have hz : a.size = xs.length := by have := congrArg List.length h5; simpa using this
  refine ⟨g, a, _, rfl, h1, h2, h3, h4, hz, fun x hx => ⟨xs[x], ?_⟩⟩
  rw [← Array.getElem?_toList, h5]; simp [hx]
end Go.Proofs.Ytgbeongiejppnaa

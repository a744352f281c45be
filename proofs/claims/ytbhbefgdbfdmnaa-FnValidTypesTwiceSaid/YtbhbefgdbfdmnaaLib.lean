/- Plain words on memory for the laws of chapter 1: what a slice of ints, of constructors, of declarations reads as. Nothing here speaks of a program. -/
import Derived.WalkKit
import Derived.Below
import Derived.Laws.OwnMore
import Derived.Lib.Hide
import Derived.Deep.Draws
import Derived.Laws.AppendOwn
import Derived.Laws.AppendOwnNone
namespace Go.Proofs.Ytbhbefgdbfdmnaa
open Go.RowKit

/-- The element at a place; 0 beyond the end. -/
def nth (xs : List Int) (i : Nat) : Int := xs.getD i 0
def nthL (xs : List (List Int)) (i : Nat) : List Int := xs.getD i []

theorem nth_of {xs : List Int} {i : Nat} (h : i < xs.length) : nth xs i = xs[i] := by simp [nth, h]
theorem nthL_of {xs : List (List Int)} {i : Nat} (h : i < xs.length) : nthL xs i = xs[i] := by simp [nthL, h]

/-- A declaration as data. -/
structure Dec where
  frm : Int
  to : Int
  cons : List (List Int)

def noDec : Dec := ⟨0, 0, []⟩
def nthD (ds : List Dec) (i : Nat) : Dec := ds.getD i noDec
theorem nthD_of {xs : List Dec} {i : Nat} (h : i < xs.length) : nthD xs i = xs[i] := by simp [nthD, h]

/-- The blocks from L to U hold what they held. -/
def Same (L U : Nat) (w w' : World) : Prop := ∀ g, L ≤ g → g < U → w'.heap[g]? = w.heap[g]?

theorem Same.refl (L U : Nat) (w : World) : Same L U w w := fun _ _ _ => rfl
theorem Same.trans {L U : Nat} {a b c : World} (h : Same L U a b) (k : Same L U b c) : Same L U a c := fun g h1 h2 => (k g h1 h2).trans (h g h1 h2)
theorem Same.of_below {L U B : Nat} {w w' : World} (h : Below B w w') (hB : U ≤ B) : Same L U w w' := fun g _ h2 => h.block g (by omega)
theorem Same.of_grown {L U : Nat} {w w' : World} {row : Option Nat} (h : w.grownBy w' row) (hU : U ≤ w.heap.size) (hr : ∀ k, row = some k → k < L ∨ U ≤ k) : Same L U w w' :=
  fun g h1 h2 => h.block g (by omega) (fun e => by have := hr g e.symm; omega)
theorem Same.cell {L U : Nat} {w w' : World} (h : Same L U w w') {b o : Nat} {s : Option Nat} (h1 : L ≤ b) (h2 : b < U) : w'.cell? ⟨b, o, s⟩ = w.cell? ⟨b, o, s⟩ := World.cell?_of_block (w := w) (h b h1 h2)

/-- n elements of k cells each lie behind A, in a block from L to U. -/
structure Row (w : World) (L U k : Nat) (A : Option Addr) (n c : Nat) (V : Nat → Nat → Value) : Prop where
  le : n ≤ c
  cap : c ≤ maxLen
  nil : A = none → n = 0 ∧ c = 0
  place : 0 < n → ∃ b o, A = some ⟨b, o, none⟩ ∧ L ≤ b ∧ b < U ∧ ∀ i j, i < n → j < k → w.cell? ⟨b, o + i * k + j, none⟩ = some (V i j)

theorem Row.keep {w w' : World} {L U k : Nat} {A : Option Addr} {n c : Nat} {V : Nat → Nat → Value} (h : Row w L U k A n c V) (s : Same L U w w') : Row w' L U k A n c V :=
  ⟨h.le, h.cap, h.nil, fun hn => by
    obtain ⟨b, o, e, h1, h2, hc⟩ := h.place hn
    exact ⟨b, o, e, h1, h2, fun i j hi hj => (s.cell h1 h2).trans (hc i j hi hj)⟩⟩
theorem Row.wide {w : World} {L U L' U' k : Nat} {A : Option Addr} {n c : Nat} {V : Nat → Nat → Value} (h : Row w L U k A n c V) (hL : L' ≤ L) (hU : U ≤ U') : Row w L' U' k A n c V :=
  ⟨h.le, h.cap, h.nil, fun hn => by
    obtain ⟨b, o, e, h1, h2, hc⟩ := h.place hn
    exact ⟨b, o, e, by omega, by omega, hc⟩⟩
/-- The first m elements. -/
theorem Row.short {w : World} {L U k : Nat} {A : Option Addr} {n c m : Nat} {V : Nat → Nat → Value} (h : Row w L U k A n c V) (hm : m ≤ n) : Row w L U k A m c V :=
  ⟨Nat.le_trans hm h.le, h.cap, fun e => ⟨by have := (h.nil e).1; omega, (h.nil e).2⟩, fun hn => by
    obtain ⟨b, o, e, h1, h2, hc⟩ := h.place (by omega)
    exact ⟨b, o, e, h1, h2, fun i j hi hj => hc i j (by omega) hj⟩⟩

/-- A slice of ints. -/
def Ints (w : World) (L U : Nat) (v : Value) (xs : List Int) : Prop := ∃ A c, v = .slice A xs.length c ∧ Row w L U 1 A xs.length c (fun i _ => .int .i64 (nth xs i))
/-- A slice of constructors: each cell is a slice of ints. -/
def Cons (w : World) (L U : Nat) (v : Value) (cs : List (List Int)) : Prop :=
  ∃ (A : Option Addr) (c : Nat) (V : Nat → Value), v = .slice A cs.length c ∧ Row w L U 1 A cs.length c (fun i _ => V i) ∧ ∀ i, i < cs.length → Ints w L U (V i) (nthL cs i)
/-- The three cells of a declaration. -/
def decCell (d : Dec) (v : Value) (j : Nat) : Value := if j = 0 then .int .i64 d.frm else if j = 1 then .int .i64 d.to else v
/-- A slice of declarations. -/
def Decs (w : World) (L U : Nat) (v : Value) (ds : List Dec) : Prop :=
  ∃ (A : Option Addr) (c : Nat) (V : Nat → Value), v = .slice A ds.length c ∧ Row w L U 3 A ds.length c (fun i j => decCell (nthD ds i) (V i) j) ∧ ∀ i, i < ds.length → Cons w L U (V i) (nthD ds i).cons

theorem Ints.keep {w w' : World} {L U : Nat} {v : Value} {xs : List Int} (h : Ints w L U v xs) (s : Same L U w w') : Ints w' L U v xs := by
  obtain ⟨A, c, e, r⟩ := h
  exact ⟨A, c, e, r.keep s⟩
theorem Ints.wide {w : World} {L U L' U' : Nat} {v : Value} {xs : List Int} (h : Ints w L U v xs) (hL : L' ≤ L) (hU : U ≤ U') : Ints w L' U' v xs := by
  obtain ⟨A, c, e, r⟩ := h
  exact ⟨A, c, e, r.wide hL hU⟩
theorem Cons.keep {w w' : World} {L U : Nat} {v : Value} {cs : List (List Int)} (h : Cons w L U v cs) (s : Same L U w w') : Cons w' L U v cs := by
  obtain ⟨A, c, V, e, r, hi⟩ := h
  exact ⟨A, c, V, e, r.keep s, fun i hl => (hi i hl).keep s⟩
theorem Cons.wide {w : World} {L U L' U' : Nat} {v : Value} {cs : List (List Int)} (h : Cons w L U v cs) (hL : L' ≤ L) (hU : U ≤ U') : Cons w L' U' v cs := by
  obtain ⟨A, c, V, e, r, hi⟩ := h
  exact ⟨A, c, V, e, r.wide hL hU, fun i hl => (hi i hl).wide hL hU⟩
theorem Decs.keep {w w' : World} {L U : Nat} {v : Value} {ds : List Dec} (h : Decs w L U v ds) (s : Same L U w w') : Decs w' L U v ds := by
  obtain ⟨A, c, V, e, r, hi⟩ := h
  exact ⟨A, c, V, e, r.keep s, fun i hl => (hi i hl).keep s⟩
theorem Decs.wide {w : World} {L U L' U' : Nat} {v : Value} {ds : List Dec} (h : Decs w L U v ds) (hL : L' ≤ L) (hU : U ≤ U') : Decs w L' U' v ds := by
  obtain ⟨A, c, V, e, r, hi⟩ := h
  exact ⟨A, c, V, e, r.wide hL hU, fun i hl => (hi i hl).wide hL hU⟩

/-- What a walk is told of a slice: its form; then, element by element, its cells. -/
theorem Ints.open_ {w : World} {L U : Nat} {v : Value} {xs : List Int} (h : Ints w L U v xs) : ∃ A c, v = .slice A xs.length c ∧ xs.length ≤ c ∧ c ≤ 9223372036854775807 := by
  obtain ⟨A, c, e, r⟩ := h
  exact ⟨A, c, e, r.le, r.cap⟩
theorem Ints.at_ {w : World} {L U : Nat} {A : Option Addr} {n c k : Nat} {xs : List Int} (h : Ints w L U (.slice A n c) xs) (hk : k < xs.length) :
    ∃ b o, A = some ⟨b, o, none⟩ ∧ L ≤ b ∧ b < U ∧ w.cell? ⟨b, o + k, none⟩ = some (.int .i64 xs[k]) := by
  obtain ⟨A, c, e, r⟩ := h
  injection e with e1 e2 e3
  subst e1
  obtain ⟨b, o, e, h1, h2, hc⟩ := r.place (by omega)
  refine ⟨b, o, e, h1, h2, ?_⟩
  have := hc k 0 hk (by omega)
  rwa [Nat.mul_one, Nat.add_zero, nth_of hk] at this
theorem Cons.open_ {w : World} {L U : Nat} {v : Value} {cs : List (List Int)} (h : Cons w L U v cs) : ∃ A c, v = .slice A cs.length c ∧ cs.length ≤ c ∧ c ≤ 9223372036854775807 := by
  obtain ⟨A, c, V, e, r, hi⟩ := h
  exact ⟨A, c, e, r.le, r.cap⟩
theorem Cons.at_ {w : World} {L U : Nat} {A : Option Addr} {n c k : Nat} {cs : List (List Int)} (h : Cons w L U (.slice A n c) cs) (hk : k < cs.length) :
    ∃ b o A' c', A = some ⟨b, o, none⟩ ∧ L ≤ b ∧ b < U ∧ w.cell? ⟨b, o + k, none⟩ = some (.slice A' (cs[k]).length c') ∧ Ints w L U (.slice A' (cs[k]).length c') cs[k] := by
  obtain ⟨A, c, V, e, r, hi⟩ := h
  injection e with e1 e2 e3
  subst e1
  obtain ⟨b, o, e, h1, h2, hc⟩ := r.place (by omega)
  have hu := hi k hk
  rw [nthL_of hk] at hu
  obtain ⟨A', c', e', _⟩ := hu.open_
  have hc' := hc k 0 hk (by omega)
  rw [Nat.mul_one, Nat.add_zero] at hc'
  rw [e'] at hc' hu
  exact ⟨b, o, A', c', e, h1, h2, hc', hu⟩
theorem Decs.open_ {w : World} {L U : Nat} {v : Value} {ds : List Dec} (h : Decs w L U v ds) : ∃ A c, v = .slice A ds.length c ∧ ds.length ≤ c ∧ c ≤ 9223372036854775807 := by
  obtain ⟨A, c, V, e, r, hi⟩ := h
  exact ⟨A, c, e, r.le, r.cap⟩
theorem Decs.at_ {w : World} {L U : Nat} {A : Option Addr} {n c k : Nat} {ds : List Dec} (h : Decs w L U (.slice A n c) ds) (hk : k < ds.length) :
    ∃ b o A' c', A = some ⟨b, o, none⟩ ∧ L ≤ b ∧ b < U ∧ w.cell? ⟨b, o + k * 3, none⟩ = some (.int .i64 (nthD ds k).frm) ∧ w.cell? ⟨b, o + k * 3 + 1, none⟩ = some (.int .i64 (nthD ds k).to) ∧
      w.cell? ⟨b, o + k * 3 + 2, none⟩ = some (.slice A' (nthD ds k).cons.length c') ∧ Cons w L U (.slice A' (nthD ds k).cons.length c') (nthD ds k).cons := by
  obtain ⟨A, c, V, e, r, hi⟩ := h
  injection e with e1 e2 e3
  subst e1
  obtain ⟨b, o, e, h1, h2, hc⟩ := r.place (by omega)
  have hu := hi k hk
  obtain ⟨A', c', e', _⟩ := hu.open_
  have h2' : w.cell? ⟨b, o + k * 3 + 2, none⟩ = some (V k) := hc k 2 hk (by omega)
  rw [e'] at h2' hu
  exact ⟨b, o, A', c', e, h1, h2, hc k 0 hk (by omega), hc k 1 hk (by omega), h2', hu⟩

/-- The end of a walk: nothing below has turned. -/
theorem ret_bool {a b : Bool} (h : a = b) : Ending.returned (.bool a) = .returned (.bool b) := by rw [h]
theorem ret_int {a b : Int} (h : a = b) : Ending.returned (.int .i64 a) = .returned (.int .i64 b) := by rw [h]
/-! Rows that the call itself owns, and appends onto them -/
def cellsOf (k m : Nat) (V : Nat → Nat → Value) : List Value := (List.range (m * k)).map fun x => V (x / k) (x % k)
theorem length_cellsOf (k m : Nat) (V : Nat → Nat → Value) : (cellsOf k m V).length = m * k := by simp [cellsOf]
theorem cellsOf_at {k m i j : Nat} (V : Nat → Nat → Value) (hi : i < m) (hj : j < k) : (cellsOf k m V)[i * k + j]? = some (V i j) := by
  have hlt : i * k + j < m * k := by
    have : (i + 1) * k ≤ m * k := Nat.mul_le_mul_right k hi
    rw [Nat.add_mul] at this; omega
  have e1 : (i * k + j) / k = i := by
    rw [Nat.mul_comm, Nat.mul_add_div (by omega), Nat.div_eq_of_lt hj, Nat.add_zero]
  have e2 : (i * k + j) % k = j := by
    rw [Nat.mul_comm, Nat.mul_add_mod, Nat.mod_eq_of_lt hj]
  unfold cellsOf
  rw [List.getElem?_map, List.getElem?_range hlt]
  simp [e1, e2]
theorem cellsOf_parts {k m x : Nat} (V : Nat → Nat → Value) {u : Value} (h : (cellsOf k m V)[x]? = some u) : x / k < m ∧ x % k < k ∧ V (x / k) (x % k) = u := by
  have hx : x < m * k := by
    have := (List.getElem?_eq_some_iff.1 h).1
    rwa [length_cellsOf] at this
  have hk : 0 < k := by rcases Nat.eq_zero_or_pos k with e | e
                        · subst e; omega
                        · exact e
  unfold cellsOf at h
  rw [List.getElem?_map, List.getElem?_range hx] at h
  exact ⟨Nat.div_lt_of_lt_mul (by rwa [Nat.mul_comm]), Nat.mod_lt _ hk, by simpa using h⟩
theorem cellsOf_ints (xs : List Int) : cellsOf 1 xs.length (fun i _ => .int .i64 (nth xs i)) = xs.map (Value.int .i64) := by
  apply List.ext_getElem?
  intro j
  by_cases hj : j < xs.length
  · have := cellsOf_at (k := 1) (m := xs.length) (i := j) (j := 0) (fun i _ => Value.int .i64 (nth xs i)) hj (by omega)
    rw [Nat.mul_one, Nat.add_zero] at this
    rw [this, nth_of hj]; simp [hj]
  · rw [List.getElem?_eq_none (by rw [length_cellsOf]; omega), List.getElem?_eq_none (by simp; omega)]

theorem cells_push {k n : Nat} (V W : Nat → Nat → Value) (news : List Value) (hk : 0 < k) (hn : news.length = k) (h1 : ∀ i j, i < n → j < k → W i j = V i j) (h2 : ∀ j, j < k → news[j]? = some (W n j)) : cellsOf k n V ++ news = cellsOf k (n + 1) W := by
  apply List.ext_getElem?
  intro x
  by_cases hx : x < n * k
  · have e : x / k * k + x % k = x := by rw [Nat.mul_comm, Nat.div_add_mod]
    have l1 : x / k < n := Nat.div_lt_of_lt_mul (by rwa [Nat.mul_comm] at hx)
    have l2 : x % k < k := Nat.mod_lt _ hk
    rw [List.getElem?_append_left (by rw [length_cellsOf]; exact hx), ← e, cellsOf_at V l1 l2, cellsOf_at W (Nat.lt_succ_of_lt l1) l2, h1 _ _ l1 l2]
  · rw [List.getElem?_append_right (by rw [length_cellsOf]; omega), length_cellsOf]
    by_cases hy : x - n * k < k
    · rw [h2 _ hy]
      have := cellsOf_at (k := k) (m := n + 1) (i := n) (j := x - n * k) W (by omega) hy
      rw [show n * k + (x - n * k) = x by omega] at this
      rw [this]
    · rw [List.getElem?_eq_none (by omega), List.getElem?_eq_none (by rw [length_cellsOf, Nat.add_mul]; omega)]
/-- What the call owns reads as a row. -/
theorem row_of_own {w : World} {base k n : Nat} {e : TypeId} {v : Value} {V : Nat → Nat → Value} (h : w.ownsRow base e k v n (cellsOf k n V)) : ∃ A c, v = .slice A n c ∧ Row w base w.heap.size k A n c V := by
  rcases h.2 with ⟨rfl, rfl⟩ | ⟨g, cap, cur, rfl, hb, hg, hnc, hcm, hcs, htake⟩
  · exact ⟨none, 0, rfl, Nat.le_refl _, by simp [maxLen], fun _ => ⟨rfl, rfl⟩, fun h => absurd h (by omega)⟩
  · refine ⟨_, cap, rfl, hnc, hcm, (fun e => by cases e), fun hn => ⟨g, 0, rfl, hb, ?_, fun i j hi hj => ?_⟩⟩
    · exact (Array.getElem?_eq_some_iff.1 hg).1
    · have hlt : i * k + j < n * k := by
        have : (i + 1) * k ≤ n * k := Nat.mul_le_mul_right k hi
        rw [Nat.add_mul] at this; omega
      rw [Nat.zero_add, h.cellAt (i * k + j) hlt, cellsOf_at V hi hj]
theorem ints_of_own {w : World} {base n : Nat} {e : TypeId} {v : Value} {xs : List Int} (h : w.ownsRow base e 1 v n (xs.map (Value.int .i64))) : Ints w base w.heap.size v xs := by
  have hn : n = xs.length := by have := h.1; simp at this; exact this.symm
  subst hn
  rw [← cellsOf_ints] at h
  exact row_of_own h
theorem Below.own {w w' wr : World} {B base n k : Nat} {e : TypeId} {v : Value} {xs : List Value} (hB : Below B w wr) (hown : wr.ownsRow base e k v n xs) (hg : wr.grownBy w' v.ownBlock) (h1 : B ≤ base) (h2 : B ≤ wr.heap.size) : Below B w w' :=
  hB.grown hg h2 fun g e => by have := (hown.lt g e).1; omega

/-- append of a row that lies anywhere, nil or not, onto a row of the call's own. -/
theorem wpList_append_row {P : Program} {w : World} {ops : Array Oper} {rest : List Oper} {o : Oper} {a : Act} {Q : Exit → Act → World → Prop} (hgd : o.guard = none) (s x : Operand) (t : TypeId)
    (ho : o.op = .call { callee := .builtin .append, args := #[s, x], argTypes := #[t, t] })
    (base : Nat) (e : TypeId) (i : TypeInfo) (z : Value) (k bytes : Nat) (ht : P.underlying t = some (.slice e)) (hi : P.info? e = some i) (hz : i.zero = some z)
    (hsize : i.size = k) (hby : i.bytes = bytes) (hzs : z.cells.size = k) (hsz : 0 < k)
    (v : Value) (n : Nat) (xs : List Value) (hs : a.eval s = v) (hown : w.ownsRow base e k v n xs)
    (L U : Nat) (A : Option Addr) (m c : Nat) (V : Nat → Nat → Value) (hx : a.eval x = .slice A m c) (hr : Row w L U k A m c V) (h1 : ∀ i j, i < m → j < k → (V i j).oneCell' = true)
    (h63 : n + m ≤ maxLen) (hbytes : (n + m) * bytes ≤ 140737488355328) (hbase : base ≤ w.heap.size)
    (h : ∀ v' w', w'.ownsRow base e k v' (n + m) (xs ++ cellsOf k m V) → w.grownBy w' v.ownBlock → wpList P ops Q rest (a.put o.dst v') w') : wpList P ops Q (o :: rest) a w := by
  rcases A with _ | ad
  · obtain ⟨rfl, rfl⟩ := hr.nil rfl
    refine wpList_append_own_none hgd s x t ho base e i k ht hi v n xs hs hown hx ?_
    refine h v w ?_ (World.grownBy.refl w _)
    have : cellsOf k 0 V = [] := List.eq_nil_of_length_eq_zero (by rw [length_cellsOf]; omega)
    rw [this, List.append_nil, Nat.add_zero]; exact hown
  · refine wpList_append_own w hgd s x t ho base e i z k bytes ht hi hz hsize hby hzs hsz v n xs hs hown ad m c (cellsOf k m V) hx (length_cellsOf k m V) ?_ ?_ h63 hbytes hbase (fun v' w' h2 h3 _ => h v' w' h2 h3)
    · intro j u hu
      obtain ⟨p1, p2, p3⟩ := cellsOf_parts V hu
      obtain ⟨b, o', e', _, _, hc⟩ := hr.place (Nat.lt_of_le_of_lt (Nat.zero_le _) p1)
      injection e' with e'
      subst e'
      have := hc (j / k) (j % k) p1 p2
      rw [p3, Nat.add_assoc, Nat.mul_comm, Nat.div_add_mod] at this
      unfold Addr.add
      by_cases hj : j = 0
      · subst hj; rw [if_pos rfl]; simpa using this
      · rw [if_neg hj]; exact this
    · intro u hu
      obtain ⟨j, hj⟩ := List.getElem?_of_mem hu
      obtain ⟨p1, p2, p3⟩ := cellsOf_parts V hj
      rw [← p3]; exact h1 _ _ p1 p2

/-! Searches over lists, by the number of rounds done -/
theorem all_take_succ {α : Type} (p : α → Bool) (xs : List α) (k : Nat) (h : k < xs.length) : (xs.take (k + 1)).all p = ((xs.take k).all p && p xs[k]) := by
  rw [List.take_succ_eq_append_getElem h, List.all_append]; simp
theorem all_step {α : Type} {p : α → Bool} {xs : List α} {k : Nat} (H : Hid ((xs.take k).all p = true)) (h : k < xs.length) (hp : p xs[k] = true) : Hid ((xs.take (k + 1)).all p = true) := by
  show _ = _; rw [all_take_succ p xs k h, H.out, hp]; rfl
theorem all_stop {α : Type} {p : α → Bool} {xs : List α} {k : Nat} (h : k < xs.length) (hp : p xs[k] = false) : xs.all p = false := by
  rw [List.all_eq_false]; exact ⟨xs[k], List.getElem_mem h, by simp [hp]⟩
theorem all_done {α : Type} {p : α → Bool} {xs : List α} {k : Nat} (H : Hid ((xs.take k).all p = true)) (h : ¬ k < xs.length) : xs.all p = true := by
  have := H.out; rwa [List.take_of_length_le (by omega)] at this
theorem any_take_succ {α : Type} (p : α → Bool) (xs : List α) (k : Nat) (h : k < xs.length) : (xs.take (k + 1)).any p = ((xs.take k).any p || p xs[k]) := by
  rw [List.take_succ_eq_append_getElem h, List.any_append]; simp
theorem any_step {α : Type} {p : α → Bool} {xs : List α} {k : Nat} (H : Hid ((xs.take k).any p = false)) (h : k < xs.length) (hp : p xs[k] = false) : Hid ((xs.take (k + 1)).any p = false) := by
  show _ = _; rw [any_take_succ p xs k h, H.out, hp]; rfl
theorem any_stop {α : Type} {p : α → Bool} {xs : List α} {k : Nat} (h : k < xs.length) (hp : p xs[k] = true) : xs.any p = true := by
  rw [List.any_eq_true]; exact ⟨xs[k], List.getElem_mem h, hp⟩
theorem any_done {α : Type} {p : α → Bool} {xs : List α} {k : Nat} (H : Hid ((xs.take k).any p = false)) (h : ¬ k < xs.length) : xs.any p = false := by
  have := H.out; rwa [List.take_of_length_le (by omega)] at this
theorem below_drewN {B : Nat} {a w : World} (h : Below B a w) (n : Nat) : Below B a (w.drewN n) := ⟨h.os, h.tape, h.output, h.size, h.block⟩
theorem not_true {b : Bool} (h : (!b) = true) : b = false := by simpa using h
theorem not_false {b : Bool} (h : (!b) = false) : b = true := by simpa using h
end Go.Proofs.Ytbhbefgdbfdmnaa

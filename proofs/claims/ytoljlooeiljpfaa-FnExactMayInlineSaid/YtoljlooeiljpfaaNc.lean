/- What a value in memory reads as, the stable part of memory, and how memory may go on. -/
import Derived.Below
import Derived.ArgAppend
import Derived.Laws.MakeOwn
import Derived.Laws.Rows
import Derived.Lib.Hide
import Derived.Test.YtoljlooeiljpfaaNb
namespace Go.Proofs.Ytoljlooeiljpfaa
open Go Go.RowKit

/-- Value v reads as c; each cell that is read lies in the stable part p of its block. -/
inductive Rep (p : Nat → Nat) (w : World) : Value → AC → Prop
  | int (n : Int) : Rep p w (.int .i64 n) (.int n)
  | bool (b : Bool) : Rep p w (.bool b) (.bool b)
  | nil (a : Option Addr) (k : Nat) : Rep p w (.slice a 0 0) (.sl k [])
  | sl (b o cap k : Nat) (rows : List (List AC)) (f : Nat → Nat → Value) (hk : 0 < k) (hrows : ∀ r ∈ rows, r.length = k) (hb : b < w.heap.size)
      (hp : o + rows.length * k ≤ p b) (hcap : rows.length ≤ cap)
      (hc : ∀ i j c, (rows.getD i [])[j]? = some c → w.cell? ⟨b, o + i * k + j, none⟩ = some (f i j))
      (hr : ∀ i j c, (rows.getD i [])[j]? = some c → Rep p w (f i j) c) : Rep p w (.slice (some ⟨b, o, none⟩) rows.length cap) (.sl k rows)

/-- Memory has gone on: blocks outside of B are as they were; inside, the stable cells are. -/
structure Evo (B : Nat → Prop) (p : Nat → Nat) (w : World) (p' : Nat → Nat) (w' : World) : Prop where
  os : w'.os = w.os
  tape : w'.tape = w.tape
  output : w'.output = w.output
  size : w.heap.size ≤ w'.heap.size
  block : ∀ b, b < w.heap.size → ¬ B b → w'.heap[b]? = w.heap[b]?
  keepP : ∀ b, b < w.heap.size → p b ≤ p' b
  same : ∀ b, b < w.heap.size → ¬ B b → p' b = p b
  stable : ∀ b o, b < w.heap.size → o < p b → w'.cell? ⟨b, o, none⟩ = w.cell? ⟨b, o, none⟩

theorem Evo.refl (B : Nat → Prop) (p : Nat → Nat) (w : World) : Evo B p w p w := ⟨rfl, rfl, rfl, Nat.le_refl _, fun _ _ _ => rfl, fun _ _ => Nat.le_refl _, fun _ _ _ => rfl, fun _ _ _ _ => rfl⟩
theorem Evo.trans {B B' C : Nat → Prop} {p p' p'' : Nat → Nat} {w w' w'' : World} (h : Evo B p w p' w') (k : Evo B' p' w' p'' w'')
    (h1 : ∀ b, b < w.heap.size → B b → C b) (h2 : ∀ b, b < w.heap.size → B' b → C b) : Evo C p w p'' w'' :=
  ⟨k.os.trans h.os, k.tape.trans h.tape, k.output.trans h.output, Nat.le_trans h.size k.size,
    fun b hb hC => (k.block b (Nat.lt_of_lt_of_le hb h.size) (fun e => hC (h2 b hb e))).trans (h.block b hb (fun e => hC (h1 b hb e))),
    fun b hb => Nat.le_trans (h.keepP b hb) (k.keepP b (Nat.lt_of_lt_of_le hb h.size)),
    fun b hb hC => (k.same b (Nat.lt_of_lt_of_le hb h.size) (fun e => hC (h2 b hb e))).trans (h.same b hb (fun e => hC (h1 b hb e))),
    fun b o hb ho => (k.stable b o (Nat.lt_of_lt_of_le hb h.size) (Nat.lt_of_lt_of_le ho (h.keepP b hb))).trans (h.stable b o hb ho)⟩
theorem Evo.weaken {B C : Nat → Prop} {p p' : Nat → Nat} {w w' : World} (h : Evo B p w p' w') (h1 : ∀ b, b < w.heap.size → B b → C b) : Evo C p w p' w' :=
  ⟨h.os, h.tape, h.output, h.size, fun b hb hC => h.block b hb (fun e => hC (h1 b hb e)), h.keepP, fun b hb hC => h.same b hb (fun e => hC (h1 b hb e)), h.stable⟩
theorem Evo.drew {B : Nat → Prop} {p p' : Nat → Nat} {w w' : World} (h : Evo B p w p' w') : Evo B p w p' w'.drew :=
  ⟨h.os, h.tape, h.output, h.size, h.block, h.keepP, h.same, h.stable⟩

theorem Rep.evo {B : Nat → Prop} {p p' : Nat → Nat} {w w' : World} (h : Evo B p w p' w') {v : Value} {c : AC} (hr : Rep p w v c) : Rep p' w' v c := by
  induction hr with
  | int n => exact .int n
  | bool b => exact .bool b
  | nil a k => exact .nil a k
  | sl b o cap k rows f hk hrows hb hp hcap hc _ ih =>
    refine .sl b o cap k rows f hk hrows (Nat.lt_of_lt_of_le hb h.size) (Nat.le_trans hp (h.keepP b hb)) hcap (fun i j c hx => ?_) ih
    rw [h.stable b _ hb ?_]
    · exact hc i j c hx
    · have hi : i < rows.length := by
        rcases Nat.lt_or_ge i rows.length with hi | hi
        · exact hi
        · simp [List.getD, List.getElem?_eq_none hi] at hx
      have hj : j < k := by
        have hm : rows.getD i [] ∈ rows := by simp [List.getD, List.getElem?_eq_getElem hi]
        rw [← hrows _ hm]
        exact (List.getElem?_eq_some_iff.1 hx).1
      have : i * k + k ≤ rows.length * k := by rw [← Nat.succ_mul]; exact Nat.mul_le_mul_right _ hi
      omega

/-- Values, one by one. -/
def RepL (p : Nat → Nat) (w : World) : List Value → List AC → Prop
  | [], [] => True
  | v :: vs, c :: cs => Rep p w v c ∧ RepL p w vs cs
  | _, _ => False
theorem RepL.evo {B : Nat → Prop} {p p' : Nat → Nat} {w w' : World} (h : Evo B p w p' w') : ∀ {vs : List Value} {cs : List AC}, RepL p w vs cs → RepL p' w' vs cs
  | [], [], _ => trivial
  | _ :: _, _ :: _, ⟨a, b⟩ => ⟨a.evo h, RepL.evo h b⟩
theorem RepL.length {p : Nat → Nat} {w : World} : ∀ {vs : List Value} {cs : List AC}, RepL p w vs cs → vs.length = cs.length
  | [], [], _ => rfl
  | _ :: _, _ :: _, ⟨_, b⟩ => by simp [RepL.length b]
theorem RepL.get {p : Nat → Nat} {w : World} : ∀ {vs : List Value} {cs : List AC}, RepL p w vs cs → ∀ {j : Nat} {c : AC}, cs[j]? = some c → ∃ v, vs[j]? = some v ∧ Rep p w v c
  | [], [], _, j, c, h => by simp at h
  | v :: _, _ :: _, ⟨a, _⟩, 0, c, h => by simp at h; subst h; exact ⟨v, rfl, a⟩
  | _ :: _, _ :: _, ⟨_, b⟩, j + 1, c, h => by simpa using RepL.get b (by simpa using h)
theorem RepL.of {p : Nat → Nat} {w : World} : ∀ {vs : List Value} {cs : List AC}, vs.length = cs.length → (∀ (j : Nat) (v : Value) (c : AC), vs[j]? = some v → cs[j]? = some c → Rep p w v c) → RepL p w vs cs
  | [], [], _, _ => trivial
  | v :: vs, c :: cs, hl, h => ⟨h 0 v c rfl rfl, RepL.of (by simpa using hl) fun j v c hv hc => h (j + 1) v c (by simpa using hv) (by simpa using hc)⟩
theorem RepL.take {p : Nat → Nat} {w : World} : ∀ {vs : List Value} {cs : List AC} (n : Nat), RepL p w vs cs → RepL p w (vs.take n) (cs.take n)
  | _, _, 0, _ => by simp [RepL]
  | [], [], n + 1, h => h
  | _ :: _, _ :: _, n + 1, ⟨a, b⟩ => ⟨a, RepL.take n b⟩
theorem RepL.drop {p : Nat → Nat} {w : World} : ∀ {vs : List Value} {cs : List AC} (n : Nat), RepL p w vs cs → RepL p w (vs.drop n) (cs.drop n)
  | _, _, 0, h => by simpa using h
  | [], [], n + 1, h => h
  | _ :: _, _ :: _, n + 1, ⟨_, b⟩ => by simpa using RepL.drop n b
theorem RepL.append {p : Nat → Nat} {w : World} : ∀ {vs us : List Value} {cs ds : List AC}, RepL p w vs cs → RepL p w us ds → RepL p w (vs ++ us) (cs ++ ds)
  | [], _, [], _, _, h => h
  | _ :: _, _, _ :: _, _, ⟨a, b⟩, h => ⟨a, RepL.append b h⟩
theorem RepL.set {p : Nat → Nat} {w : World} {v : Value} {c : AC} (hv : Rep p w v c) : ∀ {vs : List Value} {cs : List AC} (j : Nat), RepL p w vs cs → RepL p w (vs.set j v) (cs.set j c)
  | [], [], _, h => h
  | _ :: _, _ :: _, 0, ⟨_, b⟩ => ⟨hv, b⟩
  | _ :: _, _ :: _, j + 1, ⟨a, b⟩ => ⟨a, RepL.set hv j b⟩

def RepS (p : Nat → Nat) (w : World) (v : Value) : SV → Prop
  | .cell c => Rep p w v c
  | .agg cs => ∃ a, v = .agg a ∧ RepL p w a.toList cs
theorem RepS.evo {B : Nat → Prop} {p p' : Nat → Nat} {w w' : World} (h : Evo B p w p' w') {v : Value} : ∀ {x : SV}, RepS p w v x → RepS p' w' v x
  | .cell _, hr => Rep.evo h hr
  | .agg _, ⟨a, e, hr⟩ => ⟨a, e, hr.evo h⟩
theorem Rep.cells {p : Nat → Nat} {w : World} {v : Value} {c : AC} (h : Rep p w v c) : v.cells = #[v] := by cases h <;> rfl
theorem Rep.oneCell {p : Nat → Nat} {w : World} {v : Value} {c : AC} (h : Rep p w v c) : v.oneCell' = true := by cases h <;> rfl
theorem RepL.oneCell {p : Nat → Nat} {w : World} : ∀ {vs : List Value} {cs : List AC}, RepL p w vs cs → ∀ u ∈ vs, u.oneCell' = true
  | [], [], _, _, h => by cases h
  | _ :: _, _ :: _, ⟨a, b⟩, u, h => by
    rcases List.mem_cons.1 h with rfl | h
    · exact a.oneCell
    · exact RepL.oneCell b u h
theorem RepS.cells {p : Nat → Nat} {w : World} {v : Value} {x : SV} (h : RepS p w v x) : RepL p w v.cells.toList x.cells := by
  cases x with
  | cell c => rw [Rep.cells h]; exact ⟨h, trivial⟩
  | agg cs => obtain ⟨a, rfl, h⟩ := h; exact h
def RepSs (p : Nat → Nat) (w : World) : List Value → List SV → Prop
  | [], [] => True
  | v :: vs, c :: cs => RepS p w v c ∧ RepSs p w vs cs
  | _, _ => False
theorem RepSs.evo {B : Nat → Prop} {p p' : Nat → Nat} {w w' : World} (h : Evo B p w p' w') : ∀ {vs : List Value} {cs : List SV}, RepSs p w vs cs → RepSs p' w' vs cs
  | [], [], _ => trivial
  | _ :: _, _ :: _, ⟨a, b⟩ => ⟨a.evo h, RepSs.evo h b⟩
theorem RepSs.length {p : Nat → Nat} {w : World} : ∀ {vs : List Value} {cs : List SV}, RepSs p w vs cs → vs.length = cs.length
  | [], [], _ => rfl
  | _ :: _, _ :: _, ⟨_, b⟩ => by simp [RepSs.length b]
theorem RepSs.get {p : Nat → Nat} {w : World} : ∀ {vs : List Value} {cs : List SV}, RepSs p w vs cs → ∀ {j : Nat} {c : SV}, cs[j]? = some c → ∃ v, vs[j]? = some v ∧ RepS p w v c
  | [], [], _, j, c, h => by simp at h
  | v :: _, _ :: _, ⟨a, _⟩, 0, c, h => by simp at h; subst h; exact ⟨v, rfl, a⟩
  | _ :: _, _ :: _, ⟨_, b⟩, j + 1, c, h => by simpa using RepSs.get b (by simpa using h)

/-- A slot reads as x (a box: its block holds cells that read so). -/
def SR (p : Nat → Nat) (w : World) (v : Value) : AV → Prop
  | .und => ∀ b, v ≠ .bool b
  | .v x => RepS p w v x
  | .tup xs => ∃ a, v = .tuple a ∧ RepSs p w a.toList xs
  | .box cs => ∃ b a T, v = .pointer (some ⟨b, 0, none⟩) ∧ w.heap[b]? = some (.cells a T (0, 0)) ∧ RepL p w a.toList cs
  | .arr k rows => 0 < k ∧ (∀ r ∈ rows, r.length = k) ∧ ((v = .slice none 0 0 ∧ rows = []) ∨ ∃ b o cap a T us, v = .slice (some ⟨b, o, none⟩) rows.length cap ∧ (rows.length ≤ cap ∧ o + cap * k ≤ a.size) ∧ w.heap[b]? = some (.cells a T (0, 0)) ∧
      us.length = rows.length * k ∧ RepL p w us rows.flatten ∧ ∀ (j : Nat) (u : Value), us[j]? = some u → a[o + j]? = some u)
  | .al _ => ∃ a l c, v = .slice a l c
/-- The block of a box, or of a row that is written. -/
def blkOf : Value → Option Nat
  | .slice (some a) _ _ => some a.block
  | _ => none
theorem SR.evo {B : Nat → Prop} {p p' : Nat → Nat} {w w' : World} (h : Evo B p w p' w') {v : Value} : ∀ {x : AV}, (∀ cs, x = .box cs → ∀ b, v = .pointer (some ⟨b, 0, none⟩) → ¬ B b) → (∀ k r, x = .arr k r → ∀ b, blkOf v = some b → ¬ B b) → SR p w v x → SR p' w' v x
  | .und, _, _, h => h
  | .al _, _, _, h => h
  | .v _, _, _, hr => RepS.evo h hr
  | .tup _, _, _, ⟨a, e, hr⟩ => ⟨a, e, hr.evo h⟩
  | .arr _ _, _, hA, ⟨hk, hl, hr⟩ => ⟨hk, hl, by
      rcases hr with hr | ⟨b, o, cap, a, T, us, e, hc, hh, h1, h2, h3⟩
      · exact .inl hr
      · have hlt : b < w.heap.size := by
          rcases Nat.lt_or_ge b w.heap.size with hlt | hge
          · exact hlt
          · rw [Array.getElem?_eq_none hge] at hh; cases hh
        exact .inr ⟨b, o, cap, a, T, us, e, hc, by rw [h.block b hlt (hA _ _ rfl b (by rw [e]; rfl))]; exact hh, h1, h2.evo h, h3⟩⟩
  | .box _, hB, _, ⟨b, a, T, e, hh, hr⟩ => ⟨b, a, T, e, by
      have hlt : b < w.heap.size := by
        rcases Nat.lt_or_ge b w.heap.size with hlt | hge
        · exact hlt
        · rw [Array.getElem?_eq_none hge] at hh; cases hh
      rw [h.block b hlt (hB _ rfl b e)]; exact hh, hr.evo h⟩
end Go.Proofs.Ytoljlooeiljpfaa

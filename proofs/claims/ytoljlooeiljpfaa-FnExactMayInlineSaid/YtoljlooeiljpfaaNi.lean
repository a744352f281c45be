/- Which room an operation uses up, makes, or hands on. -/
import Derived.Test.YtoljlooeiljpfaaNh
namespace Go.Proofs.Ytoljlooeiljpfaa
open Go Go.RowKit

/-- What a function may do with its parameters' room (the cell's size for each that it uses up), and which of its results' cells have room of their own (cell, size). -/
structure Sg where
  takes : List (Option Nat)
  gives : List (Nat × Nat)
abbrev Sig := List (Nat × Sg)
def Sig.sg (S : Sig) (f : Nat) : Sg := (S.lookup f).getD ⟨[], []⟩

/-- A cell of what a slot holds (a box's cells lie in memory). -/
def cellOf (w : World) (v : Value) (n : Nat) : Option Value :=
  match v with
  | .pointer (some ⟨b, 0, none⟩) => w.cell? ⟨b, n, none⟩
  | .tuple vs => (vs[n / 64]?).bind fun u => u.cells[n % 64]?
  | v => v.cells[n]?

abbrev SPe := List (Nat × Option (Nat × Nat))
/-- Where a pointer leads, if to a box. -/
def ptrS (q : SPe) : Operand → Option (Nat × Nat)
  | .tmp i => match q.lookup i with
    | none => some (i, 0)
    | some r => r
  | _ => none
/-- The operands whose room is used up. -/
def eats (L : Lay) (S : Sig) (o : Oper) : List (Operand × Nat) :=
  match o.op with
  | .call { callee := .builtin .append, args, argTypes } => match args.toList, L.el (argTypes.getD 0 0) with
    | [x, _], some e => [(x, e.size)]
    | _, _ => []
  | .call { callee := .value (.func f), args, .. } => (args.toList.zip (S.sg f).takes).filterMap fun xk => xk.2.map fun k => (xk.1, k)
  | _ => []
def nilsOf : Nat → List AC → List (Nat × Nat)
  | _, [] => []
  | n, .sl k [] :: r => (n, k) :: nilsOf (n + 1) r
  | n, _ :: r => nilsOf (n + 1) r
/-- Where the cells of a built struct come from. -/
def builtFrom (i : TI) (n : Nat) : List (Nat × Operand) → Option (Option (Nat × Nat))
  | [] => none
  | (f, x) :: rest =>
    match builtFrom i n rest with
    | some r => some r
    | none => match i.fields[f]? with
      | some (off, sz) => if off ≤ n ∧ n < off + sz then (match x with | .tmp t => some (some (t, n - off)) | _ => some none) else none
      | none => none
/-- The cells with new room. -/
def fresh (L : Lay) (S : Sig) (o : Oper) : List (Nat × Nat) :=
  match o.op with
  | .move (.const (.slice none 0 0)) | .assign (.const (.slice none 0 0)) => match L.el o.type with
    | some e => [(0, e.size)]
    | none => []
  | .alloc t => match L.ti t with
    | some i => nilsOf 0 i.zero
    | none => []
  | .build t ps => match L.ti t with
    | some i => (nilsOf 0 i.zero).filter fun e => (builtFrom i e.1 ps.toList).isNone
    | none => []
  | .buildSlice t _ _ | .makeSlice t _ _ => match L.el t with
    | some e => [(0, e.size)]
    | none => []
  | .call { callee := .builtin .append, argTypes, .. } => match L.el (argTypes.getD 0 0) with
    | some e => [(0, e.size)]
    | none => []
  | .call { callee := .value (.func f), .. } => (S.sg f).gives
  | _ => []
/-- The cells that are handed on, each from where. -/
def moved (L : Lay) (q : SPe) (o : Oper) : List (Nat × (Nat × Nat)) :=
  match o.op with
  | .move (.tmp x) | .assign (.tmp x) => match L.ti o.type with
    | some i => (List.range i.size).map fun n => (n, (x, n))
    | none => []
  | .box t (.tmp x) => match L.ti t with
    | some i => (List.range i.size).map fun n => (n, (x, n))
    | none => []
  | .load t x => match L.ti t, ptrS q x with
    | some i, some (d, off) => (List.range i.size).map fun n => (n, (d, off + n))
    | _, _ => []
  | .build t ps => match L.ti t with
    | some i => (List.range i.size).filterMap fun n => match builtFrom i n ps.toList with
      | some (some r) => some (n, r)
      | _ => none
    | none => []
  | .extract (.tmp x) j => match L.ti o.type with
    | some i => if i.size ≤ 64 then (List.range i.size).map fun n => (n, (x, j * 64 + n)) else []
    | none => []
  | _ => []

/-- Blocks of which room is used up. -/
def eatB (L : Lay) (S : Sig) (o : Oper) (a : Act) (b : Nat) : Prop := ∃ x ∈ eats L S o, blkOf (a.eval x.1) = some b
/-- One by one, no two have room in one block. -/
def Apart (vs : List Value) : Prop := ∀ (i j : Nat) (u v : Value) (b : Nat), i ≠ j → vs[i]? = some u → vs[j]? = some v → blkOf u = some b → blkOf v ≠ some b

/-- A function's call, done as it is told. -/
def CallOk1 (P : Program) (S : Sig) (f : FuncId) (run : List SV → Option AV) : Prop := ∀ args r, run args = some r → (isVal r = true ∧ ∃ fn, P.funcs[f]? = some fn ∧ fn.body.isSome = true ∧ (fn.name == "runtime.NumGoroutine") = false) ∧ ∀ p w (vals : List Value), RepSs p w vals args → Zp p w →
  (∀ (i k : Nat), (S.sg f).takes[i]? = some (some k) → ∃ v : Value, vals[i]? = some v ∧ Rt p w v k) →
  Apart ((vals.zip (S.sg f).takes).filterMap fun xk => xk.2.map fun _ => xk.1) →
  Calls P f vals.toArray w fun e w' => ∃ v, e = .returned v ∧ ∃ p', SR p' w' v r ∧ (∀ cs, r ≠ .box cs) ∧ r ≠ .und ∧ Evo (fun b => ∃ (i k : Nat) (v : Value), (S.sg f).takes[i]? = some (some k) ∧ vals[i]? = some v ∧ blkOf v = some b) p w p' w' ∧ Zp p' w' ∧
    (∀ e ∈ (S.sg f).gives, ∃ u, cellOf w' v e.1 = some u ∧ Rt p' w' u e.2 ∧ ∀ b, blkOf u = some b → w.heap.size ≤ b ∨ ∃ (i k : Nat) (v : Value), (S.sg f).takes[i]? = some (some k) ∧ vals[i]? = some v ∧ blkOf v = some b) ∧
    (∀ (e e' : Nat × Nat) (u u' : Value) (b : Nat), e ∈ (S.sg f).gives → e' ∈ (S.sg f).gives → e.1 ≠ e'.1 → cellOf w' v e.1 = some u → cellOf w' v e'.1 = some u' → blkOf u = some b → blkOf u' ≠ some b)
def CallOk (P : Program) (S : Sig) (call : Orc) : Prop := ∀ f, CallOk1 P S f (call f)

/-- What is known of the static pointers. -/
def SPeOk (q : SPe) (s : VS) : Prop := (∀ t, q.lookup t = none → s.pe.lookup t = none) ∧ ∀ t d off, q.lookup t = some (some (d, off)) → s.pe.lookup t = some (.box d off)

/-- What holds behind an operation that leaves a value. -/
structure OpPost (L : Lay) (S : Sig) (q : SPe) (o : Oper) (a : Act) (p : Nat → Nat) (w : World) (s' : VS) (v : Value) (p' : Nat → Nat) (w' : World) : Prop where
  evo : Evo (eatB L S o a) p w p' w'
  zp : Zp p' w'
  slot : ∀ d, o.dst = some d → SlotOk p' w' (a.put o.dst v).tmps s' d
  bx : ∀ d cs, o.dst = some d → s'.get d = .box cs → v = .pointer (some ⟨w.heap.size, 0, none⟩) ∧ p' w.heap.size = 0 ∧ ∀ e ∈ fresh L S o, cellOf w' v e.1 = some (.slice none 0 0)
  kind : ∀ d, o.dst = some d → d < s'.σ.length → s'.get d ≠ .und ∨ (fresh L S o = [] ∧ moved L q o = [])
  fr : ∀ e ∈ fresh L S o, ∃ u, cellOf w' v e.1 = some u ∧ Rt p' w' u e.2 ∧ ∀ b, blkOf u = some b → w.heap.size ≤ b ∨ eatB L S o a b
  ap : ∀ (e e' : Nat × Nat) (u u' : Value) (b : Nat), e ∈ fresh L S o → e' ∈ fresh L S o → e.1 ≠ e'.1 → cellOf w' v e.1 = some u → cellOf w' v e'.1 = some u' → blkOf u = some b → blkOf u' ≠ some b
  mv : ∀ e ∈ moved L q o, ∀ u, cellOf w (a.tmps.getD e.2.1 undef) e.2.2 = some u → cellOf w' v e.1 = some u

section
variable {P : Program} {L : Lay} {S : Sig} {p : Nat → Nat} {w : World} {a : Act} {s s' : VS} {q : SPe} {o : Oper}

theorem get_put (s : VS) (d : Nat) (x : AV) : (s.put (some d) x).get d = if d < s.σ.length then x else .und := by
  simp only [VS.get, VS.put, List.getD, List.getElem?_set]
  split
  · split <;> rfl
  · rename_i h; exact absurd trivial h
theorem lookup_put (s : VS) (d : Nat) (x : AV) : (s.put (some d) x).pe.lookup d = none := by
  rcases h : (s.put (some d) x).pe.lookup d with _ | r
  · rfl
  · have := mem_of_lookup h
    unfold VS.put at this
    simp at this
theorem slot_put {m : Array Value} {d : Nat} {x : AV} (hlt : d < s.σ.length) (h : SR p w (m.getD d undef) x) : SlotOk p w m (s.put (some d) x) d := by
  refine ⟨?_, fun q' hq => by rw [lookup_put] at hq; cases hq⟩
  rw [get_put, if_pos hlt]
  exact h
theorem put_tmps {d : Nat} {v : Value} (hd : d < a.tmps.size) : (a.put (some d) v).tmps.getD d undef = v := by
  simp [Act.put, hd]
theorem put_tmps_out {d : Nat} {v : Value} (hd : ¬ d < a.tmps.size) : (a.put (some d) v).tmps.getD d undef = undef := by
  simp [Act.put, hd]
theorem slot_value {x : AV} {v : Value} (hs : a.tmps.size = s.σ.length) (h : SR p w v x) : ∀ d, o.dst = some d → SlotOk p w (a.put o.dst v).tmps (s.put o.dst x) d := by
  intro d hd
  rw [hd]
  by_cases hlt : d < a.tmps.size
  · exact slot_put (by rw [← hs]; exact hlt) (by rw [put_tmps hlt]; exact h)
  · refine ⟨?_, fun q' hq => by rw [lookup_put] at hq; cases hq⟩
    rw [get_put, if_neg (by rw [← hs]; exact hlt), put_tmps_out hlt]
    intro b hb
    cases hb

theorem cellOf_SV {v : Value} {x : SV} (h : RepS p w v x) (w' : World) (n : Nat) : cellOf w' v n = v.cells[n]? := by
  cases x with
  | cell c => cases h <;> rfl
  | agg cs => obtain ⟨b, rfl, _⟩ := h; rfl

theorem bx_put {x : AV} (hx : ∀ cs, x ≠ .box cs) {R : Prop} : ∀ d cs, o.dst = some d → (s.put o.dst x).get d = .box cs → R := by
  intro d cs hd h
  rw [hd, get_put] at h
  split at h
  · exact absurd h (hx cs)
  · cases h
theorem kind_put {x : AV} (hx : x ≠ .und) {R : Prop} : ∀ d, o.dst = some d → d < (s.put o.dst x).σ.length → (s.put o.dst x).get d ≠ .und ∨ R := by
  intro d hd hlt
  rw [hd] at hlt ⊢
  refine .inl ?_
  rw [get_put, if_pos (by simpa [VS.put] using hlt)]
  exact hx
/-- The plain case: a value that reads as x, memory as it was. -/
theorem post_same (hz : Zp p w) (hs : a.tmps.size = s.σ.length) {x : AV} {v : Value} (h : SR p w v x) (hf : fresh L S o = []) (hm : ∀ e ∈ moved L q o, ∀ u, cellOf w (a.tmps.getD e.2.1 undef) e.2.2 = some u → cellOf w v e.1 = some u) (hx : ∀ cs, x ≠ .box cs := by intro _ h; cases h) (hu : x ≠ .und := by intro h; cases h) :
    OpPost L S q o a p w (s.put o.dst x) v p w :=
  ⟨.refl _ _ _, hz, slot_value hs h, bx_put hx, kind_put hu, by rw [hf]; simp, by rw [hf]; simp, hm⟩
end
end Go.Proofs.Ytoljlooeiljpfaa

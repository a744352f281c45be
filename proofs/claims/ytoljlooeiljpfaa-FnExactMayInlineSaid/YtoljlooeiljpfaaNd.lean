/- What is known of types, checked; operands. -/
import Derived.Test.YtoljlooeiljpfaaNc
namespace Go.Proofs.Ytoljlooeiljpfaa
open Go Go.RowKit

def ZV : Value → AC → Bool
  | .int .i64 n, .int m => n == 0 && m == 0
  | .bool b, .bool c => !b && !c
  | .slice none l c, .sl _ r => l == 0 && c == 0 && r.isEmpty
  | _, _ => false
def ZL : List Value → List AC → Bool
  | [], [] => true
  | v :: vs, c :: cs => ZV v c && ZL vs cs
  | _, _ => false
theorem ZV.rep {v : Value} {c : AC} (h : ZV v c = true) (p : Nat → Nat) (w : World) : Rep p w v c := by
  unfold ZV at h
  split at h
  · simp at h; obtain ⟨rfl, rfl⟩ := h; exact .int 0
  · simp at h; obtain ⟨rfl, rfl⟩ := h; exact .bool false
  · simp at h; obtain ⟨⟨rfl, rfl⟩, rfl⟩ := h; exact .nil _ _
  · cases h
theorem ZL.rep : ∀ {vs : List Value} {cs : List AC}, ZL vs cs = true → ∀ (p : Nat → Nat) (w : World), RepL p w vs cs
  | [], [], _, _, _ => trivial
  | _ :: _, _ :: _, h, p, w => by
    simp only [ZL, Bool.and_eq_true] at h
    exact ⟨ZV.rep h.1 p w, ZL.rep h.2 p w⟩

structure TOk (P : Program) (t : Nat) (i : TI) : Prop where
  info : ∃ inf z, P.info? t = some inf ∧ inf.size = i.size ∧ inf.bytes ≤ 2048 ∧ inf.zero = some z ∧ ZL z.cells.toList i.zero = true ∧ z.cells.size = i.size
  int : i.kind = 0 → P.underlying t = some (.int .i64)
  bool : i.kind = 1 → P.underlying t = some .bool
  slice : i.kind = 2 → P.underlying t = some (.slice i.elem)
  struct : i.kind = 3 → ∃ fs, P.underlying t = some (.struct fs) ∧ fs.size = i.fields.length ∧
    ∀ (f o n : Nat), i.fields[f]? = some (o, n) → ∃ (fd : Field) (fi : TypeInfo), fs[f]? = some fd ∧ fd.offset = o ∧ P.info? fd.type = some fi ∧ fi.size = n ∧ n ≠ 0
  kinds : i.kind ≤ 3
  one : i.kind ≠ 3 → i.size = 1

def fChk (P : Program) : List Field → List (Nat × Nat) → Bool
  | [], [] => true
  | f :: fs, (o, n) :: r => (f.offset == o && (match P.info? f.type with | some i => i.size == n | none => false) && !(n == 0)) && fChk P fs r
  | _, _ => false
def tChk (P : Program) (t : Nat) (i : TI) : Bool :=
  (match P.info? t with
   | some inf => inf.size == i.size && decide (inf.bytes ≤ 2048) && (match inf.zero with | some z => ZL z.cells.toList i.zero && z.cells.size == i.size | none => false)
   | none => false) &&
  (match P.underlying t with
   | some (.int .i64) => i.kind == 0 && i.size == 1
   | some .bool => i.kind == 1 && i.size == 1
   | some (.slice e) => i.kind == 2 && i.size == 1 && i.elem == e
   | some (.struct fs) => i.kind == 3 && fChk P fs.toList i.fields
   | _ => false)
theorem fChk_len {P : Program} : ∀ {fs : List Field} {r : List (Nat × Nat)}, fChk P fs r = true → fs.length = r.length
  | [], [], _ => rfl
  | _ :: fs, _ :: r, h => by simp only [fChk, Bool.and_eq_true] at h; simp [fChk_len h.2]
theorem fChk_get {P : Program} : ∀ {fs : List Field} {r : List (Nat × Nat)}, fChk P fs r = true → ∀ {f o n : Nat}, r[f]? = some (o, n) →
    ∃ (fd : Field) (fi : TypeInfo), fs[f]? = some fd ∧ fd.offset = o ∧ P.info? fd.type = some fi ∧ fi.size = n ∧ n ≠ 0
  | [], [], _, f, o, n, h => by simp at h
  | g :: fs, (o', n') :: r, h, 0, o, n, hr => by
    simp at hr
    obtain ⟨rfl, rfl⟩ := hr
    simp only [fChk, Bool.and_eq_true] at h
    obtain ⟨⟨⟨h1, h2⟩, h3⟩, _⟩ := h
    cases hi : P.info? g.type with
    | none => rw [hi] at h2; cases h2
    | some fi => rw [hi] at h2; exact ⟨g, fi, rfl, by simpa using h1, hi, by simpa using h2, by simpa using h3⟩
  | _ :: fs, _ :: r, h, f + 1, o, n, hr => by
    simp only [fChk, Bool.and_eq_true] at h
    simpa using fChk_get h.2 (by simpa using hr)
theorem tChk_ok {P : Program} {t : Nat} {i : TI} (h : tChk P t i = true) : TOk P t i := by
  unfold tChk at h
  rw [Bool.and_eq_true] at h
  obtain ⟨h1, h2⟩ := h
  have hinfo : ∃ inf z, P.info? t = some inf ∧ inf.size = i.size ∧ inf.bytes ≤ 2048 ∧ inf.zero = some z ∧ ZL z.cells.toList i.zero = true ∧ z.cells.size = i.size := by
    cases hi : P.info? t with
    | none => rw [hi] at h1; cases h1
    | some inf =>
      rw [hi] at h1
      simp only [Bool.and_eq_true, decide_eq_true_eq, beq_iff_eq] at h1
      obtain ⟨⟨a, b⟩, c⟩ := h1
      cases hz : inf.zero with
      | none => rw [hz] at c; cases c
      | some z => rw [hz] at c; simp only [Bool.and_eq_true, beq_iff_eq] at c; exact ⟨inf, z, rfl, a, b, hz, c.1, c.2⟩
  split at h2
  · rename_i hu
    simp only [Bool.and_eq_true, beq_iff_eq] at h2
    exact ⟨hinfo, fun _ => hu, fun e => by omega, fun e => by omega, fun e => by omega, by omega, fun _ => h2.2⟩
  · rename_i hu
    simp only [Bool.and_eq_true, beq_iff_eq] at h2
    exact ⟨hinfo, fun e => by omega, fun _ => hu, fun e => by omega, fun e => by omega, by omega, fun _ => h2.2⟩
  · rename_i e hu
    simp only [Bool.and_eq_true, beq_iff_eq] at h2
    exact ⟨hinfo, fun e => by omega, fun e => by omega, fun _ => by rw [h2.2]; exact hu, fun e => by omega, by omega, fun _ => h2.1.2⟩
  · rename_i fs hu
    simp only [Bool.and_eq_true, beq_iff_eq] at h2
    refine ⟨hinfo, fun e => by omega, fun e => by omega, fun e => by omega, fun _ => ⟨fs, hu, by simpa using fChk_len h2.2, fun f o n hf => ?_⟩, by omega, fun e => absurd h2.1 e⟩
    simpa using fChk_get h2.2 hf
  · cases h2

def LayOk (P : Program) (L : Lay) : Prop := ∀ t i, L.ti t = some i → TOk P t i
def layChk (P : Program) (L : Lay) : Bool := L.tys.all fun e => tChk P e.1 e.2
theorem mem_of_lookup {β : Type} {t : Nat} {i : β} : ∀ {l : List (Nat × β)}, l.lookup t = some i → (t, i) ∈ l
  | [], h => by cases h
  | (u, j) :: l, h => by
    simp only [List.lookup] at h
    split at h
    · rename_i he
      cases h
      rw [show t = u by simpa using he]
      exact List.mem_cons_self
    · exact List.mem_cons_of_mem _ (mem_of_lookup h)
theorem layChk_ok {P : Program} {L : Lay} (h : layChk P L = true) : LayOk P L := fun t i hi => by
  have : (t, i) ∈ L.tys := by
    unfold Lay.ti at hi
    exact mem_of_lookup hi
  exact tChk_ok (by simpa using List.all_eq_true.1 h _ this)
theorem LayOk.el {P : Program} {L : Lay} (h : LayOk P L) {t : Nat} {e : TI} (he : L.el t = some e) : ∃ u, P.underlying t = some (.slice u) ∧ TOk P u e := by
  unfold Lay.el at he
  simp only [Option.bind_eq_some_iff] at he
  obtain ⟨i, h1, h2⟩ := he
  split at h2
  · rename_i hk
    exact ⟨i.elem, (h t i h1).slice hk, h _ _ h2⟩
  · cases h2

/-- A pointer into the stable part. -/
def PRef (p : Nat → Nat) (w : World) (v : Value) (cs : List AC) : Prop :=
  ∃ b o, v = .pointer (some ⟨b, o, none⟩) ∧ b < w.heap.size ∧ o + cs.length ≤ p b ∧ ∀ j c, cs[j]? = some c → ∃ u, w.cell? ⟨b, o + j, none⟩ = some u ∧ Rep p w u c
theorem PRef.evo {B : Nat → Prop} {p p' : Nat → Nat} {w w' : World} (h : Evo B p w p' w') {v : Value} {cs : List AC} : PRef p w v cs → PRef p' w' v cs
  | ⟨b, o, e, hb, hp, hc⟩ => ⟨b, o, e, Nat.lt_of_lt_of_le hb h.size, Nat.le_trans hp (h.keepP b hb), fun j c hj => by
      obtain ⟨u, hu, hr⟩ := hc j c hj
      have := (List.getElem?_eq_some_iff.1 hj).1
      exact ⟨u, by rw [h.stable b _ hb (by omega)]; exact hu, hr.evo h⟩⟩

def PtrOk (p : Nat → Nat) (w : World) (m : Array Value) (v : Value) : Ptr → Prop
  | .ref cs => PRef p w v cs
  | .box d off => ∃ b, m.getD d undef = .pointer (some ⟨b, 0, none⟩) ∧ v = .pointer (some ⟨b, off, none⟩)
  | .el d k n j => ∃ b o len cap, m.getD d undef = .slice (some ⟨b, o, none⟩) len cap ∧ v = .pointer (some ⟨b, o + n * k + j, none⟩)
def SlotOk (p : Nat → Nat) (w : World) (m : Array Value) (s : VS) (t : Nat) : Prop :=
  SR p w (m.getD t undef) (s.get t) ∧ ∀ q, s.pe.lookup t = some q → PtrOk p w m (m.getD t undef) q
/-- What an operand looks at. -/
def looks (s : VS) : Operand → List Nat
  | .tmp t => match s.pe.lookup t with
    | some (.box d _) => [t, d]
    | _ => [t]
  | _ => []
theorem looks_self (s : VS) (i : Nat) : i ∈ looks s (.tmp i) := by
  show i ∈ (match s.pe.lookup i with | some (.box d _) => [i, d] | _ => [i])
  split <;> simp
theorem looks_box {s : VS} {i d off : Nat} (h : s.pe.lookup i = some (.box d off)) : d ∈ looks s (.tmp i) := by
  show d ∈ (match s.pe.lookup i with | some (.box d _) => [i, d] | _ => [i])
  rw [h]
  simp
def Sees (p : Nat → Nat) (w : World) (m : Array Value) (s : VS) (x : Operand) : Prop := ∀ t ∈ looks s x, SlotOk p w m s t

section
variable {L : Lay} {p : Nat → Nat} {w : World} {a : Act} {s : VS}
theorem constV_rep {t : Nat} {v : Value} {x : SV} (h : constV L t v = some x) : RepS p w v x := by
  unfold constV at h
  split at h
  · cases h; exact .int _
  · cases h; exact .bool _
  · simp only [Option.map_eq_some_iff] at h
    obtain ⟨e, _, rfl⟩ := h
    exact .nil _ _
  · cases h
theorem svOf_rep {t : Nat} {x : Operand} {v : SV} (h : svOf L s t x = some v) (hs : Sees p w a.tmps s x) : RepS p w (a.eval x) v := by
  cases x with
  | tmp i =>
    have h1 : SlotOk p w a.tmps s i := hs i (looks_self s i)
    simp only [svOf] at h
    split at h
    · rename_i y hy
      cases h
      have h2 := h1.1
      rw [hy] at h2
      exact h2
    · cases h
  | const c => exact constV_rep h
  | global g => cases h
  | func f => cases h
theorem intO_rep {x : Operand} {n : Int} (h : intO L s x = some n) (hs : Sees p w a.tmps s x) : a.eval x = .int .i64 n := by
  unfold intO at h
  split at h
  · rename_i m hm
    cases h
    have h := svOf_rep hm hs
    generalize a.eval x = v at h
    cases h
    rfl
  · cases h
theorem boolO_rep {x : Operand} {b : Bool} (h : boolO L s x = some b) (hs : Sees p w a.tmps s x) : a.eval x = .bool b := by
  unfold boolO at h
  split at h
  · rename_i m hm
    cases h
    have h := svOf_rep hm hs
    generalize a.eval x = v at h
    cases h
    rfl
  · cases h
theorem rowsO_rep {t : Nat} {x : Operand} {k : Nat} {r : List (List AC)} (h : rowsO L s t x = some (k, r)) (hs : Sees p w a.tmps s x) : Rep p w (a.eval x) (.sl k r) := by
  unfold rowsO at h
  split at h
  · rename_i k' r' hm
    cases h
    exact svOf_rep hm hs
  · cases h
theorem ptrO_rep {x : Operand} {q : Ptr} (h : ptrO s x = some q) (hs : Sees p w a.tmps s x) : PtrOk p w a.tmps (a.eval x) q := by
  unfold ptrO at h
  split at h
  · rename_i i
    have h1 : SlotOk p w a.tmps s i := hs i (looks_self s i)
    split at h
    · rename_i q' hq
      cases h
      exact h1.2 _ hq
    · split at h
      · rename_i cs hb
        cases h
        have h2 := h1.1
        rw [hb] at h2
        obtain ⟨b, _, _, e, _, _⟩ := h2
        exact ⟨b, e, e⟩
      · cases h
  · cases h
/-- The slot of a box that a pointer leads to. -/
theorem ptrO_box {x : Operand} {d off : Nat} (h : ptrO s x = some (.box d off)) (hs : Sees p w a.tmps s x) : SlotOk p w a.tmps s d := by
  unfold ptrO at h
  split at h
  · rename_i i
    split at h
    · rename_i q' hq
      cases h
      exact hs d (looks_box hq)
    · split at h
      · cases h; exact hs _ (looks_self s _)
      · cases h
  · cases h
end
end Go.Proofs.Ytoljlooeiljpfaa

/- What is known between operations, and one operation. -/
import Derived.Test.YtoljlooeiljpfaaNl
namespace Go.Proofs.Ytoljlooeiljpfaa
open Go Go.RowKit

/-- Which cells of slots have which room (by a name), which rooms are there still (name, size), where pointers lead. -/
structure Stt where
  pid : List ((Nat × Nat) × Nat)
  alive : List (Nat × Nat)
  spe : SPe
  len : Nat
  nb : List Nat := []
  made : List Nat := []

def eatIds (st : Stt) : List (Operand × Nat) → Option (List Nat)
  | [] => some []
  | (.tmp t, k) :: r => match st.pid.lookup (t, 0) with
    | some id => if st.alive.lookup id = some k then (eatIds st r).bind fun l => if l.contains id then none else some (id :: l) else none
    | none => none
  | (.const (.slice none 0 0), _) :: r => eatIds st r
  | _ => none
def cutS (d : Nat) (q : SPe) : SPe := q.filter fun e => !(e.1 == d) && !(match e.2 with | some r => r.1 == d | none => false)
def speNext (L : Lay) (o : Oper) (q : SPe) : SPe :=
  match o.dst with
  | none => q
  | some d => match o.op with
    | .fieldAddr t x f => (d, if o.guard.isSome then none else match ptrS q x, (L.ti t).bind (·.fields[f]?) with
      | some r, some e => some (r.1, r.2 + e.1)
      | _, _ => none) :: cutS d q
    | .indexAddr _ _ _ => (d, none) :: cutS d q
    | _ => cutS d q
def newPid (L : Lay) (S : Sig) (base : Nat) (o : Oper) (st : Stt) : List ((Nat × Nat) × Nat) :=
  match o.dst with
  | some d => if o.guard.isSome then [] else (fresh L S o).map (fun e => ((d, e.1), base + e.1)) ++ (moved L st.spe o).filterMap (fun e => (st.pid.lookup e.2).map fun id => ((d, e.1), id))
  | none => []
def newAlive (L : Lay) (S : Sig) (base : Nat) (o : Oper) : List (Nat × Nat) :=
  match o.dst with
  | some _ => if o.guard.isSome then [] else (fresh L S o).map fun e => (base + e.1, e.2)
  | none => []
def dstOk (n : Nat) (o : Oper) : Bool := match o.dst with | some d => decide (d < n) | none => true
/-- A row that is written is made once. -/
def isMake (L : Lay) (o : Oper) : Bool := match o.op with
  | .makeSlice _ _ _ => L.home 0 o.dst
  | .call { callee := .value (.func f), .. } => L.home (f + 1) o.dst
  | _ => false
def makeOk (L : Lay) (o : Oper) (made : List Nat) : Bool := !isMake L o || (match o.dst with
  | some d => !(made.any fun e => Nat.beq e d) && Nat.blt d noHome
  | none => true)
def madeNext (L : Lay) (o : Oper) (made : List Nat) : List Nat := if isMake L o then (match o.dst with
  | some d => d :: made
  | none => made) else made
def stepV (L : Lay) (S : Sig) (base : Nat) (o : Oper) (st : Stt) : Option Stt :=
  if takesOk L S o && dstOk st.len o then (eatIds st (eats L S o)).bind fun E =>
    if o.guard.isSome && !E.isEmpty || !makeOk L o st.made then none else
      some { made := madeNext L o st.made, pid := newPid L S base o st ++ st.pid.filter (fun e => !(o.dst == some e.1.1)), alive := newAlive L S base o ++ st.alive.filter (fun e => !E.contains e.1), spe := speNext L o st.spe, len := st.len }
  else none

theorem mem_of_lookup' {α β : Type} [BEq α] [LawfulBEq α] {t : α} {i : β} : ∀ {l : List (α × β)}, l.lookup t = some i → (t, i) ∈ l
  | [], h => by cases h
  | (u, j) :: l, h => by
    simp only [List.lookup] at h
    split at h
    · rename_i he
      cases h
      rw [show t = u by simpa using he]
      exact List.mem_cons_self
    · exact List.mem_cons_of_mem _ (mem_of_lookup' h)
/-- What is known of rooms. -/
structure RInv (st : Stt) (p : Nat → Nat) (w : World) (m : Array Value) (s : VS) (Own : Nat → Prop) (val : Nat → Value) : Prop where
  place : ∀ q id, (q, id) ∈ st.pid → cellOf w (m.getD q.1 undef) q.2 = some (val id) ∧ s.get q.1 ≠ .und
  alive : ∀ id k, (id, k) ∈ st.alive → Rt p w (val id) k
  own : ∀ id k b, (id, k) ∈ st.alive → blkOf (val id) = some b → Own b ∧ ∀ d cs, s.get d = .box cs → m.getD d undef ≠ .pointer (some ⟨b, 0, none⟩)
  apart : ∀ id k id' k' b, (id, k) ∈ st.alive → (id', k') ∈ st.alive → id ≠ id' → blkOf (val id) = some b → blkOf (val id') ≠ some b
  row : ∀ q id k d k' rows b, (q, id) ∈ st.pid → (id, k) ∈ st.alive → s.get d = .arr k' rows → blkOf (m.getD d undef) = some b → blkOf (val id) = some b → q.2 = 0 ∧ (q.1 = d ∨ s.get q.1 = .al d) ∧ k = k'
structure Inv (st : Stt) (p : Nat → Nat) (w : World) (m : Array Value) (s : VS) (Own : Nat → Prop) : Prop where
  size : m.size = s.σ.length
  len : st.len = s.σ.length
  nbk : ∀ t ∈ st.nb, (∀ d off, s.pe.lookup t ≠ some (.box d off)) ∧ ∀ cs, s.get t ≠ .box cs
  sonce : NoTwice st.spe
  slots : ∀ t, SlotOk p w m s t
  zp : Zp p w
  once : NoTwice s.pe
  spe : SPeOk st.spe s
  own : ∀ b, w.heap.size ≤ b → Own b
  box : ∀ d cs, s.get d = .box cs → ∃ b, m.getD d undef = .pointer (some ⟨b, 0, none⟩) ∧ p b = 0 ∧ Own b ∧ b < w.heap.size
  boxd : ∀ d d' cs cs' b, d ≠ d' → s.get d = .box cs → s.get d' = .box cs' → m.getD d undef = .pointer (some ⟨b, 0, none⟩) → m.getD d' undef ≠ .pointer (some ⟨b, 0, none⟩)
  arr : ∀ d k rows b, s.get d = .arr k rows → blkOf (m.getD d undef) = some b → p b = 0 ∧ Own b ∧ b < w.heap.size ∧ (∀ d' cs, s.get d' = .box cs → m.getD d' undef ≠ .pointer (some ⟨b, 0, none⟩)) ∧ (∀ d' k' rows', s.get d' = .arr k' rows' → blkOf (m.getD d' undef) = some b → d' = d)
  al : ∀ t d k rows, s.get t = .al d → s.get d = .arr k rows → m.getD t undef = m.getD d undef
  mks : (∀ t d, s.get t = .al d → d ∈ st.made ∨ d = noHome) ∧ ∀ d k rows, s.get d = .arr k rows → d ∈ st.made
  rooms : ∃ val, RInv st p w m s Own val

section
variable {P : Program} {L : Lay} {S : Sig} {call : Orc} {p p' : Nat → Nat} {w w' : World} {a : Act} {s s' : VS} {q : SPe} {o : Oper} {st st' : Stt} {Own : Nat → Prop}

theorem eatIds_ok {val : Nat → Value} (hR : RInv st p w a.tmps s Own val) : ∀ {l : List (Operand × Nat)} {E : List Nat}, eatIds st l = some E → (∀ x ∈ l, ∃ c, Rep p w (a.eval x.1) c) →
    (∀ x ∈ l, Rt p w (a.eval x.1) x.2 ∧ ∀ b, blkOf (a.eval x.1) = some b → ∃ id ∈ E, ∃ k, (id, k) ∈ st.alive ∧ blkOf (val id) = some b) ∧
    (∀ (i j : Nat) (x y : Operand × Nat) (b : Nat), i ≠ j → l[i]? = some x → l[j]? = some y → blkOf (a.eval x.1) = some b → blkOf (a.eval y.1) ≠ some b)
  | [], E, _, _ => ⟨fun x hx => (by cases hx), fun i j x y b _ hx => (by simp at hx)⟩
  | (.tmp t, k) :: r, E, h, hrep => by
    unfold eatIds at h
    split at h
    · rename_i id hid
      split at h
      · rename_i hk
        simp only [Option.bind_eq_some_iff] at h
        obtain ⟨l, hl, h⟩ := h
        split at h
        · cases h
        · rename_i hnot
          cases h
          obtain ⟨ih1, ih2⟩ := eatIds_ok hR hl (fun x hx => hrep x (List.mem_cons_of_mem _ hx))
          have hm := mem_of_lookup hk
          have hp := (hR.place _ _ (mem_of_lookup' hid)).1
          have hrt := hR.alive _ _ hm
          have hval : a.eval (.tmp t) = val id := by
            obtain ⟨c, hc⟩ := hrep (.tmp t, k) List.mem_cons_self
            have hc' : RepS p w (a.eval (.tmp t)) (.cell c) := hc
            have h2 : cellOf w (a.eval (.tmp t)) 0 = some (val id) := hp
            rw [cellOf_SV hc', hc.cells] at h2
            simpa using h2
          have hcross : ∀ (j : Nat) (y : Operand × Nat) (b : Nat), r[j]? = some y → blkOf (val id) = some b → blkOf (a.eval y.1) ≠ some b := by
            intro j y b hy hb hb'
            obtain ⟨id', hid', k', hm', hb2⟩ := (ih1 y (List.mem_of_getElem? hy)).2 b hb'
            have hne : id ≠ id' := fun e => hnot (by rw [e]; simpa using hid')
            exact hR.apart id k id' k' b hm hm' hne hb hb2
          refine ⟨fun x hx => ?_, fun i j x y b hij hx hy hb => ?_⟩
          · rcases List.mem_cons.1 hx with rfl | hx
            · refine ⟨by rw [hval]; exact hrt, fun b hb => ⟨id, List.mem_cons_self, k, hm, by rw [← hval]; exact hb⟩⟩
            · obtain ⟨h1, h2⟩ := ih1 x hx
              exact ⟨h1, fun b hb => by obtain ⟨id', hi, rest⟩ := h2 b hb; exact ⟨id', List.mem_cons_of_mem _ hi, rest⟩⟩
          · match i, j with
            | 0, 0 => exact absurd rfl hij
            | 0, j + 1 =>
              simp at hx
              subst hx
              exact hcross j y b (by simpa using hy) (by rw [← hval]; exact hb)
            | i + 1, 0 =>
              simp at hy
              subst hy
              intro hb'
              rw [hval] at hb'
              exact hcross i x b (by simpa using hx) hb' hb
            | i + 1, j + 1 => exact ih2 i j x y b (by omega) (by simpa using hx) (by simpa using hy) hb
      · cases h
    · cases h
  | (.const c, k) :: r, E, h, hrep => by
    unfold eatIds at h
    split at h
    · rename_i heq; cases heq
    · rename_i heq; cases heq
    · rename_i heq
      cases heq
      obtain ⟨ih1, ih2⟩ := eatIds_ok hR h (fun x hx => hrep x (List.mem_cons_of_mem _ hx))
      refine ⟨fun x hx => ?_, fun i j x y b hij hx hy hb => ?_⟩
      · rcases List.mem_cons.1 hx with rfl | hx
        · exact ⟨.inl rfl, fun b hb => by cases hb⟩
        · exact ih1 x hx
      · match i, j with
        | 0, 0 => exact absurd rfl hij
        | 0, j + 1 =>
          simp at hx
          subst hx
          cases hb
        | i + 1, 0 =>
          simp at hy
          subst hy
          intro hb'
          cases hb'
        | i + 1, j + 1 => exact ih2 i j x y b (by omega) (by simpa using hx) (by simpa using hy) hb
    · cases h
  | (.global g, k) :: r, E, h, _ => by simp [eatIds] at h
  | (.func g, k) :: r, E, h, _ => by simp [eatIds] at h
/-- What is used up has a name that is there. -/
theorem eatIds_pid : ∀ {l : List (Operand × Nat)} {E : List Nat}, eatIds st l = some E → ∀ x ∈ l, (∃ t id, x.1 = .tmp t ∧ ((t, 0), id) ∈ st.pid ∧ (id, x.2) ∈ st.alive) ∨ x.1 = .const (.slice none 0 0)
  | [], _, _, x, hx => by cases hx
  | (.tmp t, k) :: r, E, h, x, hx => by
    unfold eatIds at h
    split at h
    · rename_i id hid
      split at h
      · rename_i hk
        simp only [Option.bind_eq_some_iff] at h
        obtain ⟨l, hl, _⟩ := h
        rcases List.mem_cons.1 hx with rfl | hx
        · exact .inl ⟨t, id, rfl, mem_of_lookup' hid, mem_of_lookup hk⟩
        · exact eatIds_pid hl x hx
      · cases h
    · cases h
  | (.const c, k) :: r, E, h, x, hx => by
    unfold eatIds at h
    split at h
    · rename_i heq; cases heq
    · rename_i heq; cases heq
    · rename_i heq
      cases heq
      rcases List.mem_cons.1 hx with rfl | hx
      · exact .inr rfl
      · exact eatIds_pid h x hx
    · cases h
  | (.global g, k) :: r, E, h, _, _ => by simp [eatIds] at h
  | (.func g, k) :: r, E, h, _, _ => by simp [eatIds] at h
end
end Go.Proofs.Ytoljlooeiljpfaa

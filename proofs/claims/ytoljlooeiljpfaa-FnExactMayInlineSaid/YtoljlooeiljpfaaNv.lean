/- Regions that draw their order: what is known when some operations have come up. -/
import Derived.Test.YtoljlooeiljpfaaNu
namespace Go.Proofs.Ytoljlooeiljpfaa
open Go Go.RowKit

/-- The slots that an operation looks at. -/
def looksAt (ops : List Oper) (o : Oper) : List Nat :=
  (o.op.operands.toList.filterMap fun | .tmp t => some t | _ => none) ++ (match o.guard with | some g => ((ops[g.1]?).bind (·.dst)).toList | none => [])
def waits (o : Oper) (i : Nat) : Bool := o.after.toList.any fun e => e.on == i && Region.binds .any e
def isPtr (o : Oper) : Bool := match o.op with | .fieldAddr .. | .indexAddr .. => true | _ => false
/-- What is asked of operations that may come up in any order: each slot is written once, and who looks at it waits for it; addresses start from slots that nobody writes. -/
def anyChk (ops : List Oper) : Bool :=
  let ds := ops.zipIdx.filterMap fun e => e.1.dst.map fun d => (d, e.2)
  ops.zipIdx.all fun e =>
    !isStore e.1 && e.1.dst.isSome &&
    ds.all (fun x => x.2 == e.2 || !(e.1.dst == some x.1)) &&
    (looksAt ops e.1).all (fun t => ds.all fun x => !(x.1 == t) || (waits e.1 x.2 && decide (x.2 < e.2))) &&
    (match e.1.op with
     | .fieldAddr _ (.tmp t) _ => ds.all fun x => !(x.1 == t) || ((ops[x.2]?).map isPtr).getD false
     | _ => true)

structure AnyOk (ops : List Oper) : Prop where
  store : ∀ (j : Nat) (o : Oper), ops[j]? = some o → isStore o = false ∧ ∃ d, o.dst = some d
  once : ∀ (i j : Nat) (o o' : Oper) (d : Nat), ops[i]? = some o → ops[j]? = some o' → o.dst = some d → o'.dst = some d → i = j
  looks : ∀ (i j : Nat) (o o' : Oper) (t : Nat), ops[i]? = some o → ops[j]? = some o' → o.dst = some t → t ∈ looksAt ops o' → waits o' i = true ∧ i < j
  ptr : ∀ (i j : Nat) (o o' : Oper) (t ty f : Nat), ops[i]? = some o → ops[j]? = some o' → o.dst = some t → o'.op = .fieldAddr ty (.tmp t) f → isPtr o = true

theorem zipIdx_mem {α : Type} {l : List α} {i : Nat} {x : α} (h : l[i]? = some x) : (x, i) ∈ l.zipIdx := by
  rw [List.mem_zipIdx_iff_getElem?]
  exact h
theorem anyChk_ok {ops : List Oper} (h : anyChk ops = true) : AnyOk ops := by
  unfold anyChk at h
  simp only [List.all_eq_true, Bool.and_eq_true, Bool.or_eq_true, Bool.not_eq_true', beq_eq_false_iff_ne, decide_eq_true_eq, beq_iff_eq] at h
  have hds : ∀ (i : Nat) (o : Oper) (d : Nat), ops[i]? = some o → o.dst = some d → (d, i) ∈ ops.zipIdx.filterMap fun e => e.1.dst.map fun d => (d, e.2) := fun i o d hi hd => by
    rw [List.mem_filterMap]
    exact ⟨(o, i), zipIdx_mem hi, by simp [hd]⟩
  refine ⟨fun j o hj => ?_, fun i j o o' d hi hj hd hd' => ?_, fun i j o o' t hi hj hd ht => ?_, fun i j o o' t ty f hi hj hd hop => ?_⟩
  · obtain ⟨⟨⟨⟨h1, h2⟩, _⟩, _⟩, _⟩ := h _ (zipIdx_mem hj)
    exact ⟨h1, Option.isSome_iff_exists.1 h2⟩
  · obtain ⟨⟨⟨_, h4⟩, _⟩, _⟩ := h _ (zipIdx_mem hj)
    rcases h4 _ (hds i o d hi hd) with h | h
    · exact h
    · exact absurd hd' h
  · obtain ⟨⟨_, h5⟩, _⟩ := h _ (zipIdx_mem hj)
    rcases h5 t ht _ (hds i o t hi hd) with h | h
    · exact absurd rfl h
    · exact h
  · obtain ⟨_, h6⟩ := h _ (zipIdx_mem hj)
    rw [hop] at h6
    simp only [List.all_eq_true, Bool.or_eq_true, Bool.not_eq_true', beq_eq_false_iff_ne] at h6
    rcases h6 _ (hds i o t hi hd) with h | h
    · exact absurd rfl h
    · simpa [hi] using h

section
variable {P : Program} {L : Lay} {S : Sig} {call : Orc} {all : List Oper} {tr : List Rec} {s0 sm : VS} {t0 tm : Stt} {b0 : Nat} {Own : Nat → Prop}

theorem tr_op {ops : List Oper} (hops : tr.map (·.o) = ops) {j : Nat} {r : Rec} (h : tr[j]? = some r) : ops[j]? = some r.o := by
  rw [← hops, List.getElem?_map, h]; rfl

/-- A pointer that stands behind a value's operation stood before it, or is this one's. -/
theorem vop_ptr {o : Oper} {s s' : VS} (hs : vopP L call o s = some s') (hst : isStore o = false) {t b off : Nat} (h : s'.pe.lookup t = some (.box b off)) (hn : NoTwice s.pe) :
    s.pe.lookup t = some (.box b off) ∨ ∃ ty x f off', o.op = .fieldAddr ty x f ∧ ptrO s x = some (.box b off') := by
  by_cases hd : o.dst = some t
  · right
    unfold vopP at hs
    have plain : ∀ x, s' = s.put o.dst x → False := fun x e => by
      rw [e, hd, lookup_put] at h
      cases h
    split at hs <;> try simp only [Option.bind_eq_some_iff, Option.map_eq_some_iff] at hs
    · obtain ⟨v, _, rfl⟩ := hs; exact (plain _ rfl).elim
    · obtain ⟨v, _, rfl⟩ := hs; exact (plain _ rfl).elim
    · obtain ⟨_, _, v, _, rfl⟩ := hs; exact (plain _ rfl).elim
    · obtain ⟨_, _, rfl⟩ := hs; exact (plain _ rfl).elim
    · obtain ⟨_, _, _, _, hs⟩ := hs; split at hs <;> cases hs; exact (plain _ rfl).elim
    · obtain ⟨_, _, hs⟩ := hs; split at hs
      · simp only [Option.map_eq_some_iff] at hs; obtain ⟨_, _, rfl⟩ := hs; exact (plain _ rfl).elim
      · cases hs
    · obtain ⟨_, _, _, _, hs⟩ := hs; split at hs <;> cases hs; exact (plain _ rfl).elim
    · obtain ⟨_, _, _, _, hs⟩ := hs
      split at hs
      · split at hs
        · simp only [Option.map_eq_some_iff] at hs; obtain ⟨_, _, rfl⟩ := hs; exact (plain _ rfl).elim
        · cases hs
      · split at hs
        · split at hs
          · simp only [Option.map_eq_some_iff] at hs; obtain ⟨_, _, rfl⟩ := hs; exact (plain _ rfl).elim
          · cases hs
        · cases hs
      · cases hs
    · rename_i hop; simp [isStore, hop] at hst
    · split at hs
      · simp only [Option.bind_eq_some_iff] at hs
        obtain ⟨_, _, hs⟩ := hs
        split at hs
        · simp only [Option.bind_eq_some_iff, Option.map_eq_some_iff] at hs
          obtain ⟨_, _, _, _, rfl⟩ := hs
          exact (plain _ rfl).elim
        · cases hs
      · simp only [Option.bind_eq_some_iff, Option.map_eq_some_iff] at hs
        obtain ⟨_, _, _, _, _, _, rfl⟩ := hs
        exact (plain _ rfl).elim
    · obtain ⟨_, _, rfl⟩ := hs; exact (plain _ rfl).elim
    · rename_i ty x f hop
      obtain ⟨_, _, r, hr, e, _, hs⟩ := hs
      rw [hd] at hs
      simp only at hs
      split at hs
      · cases hs
        simp only [List.lookup, beq_self_eq_true] at h
        cases r with
        | ref cs => cases h
        | box b' off' => cases h; exact ⟨ty, x, f, off', hop, hr⟩
        | el _ _ _ _ => cases h
      · cases hs
    · obtain ⟨_, _, _, _, _, _, hs⟩ := hs
      rw [hd] at hs
      simp only at hs
      split at hs
      · split at hs
        · cases hs
          simp only [List.lookup, beq_self_eq_true] at h
          cases h
        · cases hs
      · cases hs
    · obtain ⟨_, _, _, _, _, _, _, _, hs⟩ := hs; split at hs <;> cases hs; exact (plain _ rfl).elim
    · split at hs
      · simp only [Option.map_eq_some_iff] at hs; obtain ⟨_, _, rfl⟩ := hs; exact (plain _ rfl).elim
      · cases hs
    · obtain ⟨_, _, _, _, _, _, hs⟩ := hs; split at hs <;> cases hs; exact (plain _ rfl).elim
    · split at hs
      · split at hs
        · simp only [Option.bind_eq_some_iff, Option.map_eq_some_iff] at hs; obtain ⟨_, _, _, _, rfl⟩ := hs; exact (plain _ rfl).elim
        · cases hs
      · cases hs
    · split at hs
      · simp only [Option.bind_eq_some_iff] at hs
        obtain ⟨_, _, _, _, _, _, hs⟩ := hs; split at hs <;> cases hs; exact (plain _ rfl).elim
      · cases hs
    · split at hs
      · simp only [Option.bind_eq_some_iff, Option.map_eq_some_iff] at hs; obtain ⟨_, _, _, _, rfl⟩ := hs; exact (plain _ rfl).elim
      · cases hs
    · obtain ⟨_, _, _, _, rfl⟩ := hs; exact (plain _ rfl).elim
    · cases hs
  · left
    exact ((vopP_frames hs hst hn).1.pe t _ hd h).1

/-- A pointer's operation leaves no value. -/
theorem vopG_und {o : Oper} {s s' : VS} (hs : vopGP L call all o s = some s') (hp : isPtr o = true) {d : Nat} (hd : o.dst = some d) : s'.get d = .und := by
  have hput : ∀ r : Ptr, VS.get { (s.put (some d) .und) with pe := (d, r) :: (s.put (some d) .und).pe } d = .und := fun r => by
    show (s.put (some d) .und).get d = .und
    rw [get_put]; split <;> rfl
  have hv : vopP L call o s = some s' → s'.get d = .und := by
    intro hs
    unfold isPtr at hp
    split at hp
    · rename_i ty x f hop
      simp only [vopP, hop, Option.bind_eq_some_iff] at hs
      obtain ⟨_, _, r, _, e, _, hs⟩ := hs
      rw [hd] at hs
      simp only at hs
      split at hs
      · cases hs; exact hput _
      · cases hs
    · rename_i ty x ix hop
      simp only [vopP, hop, Option.bind_eq_some_iff] at hs
      obtain ⟨_, _, _, _, _, _, hs⟩ := hs
      rw [hd] at hs
      simp only at hs
      split at hs
      · split at hs
        · cases hs; exact hput _
        · cases hs
      · cases hs
    · cases hp
  unfold vopGP at hs
  split at hs
  · exact hv hs
  · simp only [Option.bind_eq_some_iff] at hs
    obtain ⟨t, _, hs⟩ := hs
    cases t with
    | true => exact hv hs
    | false =>
      cases hs
      rw [hd, get_put]
      split <;> rfl

/-- Pointers lead to slots that nobody writes. -/
theorem Tr.targets (h : Tr L S call all tr s0 t0 b0 sm tm) {ops : List Oper} (hops : tr.map (·.o) = ops) (hA : AnyOk ops) (hpe : s0.pe = []) : ∀ (j : Nat), j ≤ tr.length → ∀ t b off, (atR tr sm tm j).1.pe.lookup t = some (.box b off) →
    ∀ (i : Nat) (r : Rec), tr[i]? = some r → r.o.dst ≠ some b
  | 0, _, t, b, off, hl => by
    rw [h.zero] at hl
    simp only [hpe] at hl
    cases hl
  | j + 1, hle, t, b, off, hl => by
    obtain ⟨r, hr⟩ : ∃ r, tr[j]? = some r := ⟨tr[j]'(by omega), List.getElem?_eq_getElem _⟩
    rw [h.step hr] at hl
    simp only at hl
    obtain ⟨hok, hst⟩ := h.ok j r hr
    have h1 : atR tr sm tm j = (r.s, r.st) := by unfold atR; rw [hr]
    have ih := Tr.targets h hops hA hpe j (by omega)
    rw [h1] at ih
    simp only at ih
    have hcase : r.s.pe.lookup t = some (.box b off) ∨ ∃ ty x f off', r.o.op = .fieldAddr ty x f ∧ ptrO r.s x = some (.box b off') := by
      have hrun := hok.run
      unfold vopGP at hrun
      split at hrun
      · exact vop_ptr hrun hst hl hok.once
      · simp only [Option.bind_eq_some_iff] at hrun
        obtain ⟨u, _, hrun⟩ := hrun
        cases u with
        | true => exact vop_ptr hrun hst hl hok.once
        | false =>
          simp only [Bool.false_eq_true, if_false, Option.some.injEq] at hrun
          rw [← hrun] at hl
          left
          by_cases hd : r.o.dst = some t
          · rw [hd, lookup_put] at hl; cases hl
          · exact ((put_frames hok.once _).1.pe t _ hd hl).1
    rcases hcase with hc | ⟨ty, x, f, off', hop, hp⟩
    · exact ih t b off hc
    · unfold ptrO at hp
      split at hp
      case h_2 => cases hp
      rename_i y
      split at hp
      · rename_i q hq
        cases hp
        exact ih y b off' hq
      · split at hp
        case h_2 => cases hp
        rename_i cs hcs
        cases hp
        intro i r' hr' hd
        have hptr := hA.ptr i j r'.o r.o b ty f (tr_op hops hr') (tr_op hops hr) hd hop
        have hlt := (hA.looks i j r'.o r.o b (tr_op hops hr') (tr_op hops hr) hd (by simp [looksAt, hop, Op.operands])).2
        -- it was written by a pointer's operation: no box
        obtain ⟨hok', hst'⟩ := h.ok i r' hr'
        have hund := vopG_und hok'.run hptr hd
        have hk := h.keeps (t := b) (j - (i + 1)) (i + 1) (by omega) (fun x rx h1 h2 hrx hdx => by
          have := hA.once i x r'.o rx.o b (tr_op hops hr') (tr_op hops hrx) hd hdx
          omega)
        rw [show i + 1 + (j - (i + 1)) = j by omega, h1, h.step hr'] at hk
        have := hk.1
        simp only at this
        rw [this, hund] at hcs
        cases hcs

/-- Slot t is not written by an operation that is still to come. -/
def Vis (tr : List Rec) (D : Nat → Prop) (t : Nat) : Prop := ∀ (j : Nat) (r : Rec), tr[j]? = some r → r.o.dst = some t → D j
def Cre (L : Lay) (S : Sig) (tr : List Rec) (b0 : Nat) (D : Nat → Prop) (id : Nat) : Prop := id < b0 ∨ ∃ (j : Nat) (r : Rec), D j ∧ tr[j]? = some r ∧ ∃ k, (id, k) ∈ newAlive L S r.base r.o
def Al (L : Lay) (S : Sig) (tr : List Rec) (t0 : Stt) (D : Nat → Prop) (id k : Nat) : Prop :=
  ((id, k) ∈ t0.alive ∨ ∃ (j : Nat) (r : Rec), D j ∧ tr[j]? = some r ∧ (id, k) ∈ newAlive L S r.base r.o) ∧ ∀ (i : Nat) (r : Rec), D i → tr[i]? = some r → id ∉ eaten L S r

/-- What is known when the operations in D have come up. -/
structure InvD (L : Lay) (S : Sig) (tr : List Rec) (s0 sm : VS) (t0 tm : Stt) (b0 : Nat) (D : Nat → Prop) (p : Nat → Nat) (w : World) (m : Array Value) (Own : Nat → Prop) : Prop where
  size : m.size = sm.σ.length
  slots : ∀ t, Vis tr D t → SlotOk p w m sm t
  zp : Zp p w
  own : ∀ b, w.heap.size ≤ b → Own b
  box : ∀ d cs, Vis tr D d → sm.get d = .box cs → ∃ b, m.getD d undef = .pointer (some ⟨b, 0, none⟩) ∧ p b = 0 ∧ Own b ∧ b < w.heap.size
  boxd : ∀ d d' cs cs' b, Vis tr D d → Vis tr D d' → d ≠ d' → sm.get d = .box cs → sm.get d' = .box cs' → m.getD d undef = .pointer (some ⟨b, 0, none⟩) → m.getD d' undef ≠ .pointer (some ⟨b, 0, none⟩)
  ate : ∀ (i : Nat) (r : Rec), D i → tr[i]? = some r → ∀ id ∈ eaten L S r, Cre L S tr b0 D id
  rooms : ∃ val : Nat → Value,
    (∀ q id, (q, id) ∈ tm.pid → Vis tr D q.1 → cellOf w (m.getD q.1 undef) q.2 = some (val id) ∧ sm.get q.1 ≠ .und ∧ Cre L S tr b0 D id) ∧
    (∀ id k, Al L S tr t0 D id k → Rt p w (val id) k) ∧
    (∀ id k b, Al L S tr t0 D id k → blkOf (val id) = some b → Own b ∧ ∀ d cs, Vis tr D d → sm.get d = .box cs → m.getD d undef ≠ .pointer (some ⟨b, 0, none⟩)) ∧
    (∀ id k id' k' b, Al L S tr t0 D id k → Al L S tr t0 D id' k' → id ≠ id' → blkOf (val id) = some b → blkOf (val id') ≠ some b)
end
end Go.Proofs.Ytoljlooeiljpfaa

/- Regions that draw their order: the run in the text's order, told operation by operation. -/
import Derived.Test.YtoljlooeiljpfaaNt
namespace Go.Proofs.Ytoljlooeiljpfaa
open Go Go.RowKit

/-- One operation of the run in the text's order. -/
structure Rec where
  o : Oper
  s : VS
  s' : VS
  base : Nat
  st : Stt
  st' : Stt
structure RecOk (L : Lay) (S : Sig) (call : Orc) (all : List Oper) (r : Rec) : Prop where
  run : vopGP L call all r.o r.s = some r.s'
  step : stepSP L S r.base r.o r.st = some r.st'
  ids : IdsLt r.st r.base
  once : NoTwice r.s.pe
  sonce : NoTwice r.st.spe
  spe : SPeOk r.st.spe r.s
  norow : (∀ t d k n j, r.s.pe.lookup t ≠ some (.el d k n j)) ∧ (∀ t k r', r.s.get t ≠ .arr k r') ∧ ∀ t d, r.s.get t = .al d → d = noHome

section
variable {P : Program} {L : Lay} {S : Sig} {call : Orc} {p p' : Nat → Nat} {w w' : World} {a : Act} {s s' : VS} {q : SPe} {o : Oper} {st st' : Stt} {Own : Nat → Prop} {base : Nat} {all : List Oper}

theorem spe_skip (h : SPeOk q s) (h1 : NoTwice q) (h2 : NoTwice s.pe) {g : Nat × Bool} (hg : o.guard = some g) : SPeOk (speNext L o q) (s.put o.dst .und) := by
  unfold speNext
  cases hd : o.dst with
  | none => exact h
  | some d =>
    have hc := spe_cut h h1 h2 d .und
    have hp : SPeOk ((d, none) :: cutS d q) (s.put (some d) .und) := by
      constructor
      · intro t ht
        simp only [List.lookup] at ht
        split at ht
        · cases ht
        · exact hc.1 t ht
      · intro t b off ht
        simp only [List.lookup] at ht
        split at ht
        · cases ht
        · exact hc.2 t b off ht
    cases ho : o.op <;> simp only [hg] <;> first | exact hc | exact hp

theorem stepSP_value (hst : isStore o = false) (h : stepSP L S base o st = some st') : stepV L S base o st = some st' := by
  unfold stepSP at h
  split at h
  · rename_i hop; simp [isStore, hop] at hst
  · exact h
theorem stepV_spe (h : stepV L S base o st = some st') : st'.spe = speNext L o st.spe ∧ st'.len = st.len := by
  unfold stepV at h
  split at h
  case isFalse => cases h
  simp only [Option.bind_eq_some_iff] at h
  obtain ⟨E, _, h⟩ := h
  split at h
  · cases h
  cases h
  exact ⟨rfl, rfl⟩

/-- What stands behind a value's operation, of slots and pointers. -/
theorem vopGP_frames (hs : vopGP L call all o s = some s') (hst : isStore o = false) (hn : NoTwice s.pe) : Frames o s s' ∧ NoTwice s'.pe := by
  unfold vopGP at hs
  split at hs
  · exact vopP_frames hs hst hn
  · simp only [Option.bind_eq_some_iff] at hs
    obtain ⟨t, _, hs⟩ := hs
    cases t with
    | true => exact vopP_frames hs hst hn
    | false => cases hs; exact put_frames hn _
theorem vopG_spe (hs : vopGP L call all o s = some s') (hst : isStore o = false) (hq : SPeOk q s) (h1 : NoTwice q) (h2 : NoTwice s.pe) : SPeOk (speNext L o q) s' := by
  unfold vopGP at hs
  split at hs
  · exact spe_nextP hs hst hq h1 h2
  · rename_i g hg
    simp only [Option.bind_eq_some_iff] at hs
    obtain ⟨t, _, hs⟩ := hs
    cases t with
    | true => exact spe_nextP hs hst hq h1 h2
    | false => cases hs; exact spe_skip hq h1 h2 hg

/-- No address in a row that is written, and no such row. -/
def NoRow (s : VS) : Prop := (∀ t d k n j, s.pe.lookup t ≠ some (.el d k n j)) ∧ (∀ t k r, s.get t ≠ .arr k r) ∧ ∀ t d, s.get t = .al d → d = noHome
theorem vopP_noel {o : Oper} {s s' : VS} (hs : vopP L call o s = some s') (hst : isStore o = false) (hn : NoTwice s.pe) (h0 : ∀ t d k n j, s.pe.lookup t ≠ some (.el d k n j)) : ∀ t d k n j, s'.pe.lookup t ≠ some (.el d k n j) := by
  intro t d k n j h
  by_cases hd : o.dst = some t
  · unfold vopP at hs
    have plain : ∀ x, s' = s.put o.dst x → False := fun x e => by
      rw [e, hd, lookup_put] at h
      cases h
    split at hs <;> try simp only [Option.bind_eq_some_iff, Option.map_eq_some_iff] at hs
    · obtain ⟨v, _, rfl⟩ := hs; exact (plain _ rfl).elim
    · obtain ⟨v, _, rfl⟩ := hs; exact (plain _ rfl).elim
    · obtain ⟨_, _, v, _, rfl⟩ := hs; exact (plain _ rfl).elim
    · obtain ⟨_, _, rfl⟩ := hs; exact (plain _ rfl).elim
    · obtain ⟨_, _, _, _, hs⟩ := hs; split at hs <;> cases hs; exact (plain _ rfl).elim
    · obtain ⟨_, _, hs⟩ := hs; split at hs
      · simp only [Option.map_eq_some_iff] at hs; obtain ⟨_, _, rfl⟩ := hs; exact (plain _ rfl).elim
      · cases hs
    · obtain ⟨_, _, _, _, hs⟩ := hs; split at hs <;> cases hs; exact (plain _ rfl).elim
    · obtain ⟨_, _, _, _, hs⟩ := hs
      split at hs
      · split at hs
        · simp only [Option.map_eq_some_iff] at hs; obtain ⟨_, _, rfl⟩ := hs; exact (plain _ rfl).elim
        · cases hs
      · split at hs
        · split at hs
          · simp only [Option.map_eq_some_iff] at hs; obtain ⟨_, _, rfl⟩ := hs; exact (plain _ rfl).elim
          · cases hs
        · cases hs
      · cases hs
    · rename_i hop; simp [isStore, hop] at hst
    · split at hs
      · simp only [Option.bind_eq_some_iff] at hs
        obtain ⟨_, _, hs⟩ := hs
        split at hs
        · simp only [Option.bind_eq_some_iff, Option.map_eq_some_iff] at hs
          obtain ⟨_, _, _, _, rfl⟩ := hs
          exact (plain _ rfl).elim
        · cases hs
      · simp only [Option.bind_eq_some_iff, Option.map_eq_some_iff] at hs
        obtain ⟨_, _, _, _, _, _, rfl⟩ := hs
        exact (plain _ rfl).elim
    · obtain ⟨_, _, rfl⟩ := hs; exact (plain _ rfl).elim
    · obtain ⟨_, _, r, _, e, _, hs⟩ := hs
      rw [hd] at hs
      simp only at hs
      split at hs
      · rename_i hc
        cases hs
        simp only [List.lookup, beq_self_eq_true] at h
        cases r with
        | ref cs => cases h
        | box b' off' => cases h
        | el _ _ _ _ => simp [Ptr.fits] at hc
      · cases hs
    · obtain ⟨_, _, _, _, _, _, hs⟩ := hs
      rw [hd] at hs
      simp only at hs
      split at hs
      · split at hs
        · cases hs
          simp only [List.lookup, beq_self_eq_true] at h
          cases h
        · cases hs
      · cases hs
    · obtain ⟨_, _, _, _, _, _, _, _, hs⟩ := hs; split at hs <;> cases hs; exact (plain _ rfl).elim
    · split at hs
      · simp only [Option.map_eq_some_iff] at hs; obtain ⟨_, _, rfl⟩ := hs; exact (plain _ rfl).elim
      · cases hs
    · obtain ⟨_, _, _, _, _, _, hs⟩ := hs; split at hs <;> cases hs; exact (plain _ rfl).elim
    · split at hs
      · split at hs
        · simp only [Option.bind_eq_some_iff, Option.map_eq_some_iff] at hs; obtain ⟨_, _, _, _, rfl⟩ := hs; exact (plain _ rfl).elim
        · cases hs
      · cases hs
    · split at hs
      · simp only [Option.bind_eq_some_iff] at hs
        obtain ⟨_, _, _, _, _, _, hs⟩ := hs; split at hs <;> cases hs; exact (plain _ rfl).elim
      · cases hs
    · split at hs
      · simp only [Option.bind_eq_some_iff, Option.map_eq_some_iff] at hs; obtain ⟨_, _, _, _, rfl⟩ := hs; exact (plain _ rfl).elim
      · cases hs
    · obtain ⟨_, _, _, _, rfl⟩ := hs; exact (plain _ rfl).elim
    · cases hs
  · exact h0 t d k n j ((vopP_frames hs hst hn).1.pe t _ hd h).1

theorem vopGP_norow (hs : vopGP L call all o s = some s') (hst : isStore o = false) (hval : ∀ f args r, call f args = some r → isVal r = true) (hn : NoTwice s.pe) (h : NoRow s) : NoRow s' := by
  have key : Frames o s s' → (∀ t d k n j, s'.pe.lookup t ≠ some (.el d k n j)) → (∀ d, o.dst = some d → isRow (s'.get d) = false) → NoRow s' := fun hF h1 h2 => by
    refine ⟨h1, fun t k r e => ?_, fun t d e => ?_⟩
    · by_cases hd : o.dst = some t
      · have := h2 t hd
        rw [e] at this
        cases this
      · rw [hF.get t hd] at e
        exact h.2.1 t k r e
    · by_cases hd : o.dst = some t
      · have := h2 t hd
        rw [e] at this
        cases this
      · rw [hF.get t hd] at e
        exact h.2.2 t d e
  have run : vopP L call o s = some s' → NoRow s' := fun hs => key (vopP_frames hs hst hn).1 (vopP_noel hs hst hn h.1) (vopP_plain hs hst hval)
  unfold vopGP at hs
  split at hs
  · exact run hs
  · simp only [Option.bind_eq_some_iff] at hs
    obtain ⟨t, _, hs⟩ := hs
    cases t with
    | true => exact run hs
    | false =>
      cases hs
      have hF := (put_frames (o := o) hn .und).1
      refine key hF (fun t d k n j hl => ?_) (put_plain rfl)
      · by_cases hd : o.dst = some t
        · rw [hd, lookup_put] at hl; cases hl
        · exact h.1 t d k n j (hF.pe t _ hd hl).1

/-- The records of a run. -/
theorem trace (hpe : NoTwice s.pe) (hval : ∀ f args r, call f args = some r → isVal r = true) : ∀ (os : List Oper) (base bm : Nat) (s sm : VS) (st stm : Stt), (∀ o ∈ os, isStore o = false) → vopsP L call all os s = some sm → stepsSP L S base os st = some (bm, stm) → IdsLt st base → NoTwice s.pe → NoTwice st.spe → SPeOk st.spe s → NoRow s →
    ∃ tr : List Rec, tr.map (·.o) = os ∧ (∀ r ∈ tr, RecOk L S call all r) ∧ (∀ r, tr[0]? = some r → r.s = s ∧ r.st = st ∧ r.base = base) ∧
      (∀ (j : Nat) (r r' : Rec), tr[j]? = some r → tr[j + 1]? = some r' → r'.s = r.s' ∧ r'.st = r.st' ∧ r'.base = r.base + bump L S r.o) ∧
      (∀ r, tr.getLast? = some r → sm = r.s' ∧ stm = r.st') ∧ (tr = [] → sm = s ∧ stm = st) ∧ NoTwice sm.pe ∧ NoTwice stm.spe ∧ SPeOk stm.spe sm ∧ IdsLt stm bm ∧ NoRow sm
  | [], base, bm, s, sm, st, stm, _, hv, hst, hids, h1, h2, h3, h4 => by
    cases hv
    cases hst
    exact ⟨[], rfl, fun r h => (by cases h), fun r h => (by cases h), fun j r r' h => (by simp at h), fun r h => (by cases h), fun _ => ⟨rfl, rfl⟩, h1, h2, h3, hids, h4⟩
  | o :: os, base, bm, s, sm, st, stm, hns, hv, hst, hids, h1, h2, h3, h4 => by
    rw [vopsP_cons] at hv
    simp only [Option.bind_eq_some_iff] at hv
    obtain ⟨s1, hv1, hv⟩ := hv
    simp only [stepsSP, Option.bind_eq_some_iff] at hst
    obtain ⟨st1, hst1, hst⟩ := hst
    have hso := hns o List.mem_cons_self
    have hsv := stepV_spe (stepSP_value hso hst1)
    have hids1 := ids_nextP hids hst1
    obtain ⟨tr, k1, k2, k3, k4, k5, k6, k7⟩ := trace hpe hval os _ bm s1 sm st1 stm (fun o ho => hns o (List.mem_cons_of_mem _ ho)) hv hst hids1 (vopGP_frames hv1 hso h1).2 (by rw [hsv.1]; exact once_next L o h2) (by rw [hsv.1]; exact vopG_spe hv1 hso h3 h2 h1) (vopGP_norow hv1 hso hval h1 h4)
    refine ⟨⟨o, s, s1, base, st, st1⟩ :: tr, by simp [k1], fun r hr => ?_, fun r hr => ?_, fun j r r' hr hr' => ?_, fun r hr => ?_, fun h => (by cases h), k7⟩
    · rcases List.mem_cons.1 hr with rfl | hr
      · exact ⟨hv1, hst1, hids, h1, h2, h3, h4⟩
      · exact k2 r hr
    · simp at hr
      subst hr
      exact ⟨rfl, rfl, rfl⟩
    · match j with
      | 0 =>
        simp at hr hr'
        subst hr
        obtain ⟨e1, e2, e3⟩ := k3 r' hr'
        exact ⟨e1, e2, e3⟩
      | j + 1 => exact k4 j r r' (by simpa using hr) (by simpa using hr')
    · cases htr : tr with
      | nil =>
        rw [htr] at hr
        simp at hr
        subst hr
        exact k6 htr
      | cons x l =>
        rw [htr] at hr
        rw [List.getLast?_cons_cons] at hr
        exact k5 r (by rw [htr]; exact hr)
end

/-- The ids that an operation uses up. -/
def eaten (L : Lay) (S : Sig) (r : Rec) : List Nat := (eatIds r.st (eats L S r.o)).getD []

/-- The records of a run, with what binds them. -/
structure Tr (L : Lay) (S : Sig) (call : Orc) (all : List Oper) (tr : List Rec) (s0 : VS) (t0 : Stt) (b0 : Nat) (sm : VS) (tm : Stt) : Prop where
  ok : ∀ (j : Nat) (r : Rec), tr[j]? = some r → RecOk L S call all r ∧ isStore r.o = false
  first : ∀ r, tr[0]? = some r → r.s = s0 ∧ r.st = t0 ∧ r.base = b0
  next : ∀ (j : Nat) (r r' : Rec), tr[j]? = some r → tr[j + 1]? = some r' → r'.s = r.s' ∧ r'.st = r.st' ∧ r'.base = r.base + bump L S r.o
  last : ∀ (j : Nat) (r : Rec), tr[j]? = some r → tr[j + 1]? = none → sm = r.s' ∧ tm = r.st'
  none : tr = [] → sm = s0 ∧ tm = t0

/-- What a slot that nothing writes keeps. -/
def Keeps (t : Nat) (x y : VS × Stt) : Prop := y.1.get t = x.1.get t ∧ (∀ r, y.1.pe.lookup t = some r → x.1.pe.lookup t = some r) ∧ ∀ n id, ((t, n), id) ∈ y.2.pid ↔ ((t, n), id) ∈ x.2.pid
theorem Keeps.refl (t : Nat) (x : VS × Stt) : Keeps t x x := ⟨rfl, fun _ h => h, fun _ _ => Iff.rfl⟩
theorem Keeps.trans {t : Nat} {x y z : VS × Stt} (h : Keeps t x y) (k : Keeps t y z) : Keeps t x z := ⟨k.1.trans h.1, fun r hr => h.2.1 r (k.2.1 r hr), fun n id => (k.2.2 n id).trans (h.2.2 n id)⟩

section
variable {P : Program} {L : Lay} {S : Sig} {call : Orc} {all : List Oper} {tr : List Rec} {s0 sm : VS} {t0 tm : Stt} {b0 : Nat}

theorem stepV_parts {base : Nat} {o : Oper} {st st' : Stt} (h : stepV L S base o st = some st') : ∃ E, eatIds st (eats L S o) = some E ∧ takesOk L S o = true ∧ dstOk st.len o = true ∧ (o.guard.isSome = true → E = []) ∧
    st'.pid = newPid L S base o st ++ st.pid.filter (fun e => !(o.dst == some e.1.1)) ∧ st'.alive = newAlive L S base o ++ st.alive.filter (fun e => !E.contains e.1) := by
  unfold stepV at h
  split at h
  case isFalse => cases h
  rename_i htk
  simp only [Bool.and_eq_true] at htk
  simp only [Option.bind_eq_some_iff] at h
  obtain ⟨E, hE, h⟩ := h
  split at h
  · cases h
  rename_i hg
  cases h
  refine ⟨E, hE, htk.1, htk.2, fun hgs => ?_, rfl, rfl⟩
  cases E with
  | nil => rfl
  | cons x l => simp [hgs] at hg
theorem newPid_dst {base : Nat} {o : Oper} {st : Stt} {q : Nat × Nat} {id : Nat} (h : (q, id) ∈ newPid L S base o st) : o.dst = some q.1 := by
  unfold newPid at h
  split at h
  · rename_i d hd
    split at h
    · cases h
    · rcases List.mem_append.1 h with h | h
      · simp only [List.mem_map, Prod.mk.injEq] at h
        obtain ⟨e, _, rfl, _⟩ := h
        exact hd
      · simp only [List.mem_filterMap, Option.map_eq_some_iff, Prod.mk.injEq] at h
        obtain ⟨e, _, _, _, rfl, _⟩ := h
        exact hd
  · cases h

theorem rec_keeps {r : Rec} (h : RecOk L S call all r) (hst : isStore r.o = false) {t : Nat} (hd : r.o.dst ≠ some t) : Keeps t (r.s, r.st) (r.s', r.st') := by
  obtain ⟨hF, _⟩ := vopGP_frames h.run hst h.once
  obtain ⟨E, _, _, _, _, hpid, _⟩ := stepV_parts (stepSP_value hst h.step)
  refine ⟨hF.get t hd, fun x hx => (hF.pe t x hd hx).1, fun n id => ?_⟩
  simp only
  rw [hpid, List.mem_append, List.mem_filter]
  constructor
  · rintro (hm | ⟨hm, _⟩)
    · exact absurd (newPid_dst hm) hd
    · exact hm
  · intro hm
    exact .inr ⟨hm, by simp only [Bool.not_eq_true', beq_eq_false_iff_ne]; exact hd⟩

/-- The state ahead of operation j. -/
def atR (tr : List Rec) (sm : VS) (tm : Stt) (j : Nat) : VS × Stt := match tr[j]? with | some r => (r.s, r.st) | none => (sm, tm)
theorem Tr.step (h : Tr L S call all tr s0 t0 b0 sm tm) {j : Nat} {r : Rec} (hr : tr[j]? = some r) : atR tr sm tm (j + 1) = (r.s', r.st') := by
  unfold atR
  cases hn : tr[j + 1]? with
  | none => obtain ⟨e1, e2⟩ := h.last j r hr hn; simp [e1, e2]
  | some r' => obtain ⟨e1, e2, _⟩ := h.next j r r' hr hn; simp [e1, e2]
theorem Tr.keeps (h : Tr L S call all tr s0 t0 b0 sm tm) {t : Nat} : ∀ (k i : Nat), i + k ≤ tr.length → (∀ (x : Nat) (r : Rec), i ≤ x → x < i + k → tr[x]? = some r → r.o.dst ≠ some t) → Keeps t (atR tr sm tm i) (atR tr sm tm (i + k))
  | 0, i, _, _ => Keeps.refl _ _
  | k + 1, i, hle, hd => by
    have ih := Tr.keeps h k i (by omega) (fun x r h1 h2 hr => hd x r h1 (by omega) hr)
    obtain ⟨r, hr⟩ : ∃ r, tr[i + k]? = some r := ⟨tr[i + k]'(by omega), List.getElem?_eq_getElem _⟩
    have h1 : atR tr sm tm (i + k) = (r.s, r.st) := by unfold atR; rw [hr]
    have h2 := h.step hr
    obtain ⟨hok, hst⟩ := h.ok _ r hr
    refine ih.trans ?_
    rw [h1, show i + (k + 1) = i + k + 1 by omega, h2]
    exact rec_keeps hok hst (hd (i + k) r (by omega) (by omega) hr)
theorem Tr.zero (h : Tr L S call all tr s0 t0 b0 sm tm) : atR tr sm tm 0 = (s0, t0) := by
  unfold atR
  cases hn : tr[0]? with
  | none =>
    have : tr = [] := by simpa using hn
    obtain ⟨e1, e2⟩ := h.none this
    simp [e1, e2]
  | some r => obtain ⟨e1, e2, _⟩ := h.first r hn; simp [e1, e2]
theorem at_end {n : Nat} (hn : tr.length ≤ n) : atR tr sm tm n = (sm, tm) := by
  unfold atR
  rw [List.getElem?_eq_none hn]

theorem eatIds_lt {st : Stt} {base : Nat} (hids : IdsLt st base) : ∀ {l : List (Operand × Nat)} {E : List Nat}, eatIds st l = some E → ∀ id ∈ E, id < base ∧ ∃ k, (id, k) ∈ st.alive
  | [], E, h, id, hid => by cases h; cases hid
  | (.tmp t, k) :: r, E, h, id, hid => by
    unfold eatIds at h
    split at h
    · split at h
      · rename_i hk
        simp only [Option.bind_eq_some_iff] at h
        obtain ⟨l, hl, h⟩ := h
        split at h
        · cases h
        · cases h
          rcases List.mem_cons.1 hid with rfl | hid
          · exact ⟨hids.2 _ _ (mem_of_lookup hk), _, mem_of_lookup hk⟩
          · exact eatIds_lt hids hl id hid
      · cases h
    · cases h
  | (.const c, k) :: r, E, h, id, hid => by
    unfold eatIds at h
    split at h
    · rename_i heq; cases heq
    · rename_i heq; cases heq
    · rename_i heq; cases heq; exact eatIds_lt hids h id hid
    · cases h
  | (.global g, k) :: r, E, h, _, _ => by simp [eatIds] at h
  | (.func g, k) :: r, E, h, _, _ => by simp [eatIds] at h

theorem newAlive_range {base : Nat} {o : Oper} {id k : Nat} (h : (id, k) ∈ newAlive L S base o) : base ≤ id ∧ id < base + bump L S o := by
  unfold newAlive at h
  split at h
  · split at h
    · cases h
    · simp only [List.mem_map, Prod.mk.injEq] at h
      obtain ⟨e, he, rfl, _⟩ := h
      have := foldl_max_lt _ 0 e he
      unfold bump
      omega
  · cases h

/-- Names go up along the run. -/
theorem Tr.base_mono (h : Tr L S call all tr s0 t0 b0 sm tm) : ∀ (k i : Nat) (r r' : Rec), tr[i]? = some r → tr[i + (k + 1)]? = some r' → r.base + bump L S r.o ≤ r'.base
  | 0, i, r, r', hr, hr' => by obtain ⟨_, _, e⟩ := h.next i r r' hr hr'; omega
  | k + 1, i, r, r', hr, hr' => by
    obtain ⟨r1, hr1⟩ : ∃ r1, tr[i + (k + 1)]? = some r1 := by
      have := (List.getElem?_eq_some_iff.1 hr').1
      exact ⟨tr[i + (k + 1)]'(by omega), List.getElem?_eq_getElem _⟩
    have h1 := Tr.base_mono h k i r r1 hr hr1
    obtain ⟨_, _, e⟩ := h.next _ r1 r' hr1 hr'
    omega
theorem Tr.base_lt (h : Tr L S call all tr s0 t0 b0 sm tm) {i j : Nat} {r r' : Rec} (hij : i < j) (hr : tr[i]? = some r) (hr' : tr[j]? = some r') : r.base + bump L S r.o ≤ r'.base := by
  obtain ⟨k, rfl⟩ : ∃ k, j = i + (k + 1) := ⟨j - i - 1, by omega⟩
  exact h.base_mono k i r r' hr hr'
theorem Tr.base_ge (h : Tr L S call all tr s0 t0 b0 sm tm) {j : Nat} {r : Rec} (hr : tr[j]? = some r) : b0 ≤ r.base := by
  obtain ⟨r0, h0⟩ : ∃ r0, tr[0]? = some r0 := by
    have := (List.getElem?_eq_some_iff.1 hr).1
    exact ⟨tr[0]'(by omega), List.getElem?_eq_getElem _⟩
  obtain ⟨_, _, e⟩ := h.first r0 h0
  rcases Nat.eq_zero_or_pos j with rfl | hj
  · rw [h0] at hr; cases hr; omega
  · have := h.base_lt hj h0 hr
    omega

/-- What is alive ahead of operation j was there at first or made by an earlier one, and no earlier one used it up. -/
theorem Tr.alive (h : Tr L S call all tr s0 t0 b0 sm tm) (h0 : IdsLt t0 b0) : ∀ (j : Nat), j ≤ tr.length → ∀ id k, (id, k) ∈ (atR tr sm tm j).2.alive →
    ((id, k) ∈ t0.alive ∨ ∃ (i : Nat) (r : Rec), i < j ∧ tr[i]? = some r ∧ (id, k) ∈ newAlive L S r.base r.o) ∧ ∀ (i : Nat) (r : Rec), i < j → tr[i]? = some r → id ∉ eaten L S r
  | 0, _, id, k, hm => by
    rw [h.zero] at hm
    exact ⟨.inl hm, fun i r hi => by omega⟩
  | j + 1, hle, id, k, hm => by
    obtain ⟨r, hr⟩ : ∃ r, tr[j]? = some r := ⟨tr[j]'(by omega), List.getElem?_eq_getElem _⟩
    rw [h.step hr] at hm
    obtain ⟨hok, hst⟩ := h.ok j r hr
    obtain ⟨E, hE, _, _, _, _, hal⟩ := stepV_parts (stepSP_value hst hok.step)
    have heat : eaten L S r = E := by unfold eaten; rw [hE]; rfl
    simp only at hm
    rw [hal] at hm
    rcases List.mem_append.1 hm with hm | hm
    · refine ⟨.inr ⟨j, r, by omega, hr, hm⟩, fun i r' hi hr' hmem => ?_⟩
      have h1 := newAlive_range hm
      obtain ⟨hok', hst'⟩ := h.ok i r' hr'
      obtain ⟨E', hE', _, _, _, _, _⟩ := stepV_parts (stepSP_value hst' hok'.step)
      have heat' : eaten L S r' = E' := by unfold eaten; rw [hE']; rfl
      rw [heat'] at hmem
      have h2 := (eatIds_lt hok'.ids hE' id hmem).1
      rcases Nat.lt_or_ge i j with hij | hij
      · have := h.base_lt hij hr' hr
        omega
      · have : i = j := by omega
        subst this
        rw [hr] at hr'
        cases hr'
        omega
    · obtain ⟨hm, hnE⟩ := List.mem_filter.1 hm
      have h1 : atR tr sm tm j = (r.s, r.st) := by unfold atR; rw [hr]
      obtain ⟨c1, c2⟩ := Tr.alive h h0 j (by omega) id k (by rw [h1]; exact hm)
      refine ⟨c1.imp (fun h => h) (fun ⟨i, r', hi, rest⟩ => ⟨i, r', by omega, rest⟩), fun i r' hi hr' => ?_⟩
      rcases Nat.lt_or_ge i j with hij | hij
      · exact c2 i r' hij hr'
      · have : i = j := by omega
        subst this
        rw [hr] at hr'
        cases hr'
        rw [heat]
        simpa using hnE
end
end Go.Proofs.Ytoljlooeiljpfaa

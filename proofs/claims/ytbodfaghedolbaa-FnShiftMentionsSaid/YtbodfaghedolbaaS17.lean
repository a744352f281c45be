/- Generic texts and models for the proofs of this seat: part 17. -/
import Derived.Test.YtbodfaghedolbaaS16
set_option linter.unusedVariables false
set_option linter.unusedSimpArgs false
namespace Go.Proofs.Ytbodfaghedolbaa
open Go Go.RowKit
structure Rec where
  o : Oper
  s : VS
  s' : VS
  base : Nat
  st : Stt
  st' : Stt
def isPtr (o : Oper) : Bool := match o.op with | .fieldAddr .. | .indexAddr .. => true | _ => false
def RunR (L : Lay) (call : Orc) (all : List Oper) (o : Oper) (s s' : VS) : Prop := vopGP L call all o s = some s' ∨ ((∃ x, s' = s.put o.dst x) ∧ isPtr o = false)
structure RecOk (L : Lay) (S : Sig) (call : Orc) (all : List Oper) (r : Rec) : Prop where
  run : RunR L call all r.o r.s r.s'
  step : stepSP L S r.base r.o r.st = some r.st'
  ids : IdsLt r.st r.base
  once : NoTwice r.s.pe
  sonce : NoTwice r.st.spe
  spe : SPeOk r.st.spe r.s
  norow : (∀ t d k n j, r.s.pe.lookup t ≠ some (.el d k n j)) ∧ (∀ t k r', r.s.get t ≠ .arr k r') ∧ ∀ t d, r.s.get t = .al d → d = noHome
section
variable {P : Program} {L : Lay} {S : Sig} {call : Orc} {p p' : Stb} {w w' : World} {a : Act} {s s' : VS} {q : SPe} {o : Oper} {st st' : Stt} {Own : Nat → Prop} {base : Nat} {all : List Oper}
theorem spe_skip (h : SPeOk q s) (h1 : NoTwice q) (h2 : NoTwice s.pe) {g : Nat × Bool} (hg : o.guard = some g) : SPeOk (speNext L o q) (s.put o.dst .und) := by
  unfold speNext
  cases hd : o.dst with
  | none => exact h
  | some d =>
    have hc := spe_cut h h1 h2 d .und
    have hp : SPeOk ((d, none) :: cutS d q) (s.put (some d) .und) := by
      constructor
      · intro t ht
        simp only [List.lookup] at ht
        split at ht
        · cases ht
        · exact hc.1 t ht
      · intro t b off ht
        simp only [List.lookup] at ht
        split at ht
        · cases ht
        · exact hc.2 t b off ht
    cases ho : o.op <;> simp only [hg] <;> first | exact hc | exact hp
theorem stepSP_value (hst : isStore o = false) (h : stepSP L S base o st = some st') : stepV L S base o st = some st' := by
  unfold stepSP at h
  split at h
  · rename_i hop; simp [isStore, hop] at hst
  · exact h
theorem stepV_spe (h : stepV L S base o st = some st') : st'.spe = speNext L o st.spe ∧ st'.len = st.len := by
  unfold stepV at h
  split at h
  case isFalse => cases h
  simp only [Option.bind_eq_some_iff] at h
  obtain ⟨E, _, h⟩ := h
  split at h
  · cases h
  cases h
  exact ⟨rfl, rfl⟩
theorem vopGP_frames (hs : vopGP L call all o s = some s') (hst : isStore o = false) (hn : NoTwice s.pe) : Frames o s s' ∧ NoTwice s'.pe := by
  unfold vopGP at hs
  split at hs
  · exact vopP_frames hs hst hn
  · simp only [Option.bind_eq_some_iff] at hs
    obtain ⟨t, _, hs⟩ := hs
    cases t with
    | true => exact vopP_frames hs hst hn
    | false => cases hs; exact put_frames hn _
theorem vopG_spe (hs : vopGP L call all o s = some s') (hst : isStore o = false) (hq : SPeOk q s) (h1 : NoTwice q) (h2 : NoTwice s.pe) : SPeOk (speNext L o q) s' := by
  unfold vopGP at hs
  split at hs
  · exact spe_nextP hs hst hq h1 h2
  · rename_i g hg
    simp only [Option.bind_eq_some_iff] at hs
    obtain ⟨t, _, hs⟩ := hs
    cases t with
    | true => exact spe_nextP hs hst hq h1 h2
    | false => cases hs; exact spe_skip hq h1 h2 hg
def NoRow (s : VS) : Prop := (∀ t d k n j, s.pe.lookup t ≠ some (.el d k n j)) ∧ (∀ t k r, s.get t ≠ .arr k r) ∧ ∀ t d, s.get t = .al d → d = noHome
theorem vopP_noel {o : Oper} {s s' : VS} (hs : vopP L call o s = some s') (hst : isStore o = false) (hn : NoTwice s.pe) (h0 : ∀ t d k n j, s.pe.lookup t ≠ some (.el d k n j)) : ∀ t d k n j, s'.pe.lookup t ≠ some (.el d k n j) := by
  intro t d k n j h
  by_cases hd : o.dst = some t
  · unfold vopP at hs
    have plain : ∀ x, s' = s.put o.dst x → False := fun x e => by
      rw [e, hd, lookup_put] at h
      cases h
    split at hs <;> try simp only [Option.bind_eq_some_iff, Option.map_eq_some_iff] at hs
    · obtain ⟨v, _, rfl⟩ := hs; exact (plain _ rfl).elim
    · obtain ⟨v, _, rfl⟩ := hs; exact (plain _ rfl).elim
    · obtain ⟨_, _, v, _, rfl⟩ := hs; exact (plain _ rfl).elim
    · obtain ⟨_, _, rfl⟩ := hs; exact (plain _ rfl).elim
    · obtain ⟨_, _, _, _, hs⟩ := hs; split at hs <;> cases hs; exact (plain _ rfl).elim
    · obtain ⟨_, _, hs⟩ := hs; split at hs
      · simp only [Option.map_eq_some_iff] at hs; obtain ⟨_, _, rfl⟩ := hs; exact (plain _ rfl).elim
      · cases hs
    · obtain ⟨_, _, _, _, hs⟩ := hs; split at hs <;> cases hs; exact (plain _ rfl).elim
    · obtain ⟨_, _, _, _, hs⟩ := hs
      split at hs
      · split at hs
        · simp only [Option.map_eq_some_iff] at hs; obtain ⟨_, _, rfl⟩ := hs; exact (plain _ rfl).elim
        · cases hs
      · split at hs
        · split at hs
          · simp only [Option.map_eq_some_iff] at hs; obtain ⟨_, _, rfl⟩ := hs; exact (plain _ rfl).elim
          · cases hs
        · cases hs
      · cases hs
    · rename_i hop; simp [isStore, hop] at hst
    · split at hs
      · simp only [Option.bind_eq_some_iff] at hs
        obtain ⟨_, _, hs⟩ := hs
        split at hs
        · simp only [Option.bind_eq_some_iff, Option.map_eq_some_iff] at hs
          obtain ⟨_, _, _, _, rfl⟩ := hs
          exact (plain _ rfl).elim
        · cases hs
      · simp only [Option.bind_eq_some_iff, Option.map_eq_some_iff] at hs
        obtain ⟨_, _, _, _, _, _, rfl⟩ := hs
        exact (plain _ rfl).elim
    · obtain ⟨_, _, rfl⟩ := hs; exact (plain _ rfl).elim
    · obtain ⟨_, _, r, _, e, _, hs⟩ := hs
      rw [hd] at hs
      simp only at hs
      split at hs
      · rename_i hc
        cases hs
        simp only [List.lookup, beq_self_eq_true] at h
        cases r with
        | ref cs => cases h
        | box b' off' => cases h
        | el _ _ _ _ => simp [Ptr.fits] at hc
      · cases hs
    · obtain ⟨_, _, _, _, _, _, hs⟩ := hs
      rw [hd] at hs
      simp only at hs
      split at hs
      · split at hs
        · cases hs
          simp only [List.lookup, beq_self_eq_true] at h
          cases h
        · cases hs
      · cases hs
    · obtain ⟨_, _, _, _, _, _, _, _, hs⟩ := hs; split at hs <;> cases hs; exact (plain _ rfl).elim
    · split at hs
      · simp only [Option.map_eq_some_iff] at hs; obtain ⟨_, _, rfl⟩ := hs; exact (plain _ rfl).elim
      · cases hs
    · obtain ⟨_, _, _, _, _, _, hs⟩ := hs; split at hs <;> cases hs; exact (plain _ rfl).elim
    · split at hs
      · split at hs
        · simp only [Option.bind_eq_some_iff, Option.map_eq_some_iff] at hs; obtain ⟨_, _, _, _, rfl⟩ := hs; exact (plain _ rfl).elim
        · cases hs
      · cases hs
    · split at hs
      · simp only [Option.bind_eq_some_iff] at hs
        obtain ⟨_, _, _, _, _, _, hs⟩ := hs; split at hs <;> cases hs; exact (plain _ rfl).elim
      · cases hs
    · split at hs
      · simp only [Option.bind_eq_some_iff, Option.map_eq_some_iff] at hs; obtain ⟨_, _, _, _, rfl⟩ := hs; exact (plain _ rfl).elim
      · cases hs
    · obtain ⟨_, _, _, _, rfl⟩ := hs; exact (plain _ rfl).elim
    · cases hs
  · exact h0 t d k n j ((vopP_frames hs hst hn).1.pe t _ hd h).1
theorem vopGP_norow (hs : vopGP L call all o s = some s') (hst : isStore o = false) (hval : ∀ f args r, call f args = some r → isVal r = true) (hn : NoTwice s.pe) (h : NoRow s) : NoRow s' := by
  have key : Frames o s s' → (∀ t d k n j, s'.pe.lookup t ≠ some (.el d k n j)) → (∀ d, o.dst = some d → isRow (s'.get d) = false) → NoRow s' := fun hF h1 h2 => by
    refine ⟨h1, fun t k r e => ?_, fun t d e => ?_⟩
    · by_cases hd : o.dst = some t
      · have := h2 t hd
        rw [e] at this
        cases this
      · rw [hF.get t hd] at e
        exact h.2.1 t k r e
    · by_cases hd : o.dst = some t
      · have := h2 t hd
        rw [e] at this
        cases this
      · rw [hF.get t hd] at e
        exact h.2.2 t d e
  have run : vopP L call o s = some s' → NoRow s' := fun hs => key (vopP_frames hs hst hn).1 (vopP_noel hs hst hn h.1) (vopP_plain hs hst hval)
  unfold vopGP at hs
  split at hs
  · exact run hs
  · simp only [Option.bind_eq_some_iff] at hs
    obtain ⟨t, _, hs⟩ := hs
    cases t with
    | true => exact run hs
    | false =>
      cases hs
      have hF := (put_frames (o := o) hn .und).1
      refine key hF (fun t d k n j hl => ?_) (put_plain rfl)
      · by_cases hd : o.dst = some t
        · rw [hd, lookup_put] at hl; cases hl
        · exact h.1 t d k n j (hF.pe t _ hd hl).1
theorem trace (hpe : NoTwice s.pe) (hval : ∀ f args r, call f args = some r → isVal r = true) : ∀ (os : List Oper) (base bm : Nat) (s sm : VS) (st stm : Stt), (∀ o ∈ os, isStore o = false) → vopsP L call all os s = some sm → stepsSP L S base os st = some (bm, stm) → IdsLt st base → NoTwice s.pe → NoTwice st.spe → SPeOk st.spe s → NoRow s →
    ∃ tr : List Rec, tr.map (·.o) = os ∧ (∀ r ∈ tr, RecOk L S call all r ∧ vopGP L call all r.o r.s = some r.s') ∧ (∀ r, tr[0]? = some r → r.s = s ∧ r.st = st ∧ r.base = base) ∧
      (∀ (j : Nat) (r r' : Rec), tr[j]? = some r → tr[j + 1]? = some r' → r'.s = r.s' ∧ r'.st = r.st' ∧ r'.base = r.base + bump L S r.o) ∧
      (∀ r, tr.getLast? = some r → sm = r.s' ∧ stm = r.st') ∧ (tr = [] → sm = s ∧ stm = st) ∧ NoTwice sm.pe ∧ NoTwice stm.spe ∧ SPeOk stm.spe sm ∧ IdsLt stm bm ∧ NoRow sm
  | [], base, bm, s, sm, st, stm, _, hv, hst, hids, h1, h2, h3, h4 => by
    cases hv
    cases hst
    exact ⟨[], rfl, fun r h => (by cases h), fun r h => (by cases h), fun j r r' h => (by simp at h), fun r h => (by cases h), fun _ => ⟨rfl, rfl⟩, h1, h2, h3, hids, h4⟩
  | o :: os, base, bm, s, sm, st, stm, hns, hv, hst, hids, h1, h2, h3, h4 => by
    rw [vopsP_cons] at hv
    simp only [Option.bind_eq_some_iff] at hv
    obtain ⟨s1, hv1, hv⟩ := hv
    simp only [stepsSP, Option.bind_eq_some_iff] at hst
    obtain ⟨st1, hst1, hst⟩ := hst
    have hso := hns o List.mem_cons_self
    have hsv := stepV_spe (stepSP_value hso hst1)
    have hids1 := ids_nextP hids hst1
    obtain ⟨tr, k1, k2, k3, k4, k5, k6, k7⟩ := trace hpe hval os _ bm s1 sm st1 stm (fun o ho => hns o (List.mem_cons_of_mem _ ho)) hv hst hids1 (vopGP_frames hv1 hso h1).2 (by rw [hsv.1]; exact once_next L o h2) (by rw [hsv.1]; exact vopG_spe hv1 hso h3 h2 h1) (vopGP_norow hv1 hso hval h1 h4)
    refine ⟨⟨o, s, s1, base, st, st1⟩ :: tr, by simp [k1], fun r hr => ?_, fun r hr => ?_, fun j r r' hr hr' => ?_, fun r hr => ?_, fun h => (by cases h), k7⟩
    · rcases List.mem_cons.1 hr with rfl | hr
      · exact ⟨⟨.inl hv1, hst1, hids, h1, h2, h3, h4⟩, hv1⟩
      · exact k2 r hr
    · simp at hr
      subst hr
      exact ⟨rfl, rfl, rfl⟩
    · match j with
      | 0 =>
        simp at hr hr'
        subst hr
        obtain ⟨e1, e2, e3⟩ := k3 r' hr'
        exact ⟨e1, e2, e3⟩
      | j + 1 => exact k4 j r r' (by simpa using hr) (by simpa using hr')
    · cases htr : tr with
      | nil =>
        rw [htr] at hr
        simp at hr
        subst hr
        exact k6 htr
      | cons x l =>
        rw [htr] at hr
        rw [List.getLast?_cons_cons] at hr
        exact k5 r (by rw [htr]; exact hr)
end
def eaten (L : Lay) (S : Sig) (r : Rec) : List Nat := (eatIds r.st (eats L S r.o)).getD []
structure Tr (L : Lay) (S : Sig) (call : Orc) (all : List Oper) (tr : List Rec) (s0 : VS) (t0 : Stt) (b0 : Nat) (sm : VS) (tm : Stt) : Prop where
  ok : ∀ (j : Nat) (r : Rec), tr[j]? = some r → RecOk L S call all r ∧ isStore r.o = false
  first : ∀ r, tr[0]? = some r → r.s = s0 ∧ r.st = t0 ∧ r.base = b0
  next : ∀ (j : Nat) (r r' : Rec), tr[j]? = some r → tr[j + 1]? = some r' → r'.s = r.s' ∧ r'.st = r.st' ∧ r'.base = r.base + bump L S r.o
  last : ∀ (j : Nat) (r : Rec), tr[j]? = some r → tr[j + 1]? = none → sm = r.s' ∧ tm = r.st'
  none : tr = [] → sm = s0 ∧ tm = t0
def Keeps (t : Nat) (x y : VS × Stt) : Prop := y.1.get t = x.1.get t ∧ (∀ r, y.1.pe.lookup t = some r → x.1.pe.lookup t = some r) ∧ ∀ n id, ((t, n), id) ∈ y.2.pid ↔ ((t, n), id) ∈ x.2.pid
theorem Keeps.refl (t : Nat) (x : VS × Stt) : Keeps t x x := ⟨rfl, fun _ h => h, fun _ _ => Iff.rfl⟩
theorem Keeps.trans {t : Nat} {x y z : VS × Stt} (h : Keeps t x y) (k : Keeps t y z) : Keeps t x z := ⟨k.1.trans h.1, fun r hr => h.2.1 r (k.2.1 r hr), fun n id => (k.2.2 n id).trans (h.2.2 n id)⟩
section
variable {P : Program} {L : Lay} {S : Sig} {call : Orc} {all : List Oper} {tr : List Rec} {s0 sm : VS} {t0 tm : Stt} {b0 : Nat}
theorem stepV_parts {base : Nat} {o : Oper} {st st' : Stt} (h : stepV L S base o st = some st') : ∃ E, eatIds st (eats L S o) = some E ∧ takesOk L S o = true ∧ dstOk st.len o = true ∧ (o.guard.isSome = true → E = []) ∧
    st'.pid = newPid L S base o st ++ st.pid.filter (fun e => !(o.dst == some e.1.1)) ∧ st'.alive = newAlive L S base o ++ st.alive.filter (fun e => !E.contains e.1) := by
  unfold stepV at h
  split at h
  case isFalse => cases h
  rename_i htk
  simp only [Bool.and_eq_true] at htk
  simp only [Option.bind_eq_some_iff] at h
  obtain ⟨E, hE, h⟩ := h
  split at h
  · cases h
  rename_i hg
  cases h
  refine ⟨E, hE, htk.1, htk.2, fun hgs => ?_, rfl, rfl⟩
  cases E with
  | nil => rfl
  | cons x l => simp [hgs] at hg
theorem newPid_dst {base : Nat} {o : Oper} {st : Stt} {q : Nat × Nat} {id : Nat} (h : (q, id) ∈ newPid L S base o st) : o.dst = some q.1 := by
  unfold newPid at h
  split at h
  · rename_i d hd
    split at h
    · cases h
    · rcases List.mem_append.1 h with h | h
      · simp only [List.mem_map, Prod.mk.injEq] at h
        obtain ⟨e, _, rfl, _⟩ := h
        exact hd
      · simp only [List.mem_filterMap, Option.map_eq_some_iff, Prod.mk.injEq] at h
        obtain ⟨e, _, _, _, rfl, _⟩ := h
        exact hd
  · cases h
theorem runR_frames {o : Oper} {s s' : VS} (hs : RunR L call all o s s') (hst : isStore o = false) (hn : NoTwice s.pe) : Frames o s s' ∧ NoTwice s'.pe := by
  rcases hs with hs | ⟨⟨x, rfl⟩, _⟩
  · exact vopGP_frames hs hst hn
  · exact put_frames hn x
theorem rec_keeps {r : Rec} (h : RecOk L S call all r) (hst : isStore r.o = false) {t : Nat} (hd : r.o.dst ≠ some t) : Keeps t (r.s, r.st) (r.s', r.st') := by
  obtain ⟨hF, _⟩ := runR_frames h.run hst h.once
  obtain ⟨E, _, _, _, _, hpid, _⟩ := stepV_parts (stepSP_value hst h.step)
  refine ⟨hF.get t hd, fun x hx => (hF.pe t x hd hx).1, fun n id => ?_⟩
  simp only
  rw [hpid, List.mem_append, List.mem_filter]
  constructor
  · rintro (hm | ⟨hm, _⟩)
    · exact absurd (newPid_dst hm) hd
    · exact hm
  · intro hm
    exact .inr ⟨hm, by simp only [Bool.not_eq_true', beq_eq_false_iff_ne]; exact hd⟩
def atR (tr : List Rec) (sm : VS) (tm : Stt) (j : Nat) : VS × Stt := match tr[j]? with | some r => (r.s, r.st) | none => (sm, tm)
theorem Tr.step (h : Tr L S call all tr s0 t0 b0 sm tm) {j : Nat} {r : Rec} (hr : tr[j]? = some r) : atR tr sm tm (j + 1) = (r.s', r.st') := by
  unfold atR
  cases hn : tr[j + 1]? with
  | none => obtain ⟨e1, e2⟩ := h.last j r hr hn; simp [e1, e2]
  | some r' => obtain ⟨e1, e2, _⟩ := h.next j r r' hr hn; simp [e1, e2]
theorem Tr.keeps (h : Tr L S call all tr s0 t0 b0 sm tm) {t : Nat} : ∀ (k i : Nat), i + k ≤ tr.length → (∀ (x : Nat) (r : Rec), i ≤ x → x < i + k → tr[x]? = some r → r.o.dst ≠ some t) → Keeps t (atR tr sm tm i) (atR tr sm tm (i + k))
  | 0, i, _, _ => Keeps.refl _ _
  | k + 1, i, hle, hd => by
    have ih := Tr.keeps h k i (by omega) (fun x r h1 h2 hr => hd x r h1 (by omega) hr)
    obtain ⟨r, hr⟩ : ∃ r, tr[i + k]? = some r := ⟨tr[i + k]'(by omega), List.getElem?_eq_getElem _⟩
    have h1 : atR tr sm tm (i + k) = (r.s, r.st) := by unfold atR; rw [hr]
    have h2 := h.step hr
    obtain ⟨hok, hst⟩ := h.ok _ r hr
    refine ih.trans ?_
    rw [h1, show i + (k + 1) = i + k + 1 by omega, h2]
    exact rec_keeps hok hst (hd (i + k) r (by omega) (by omega) hr)
theorem Tr.zero (h : Tr L S call all tr s0 t0 b0 sm tm) : atR tr sm tm 0 = (s0, t0) := by
  unfold atR
  cases hn : tr[0]? with
  | none =>
    have : tr = [] := by simpa using hn
    obtain ⟨e1, e2⟩ := h.none this
    simp [e1, e2]
  | some r => obtain ⟨e1, e2, _⟩ := h.first r hn; simp [e1, e2]
theorem at_end {n : Nat} (hn : tr.length ≤ n) : atR tr sm tm n = (sm, tm) := by
  unfold atR
  rw [List.getElem?_eq_none hn]
theorem eatIds_lt {st : Stt} {base : Nat} (hids : IdsLt st base) : ∀ {l : List (Operand × Nat)} {E : List Nat}, eatIds st l = some E → ∀ id ∈ E, id < base ∧ ∃ k, (id, k) ∈ st.alive
  | [], E, h, id, hid => by cases h; cases hid
  | (.tmp t, k) :: r, E, h, id, hid => by
    unfold eatIds at h
    split at h
    · split at h
      · rename_i hk
        simp only [Option.bind_eq_some_iff] at h
        obtain ⟨l, hl, h⟩ := h
        split at h
        · cases h
        · cases h
          rcases List.mem_cons.1 hid with rfl | hid
          · exact ⟨hids.2 _ _ (mem_of_lookup hk), _, mem_of_lookup hk⟩
          · exact eatIds_lt hids hl id hid
      · cases h
    · cases h
  | (.const c, k) :: r, E, h, id, hid => by
    unfold eatIds at h
    split at h
    · rename_i heq; cases heq
    · rename_i heq; cases heq
    · rename_i heq; cases heq; exact eatIds_lt hids h id hid
    · cases h
  | (.global g, k) :: r, E, h, _, _ => by simp [eatIds] at h
  | (.func g, k) :: r, E, h, _, _ => by simp [eatIds] at h
theorem newAlive_range {base : Nat} {o : Oper} {id k : Nat} (h : (id, k) ∈ newAlive L S base o) : base ≤ id ∧ id < base + bump L S o := by
  unfold newAlive at h
  split at h
  · split at h
    · cases h
    · simp only [List.mem_map, Prod.mk.injEq] at h
      obtain ⟨e, he, rfl, _⟩ := h
      have := foldl_max_lt _ 0 e he
      unfold bump
      omega
  · cases h
theorem Tr.base_mono (h : Tr L S call all tr s0 t0 b0 sm tm) : ∀ (k i : Nat) (r r' : Rec), tr[i]? = some r → tr[i + (k + 1)]? = some r' → r.base + bump L S r.o ≤ r'.base
  | 0, i, r, r', hr, hr' => by obtain ⟨_, _, e⟩ := h.next i r r' hr hr'; omega
  | k + 1, i, r, r', hr, hr' => by
    obtain ⟨r1, hr1⟩ : ∃ r1, tr[i + (k + 1)]? = some r1 := by
      have := (List.getElem?_eq_some_iff.1 hr').1
      exact ⟨tr[i + (k + 1)]'(by omega), List.getElem?_eq_getElem _⟩
    have h1 := Tr.base_mono h k i r r1 hr hr1
    obtain ⟨_, _, e⟩ := h.next _ r1 r' hr1 hr'
    omega
theorem Tr.base_lt (h : Tr L S call all tr s0 t0 b0 sm tm) {i j : Nat} {r r' : Rec} (hij : i < j) (hr : tr[i]? = some r) (hr' : tr[j]? = some r') : r.base + bump L S r.o ≤ r'.base := by
  obtain ⟨k, rfl⟩ : ∃ k, j = i + (k + 1) := ⟨j - i - 1, by omega⟩
  exact h.base_mono k i r r' hr hr'
theorem Tr.base_ge (h : Tr L S call all tr s0 t0 b0 sm tm) {j : Nat} {r : Rec} (hr : tr[j]? = some r) : b0 ≤ r.base := by
  obtain ⟨r0, h0⟩ : ∃ r0, tr[0]? = some r0 := by
    have := (List.getElem?_eq_some_iff.1 hr).1
    exact ⟨tr[0]'(by omega), List.getElem?_eq_getElem _⟩
  obtain ⟨_, _, e⟩ := h.first r0 h0
  rcases Nat.eq_zero_or_pos j with rfl | hj
  · rw [h0] at hr; cases hr; omega
  · have := h.base_lt hj h0 hr
    omega
theorem Tr.alive (h : Tr L S call all tr s0 t0 b0 sm tm) (h0 : IdsLt t0 b0) : ∀ (j : Nat), j ≤ tr.length → ∀ id k, (id, k) ∈ (atR tr sm tm j).2.alive →
    ((id, k) ∈ t0.alive ∨ ∃ (i : Nat) (r : Rec), i < j ∧ tr[i]? = some r ∧ (id, k) ∈ newAlive L S r.base r.o) ∧ ∀ (i : Nat) (r : Rec), i < j → tr[i]? = some r → id ∉ eaten L S r
  | 0, _, id, k, hm => by
    rw [h.zero] at hm
    exact ⟨.inl hm, fun i r hi => by omega⟩
  | j + 1, hle, id, k, hm => by
    obtain ⟨r, hr⟩ : ∃ r, tr[j]? = some r := ⟨tr[j]'(by omega), List.getElem?_eq_getElem _⟩
    rw [h.step hr] at hm
    obtain ⟨hok, hst⟩ := h.ok j r hr
    obtain ⟨E, hE, _, _, _, _, hal⟩ := stepV_parts (stepSP_value hst hok.step)
    have heat : eaten L S r = E := by unfold eaten; rw [hE]; rfl
    simp only at hm
    rw [hal] at hm
    rcases List.mem_append.1 hm with hm | hm
    · refine ⟨.inr ⟨j, r, by omega, hr, hm⟩, fun i r' hi hr' hmem => ?_⟩
      have h1 := newAlive_range hm
      obtain ⟨hok', hst'⟩ := h.ok i r' hr'
      obtain ⟨E', hE', _, _, _, _, _⟩ := stepV_parts (stepSP_value hst' hok'.step)
      have heat' : eaten L S r' = E' := by unfold eaten; rw [hE']; rfl
      rw [heat'] at hmem
      have h2 := (eatIds_lt hok'.ids hE' id hmem).1
      rcases Nat.lt_or_ge i j with hij | hij
      · have := h.base_lt hij hr' hr
        omega
      · have : i = j := by omega
        subst this
        rw [hr] at hr'
        cases hr'
        omega
    · obtain ⟨hm, hnE⟩ := List.mem_filter.1 hm
      have h1 : atR tr sm tm j = (r.s, r.st) := by unfold atR; rw [hr]
      obtain ⟨c1, c2⟩ := Tr.alive h h0 j (by omega) id k (by rw [h1]; exact hm)
      refine ⟨c1.imp (fun h => h) (fun ⟨i, r', hi, rest⟩ => ⟨i, r', by omega, rest⟩), fun i r' hi hr' => ?_⟩
      rcases Nat.lt_or_ge i j with hij | hij
      · exact c2 i r' hij hr'
      · have : i = j := by omega
        subst this
        rw [hr] at hr'
        cases hr'
        rw [heat]
        simpa using hnE
end
end Go.Proofs.Ytbodfaghedolbaa
namespace Go.Proofs.Ytbodfaghedolbaa
open Go Go.RowKit
def looksAt (ops : List Oper) (o : Oper) : List Nat :=
  (o.op.operands.toList.filterMap fun | .tmp t => some t | _ => none) ++ (match o.guard with | some g => ((ops[g.1]?).bind (·.dst)).toList | none => [])
def waits (o : Oper) (i : Nat) : Bool := o.after.toList.any fun e => e.on == i && Region.binds .any e
def anyChk (ops : List Oper) : Bool :=
  let ds := ops.zipIdx.filterMap fun e => e.1.dst.map fun d => (d, e.2)
  ops.zipIdx.all fun e =>
    !isStore e.1 && e.1.dst.isSome &&
    ds.all (fun x => x.2 == e.2 || !(e.1.dst == some x.1)) &&
    (looksAt ops e.1).all (fun t => ds.all fun x => !(x.1 == t) || (waits e.1 x.2 && decide (x.2 < e.2))) &&
    (match e.1.op with
     | .fieldAddr _ (.tmp t) _ => ds.all fun x => !(x.1 == t) || ((ops[x.2]?).map isPtr).getD false
     | _ => true)
structure AnyOk (ops : List Oper) : Prop where
  store : ∀ (j : Nat) (o : Oper), ops[j]? = some o → isStore o = false ∧ ∃ d, o.dst = some d
  once : ∀ (i j : Nat) (o o' : Oper) (d : Nat), ops[i]? = some o → ops[j]? = some o' → o.dst = some d → o'.dst = some d → i = j
  looks : ∀ (i j : Nat) (o o' : Oper) (t : Nat), ops[i]? = some o → ops[j]? = some o' → o.dst = some t → t ∈ looksAt ops o' → waits o' i = true ∧ i < j
  ptr : ∀ (i j : Nat) (o o' : Oper) (t ty f : Nat), ops[i]? = some o → ops[j]? = some o' → o.dst = some t → o'.op = .fieldAddr ty (.tmp t) f → isPtr o = true
theorem zipIdx_mem {α : Type} {l : List α} {i : Nat} {x : α} (h : l[i]? = some x) : (x, i) ∈ l.zipIdx := by
  rw [List.mem_zipIdx_iff_getElem?]
  exact h
theorem anyChk_ok {ops : List Oper} (h : anyChk ops = true) : AnyOk ops := by
  unfold anyChk at h
  simp only [List.all_eq_true, Bool.and_eq_true, Bool.or_eq_true, Bool.not_eq_true', beq_eq_false_iff_ne, decide_eq_true_eq, beq_iff_eq] at h
  have hds : ∀ (i : Nat) (o : Oper) (d : Nat), ops[i]? = some o → o.dst = some d → (d, i) ∈ ops.zipIdx.filterMap fun e => e.1.dst.map fun d => (d, e.2) := fun i o d hi hd => by
    rw [List.mem_filterMap]
    exact ⟨(o, i), zipIdx_mem hi, by simp [hd]⟩
  refine ⟨fun j o hj => ?_, fun i j o o' d hi hj hd hd' => ?_, fun i j o o' t hi hj hd ht => ?_, fun i j o o' t ty f hi hj hd hop => ?_⟩
  · obtain ⟨⟨⟨⟨h1, h2⟩, _⟩, _⟩, _⟩ := h _ (zipIdx_mem hj)
    exact ⟨h1, Option.isSome_iff_exists.1 h2⟩
  · obtain ⟨⟨⟨_, h4⟩, _⟩, _⟩ := h _ (zipIdx_mem hj)
    rcases h4 _ (hds i o d hi hd) with h | h
    · exact h
    · exact absurd hd' h
  · obtain ⟨⟨_, h5⟩, _⟩ := h _ (zipIdx_mem hj)
    rcases h5 t ht _ (hds i o t hi hd) with h | h
    · exact absurd rfl h
    · exact h
  · obtain ⟨_, h6⟩ := h _ (zipIdx_mem hj)
    rw [hop] at h6
    simp only [List.all_eq_true, Bool.or_eq_true, Bool.not_eq_true', beq_eq_false_iff_ne] at h6
    rcases h6 _ (hds i o t hi hd) with h | h
    · exact absurd rfl h
    · simpa [hi] using h
section
variable {P : Program} {L : Lay} {S : Sig} {call : Orc} {all : List Oper} {tr : List Rec} {s0 sm : VS} {t0 tm : Stt} {b0 : Nat} {Own : Nat → Prop}
theorem tr_op {ops : List Oper} (hops : tr.map (·.o) = ops) {j : Nat} {r : Rec} (h : tr[j]? = some r) : ops[j]? = some r.o := by
  rw [← hops, List.getElem?_map, h]; rfl
theorem vop_ptr {o : Oper} {s s' : VS} (hs : vopP L call o s = some s') (hst : isStore o = false) {t b off : Nat} (h : s'.pe.lookup t = some (.box b off)) (hn : NoTwice s.pe) :
    s.pe.lookup t = some (.box b off) ∨ ∃ ty x f off', o.op = .fieldAddr ty x f ∧ ptrO s x = some (.box b off') := by
  by_cases hd : o.dst = some t
  · right
    unfold vopP at hs
    have plain : ∀ x, s' = s.put o.dst x → False := fun x e => by
      rw [e, hd, lookup_put] at h
      cases h
    split at hs <;> try simp only [Option.bind_eq_some_iff, Option.map_eq_some_iff] at hs
    · obtain ⟨v, _, rfl⟩ := hs; exact (plain _ rfl).elim
    · obtain ⟨v, _, rfl⟩ := hs; exact (plain _ rfl).elim
    · obtain ⟨_, _, v, _, rfl⟩ := hs; exact (plain _ rfl).elim
    · obtain ⟨_, _, rfl⟩ := hs; exact (plain _ rfl).elim
    · obtain ⟨_, _, _, _, hs⟩ := hs; split at hs <;> cases hs; exact (plain _ rfl).elim
    · obtain ⟨_, _, hs⟩ := hs; split at hs
      · simp only [Option.map_eq_some_iff] at hs; obtain ⟨_, _, rfl⟩ := hs; exact (plain _ rfl).elim
      · cases hs
    · obtain ⟨_, _, _, _, hs⟩ := hs; split at hs <;> cases hs; exact (plain _ rfl).elim
    · obtain ⟨_, _, _, _, hs⟩ := hs
      split at hs
      · split at hs
        · simp only [Option.map_eq_some_iff] at hs; obtain ⟨_, _, rfl⟩ := hs; exact (plain _ rfl).elim
        · cases hs
      · split at hs
        · split at hs
          · simp only [Option.map_eq_some_iff] at hs; obtain ⟨_, _, rfl⟩ := hs; exact (plain _ rfl).elim
          · cases hs
        · cases hs
      · cases hs
    · rename_i hop; simp [isStore, hop] at hst
    · split at hs
      · simp only [Option.bind_eq_some_iff] at hs
        obtain ⟨_, _, hs⟩ := hs
        split at hs
        · simp only [Option.bind_eq_some_iff, Option.map_eq_some_iff] at hs
          obtain ⟨_, _, _, _, rfl⟩ := hs
          exact (plain _ rfl).elim
        · cases hs
      · simp only [Option.bind_eq_some_iff, Option.map_eq_some_iff] at hs
        obtain ⟨_, _, _, _, _, _, rfl⟩ := hs
        exact (plain _ rfl).elim
    · obtain ⟨_, _, rfl⟩ := hs; exact (plain _ rfl).elim
    · rename_i ty x f hop
      obtain ⟨_, _, r, hr, e, _, hs⟩ := hs
      rw [hd] at hs
      simp only at hs
      split at hs
      · cases hs
        simp only [List.lookup, beq_self_eq_true] at h
        cases r with
        | ref cs => cases h
        | box b' off' => cases h; exact ⟨ty, x, f, off', hop, hr⟩
        | el _ _ _ _ => cases h
      · cases hs
    · obtain ⟨_, _, _, _, _, _, hs⟩ := hs
      rw [hd] at hs
      simp only at hs
      split at hs
      · split at hs
        · cases hs
          simp only [List.lookup, beq_self_eq_true] at h
          cases h
        · cases hs
      · cases hs
    · obtain ⟨_, _, _, _, _, _, _, _, hs⟩ := hs; split at hs <;> cases hs; exact (plain _ rfl).elim
    · split at hs
      · simp only [Option.map_eq_some_iff] at hs; obtain ⟨_, _, rfl⟩ := hs; exact (plain _ rfl).elim
      · cases hs
    · obtain ⟨_, _, _, _, _, _, hs⟩ := hs; split at hs <;> cases hs; exact (plain _ rfl).elim
    · split at hs
      · split at hs
        · simp only [Option.bind_eq_some_iff, Option.map_eq_some_iff] at hs; obtain ⟨_, _, _, _, rfl⟩ := hs; exact (plain _ rfl).elim
        · cases hs
      · cases hs
    · split at hs
      · simp only [Option.bind_eq_some_iff] at hs
        obtain ⟨_, _, _, _, _, _, hs⟩ := hs; split at hs <;> cases hs; exact (plain _ rfl).elim
      · cases hs
    · split at hs
      · simp only [Option.bind_eq_some_iff, Option.map_eq_some_iff] at hs; obtain ⟨_, _, _, _, rfl⟩ := hs; exact (plain _ rfl).elim
      · cases hs
    · obtain ⟨_, _, _, _, rfl⟩ := hs; exact (plain _ rfl).elim
    · cases hs
  · left
    exact ((vopP_frames hs hst hn).1.pe t _ hd h).1
theorem vopG_und {o : Oper} {s s' : VS} (hs : vopGP L call all o s = some s') (hp : isPtr o = true) {d : Nat} (hd : o.dst = some d) : s'.get d = .und := by
  have hput : ∀ r : Ptr, VS.get { (s.put (some d) .und) with pe := (d, r) :: (s.put (some d) .und).pe } d = .und := fun r => by
    show (s.put (some d) .und).get d = .und
    rw [get_put]; split <;> rfl
  have hv : vopP L call o s = some s' → s'.get d = .und := by
    intro hs
    unfold isPtr at hp
    split at hp
    · rename_i ty x f hop
      simp only [vopP, hop, Option.bind_eq_some_iff] at hs
      obtain ⟨_, _, r, _, e, _, hs⟩ := hs
      rw [hd] at hs
      simp only at hs
      split at hs
      · cases hs; exact hput _
      · cases hs
    · rename_i ty x ix hop
      simp only [vopP, hop, Option.bind_eq_some_iff] at hs
      obtain ⟨_, _, _, _, _, _, hs⟩ := hs
      rw [hd] at hs
      simp only at hs
      split at hs
      · split at hs
        · cases hs; exact hput _
        · cases hs
      · cases hs
    · cases hp
  unfold vopGP at hs
  split at hs
  · exact hv hs
  · simp only [Option.bind_eq_some_iff] at hs
    obtain ⟨t, _, hs⟩ := hs
    cases t with
    | true => exact hv hs
    | false =>
      cases hs
      rw [hd, get_put]
      split <;> rfl
theorem Tr.targets (h : Tr L S call all tr s0 t0 b0 sm tm) {ops : List Oper} (hops : tr.map (·.o) = ops) (hA : AnyOk ops) (hpe : s0.pe = []) : ∀ (j : Nat), j ≤ tr.length → ∀ t b off, (atR tr sm tm j).1.pe.lookup t = some (.box b off) →
    ∀ (i : Nat) (r : Rec), tr[i]? = some r → r.o.dst ≠ some b
  | 0, _, t, b, off, hl => by
    rw [h.zero] at hl
    simp only [hpe] at hl
    cases hl
  | j + 1, hle, t, b, off, hl => by
    obtain ⟨r, hr⟩ : ∃ r, tr[j]? = some r := ⟨tr[j]'(by omega), List.getElem?_eq_getElem _⟩
    rw [h.step hr] at hl
    simp only at hl
    obtain ⟨hok, hst⟩ := h.ok j r hr
    have h1 : atR tr sm tm j = (r.s, r.st) := by unfold atR; rw [hr]
    have ih := Tr.targets h hops hA hpe j (by omega)
    rw [h1] at ih
    simp only at ih
    have hcase : r.s.pe.lookup t = some (.box b off) ∨ ∃ ty x f off', r.o.op = .fieldAddr ty x f ∧ ptrO r.s x = some (.box b off') := by
      rcases hok.run with hrun | ⟨⟨z, hz⟩, _⟩
      case inr =>
        left
        rw [hz] at hl
        by_cases hd : r.o.dst = some t
        · rw [hd, lookup_put] at hl
          cases z <;> cases hl
        · exact ((put_frames hok.once _).1.pe t _ hd hl).1
      unfold vopGP at hrun
      split at hrun
      · exact vop_ptr hrun hst hl hok.once
      · simp only [Option.bind_eq_some_iff] at hrun
        obtain ⟨u, _, hrun⟩ := hrun
        cases u with
        | true => exact vop_ptr hrun hst hl hok.once
        | false =>
          simp only [Bool.false_eq_true, if_false, Option.some.injEq] at hrun
          rw [← hrun] at hl
          left
          by_cases hd : r.o.dst = some t
          · rw [hd, lookup_put] at hl; cases hl
          · exact ((put_frames hok.once _).1.pe t _ hd hl).1
    rcases hcase with hc | ⟨ty, x, f, off', hop, hp⟩
    · exact ih t b off hc
    · unfold ptrO at hp
      split at hp
      case h_2 => cases hp
      rename_i y
      split at hp
      · rename_i q hq
        cases hp
        exact ih y b off' hq
      · split at hp
        case h_2 => cases hp
        rename_i cs hcs
        cases hp
        intro i r' hr' hd
        have hptr := hA.ptr i j r'.o r.o b ty f (tr_op hops hr') (tr_op hops hr) hd hop
        have hlt := (hA.looks i j r'.o r.o b (tr_op hops hr') (tr_op hops hr) hd (by simp [looksAt, hop, Op.operands])).2
        -- it was written by a pointer's operation: no box
        obtain ⟨hok', hst'⟩ := h.ok i r' hr'
        have hund : r'.s'.get b = .und := by
          rcases hok'.run with hrun | ⟨_, hnp⟩
          · exact vopG_und hrun hptr hd
          · rw [hptr] at hnp; cases hnp
        have hk := h.keeps (t := b) (j - (i + 1)) (i + 1) (by omega) (fun x rx h1 h2 hrx hdx => by
          have := hA.once i x r'.o rx.o b (tr_op hops hr') (tr_op hops hrx) hd hdx
          omega)
        rw [show i + 1 + (j - (i + 1)) = j by omega, h1, h.step hr'] at hk
        have := hk.1
        simp only at this
        rw [this, hund] at hcs
        cases hcs
def Vis (tr : List Rec) (D : Nat → Prop) (t : Nat) : Prop := ∀ (j : Nat) (r : Rec), tr[j]? = some r → r.o.dst = some t → D j
def Cre (L : Lay) (S : Sig) (tr : List Rec) (b0 : Nat) (D : Nat → Prop) (id : Nat) : Prop := id < b0 ∨ ∃ (j : Nat) (r : Rec), D j ∧ tr[j]? = some r ∧ ∃ k, (id, k) ∈ newAlive L S r.base r.o
def Al (L : Lay) (S : Sig) (tr : List Rec) (t0 : Stt) (D : Nat → Prop) (id k : Nat) : Prop :=
  ((id, k) ∈ t0.alive ∨ ∃ (j : Nat) (r : Rec), D j ∧ tr[j]? = some r ∧ (id, k) ∈ newAlive L S r.base r.o) ∧ ∀ (i : Nat) (r : Rec), D i → tr[i]? = some r → id ∉ eaten L S r
structure InvD (L : Lay) (S : Sig) (tr : List Rec) (s0 sm : VS) (t0 tm : Stt) (b0 : Nat) (D : Nat → Prop) (p : Stb) (w : World) (m : Array Value) (Own : Nat → Prop) : Prop where
  size : m.size = sm.σ.length
  slots : ∀ t, Vis tr D t → SlotOk p w m sm t
  zp : Zp p w
  own : ∀ b, w.heap.size ≤ b → Own b
  box : ∀ d cs, Vis tr D d → sm.get d = .box cs → ∃ b, m.getD d undef = .pointer (some ⟨b, 0, none⟩) ∧ p b = 0 ∧ Own b ∧ b < w.heap.size
  boxd : ∀ d d' cs cs' b, Vis tr D d → Vis tr D d' → d ≠ d' → sm.get d = .box cs → sm.get d' = .box cs' → m.getD d undef = .pointer (some ⟨b, 0, none⟩) → m.getD d' undef ≠ .pointer (some ⟨b, 0, none⟩)
  ate : ∀ (i : Nat) (r : Rec), D i → tr[i]? = some r → ∀ id ∈ eaten L S r, Cre L S tr b0 D id
  rooms : ∃ val : Nat → Value,
    (∀ q id, (q, id) ∈ tm.pid → Vis tr D q.1 → cellOf w (m.getD q.1 undef) q.2 = some (val id) ∧ sm.get q.1 ≠ .und ∧ Cre L S tr b0 D id) ∧
    (∀ id k, Al L S tr t0 D id k → Rt p w (val id) k) ∧
    (∀ id k b, Al L S tr t0 D id k → blkOf (val id) = some b → Own b ∧ ∀ d cs, Vis tr D d → sm.get d = .box cs → m.getD d undef ≠ .pointer (some ⟨b, 0, none⟩)) ∧
    (∀ id k id' k' b, Al L S tr t0 D id k → Al L S tr t0 D id' k' → id ≠ id' → blkOf (val id) = some b → blkOf (val id') ≠ some b)
end
end Go.Proofs.Ytbodfaghedolbaa

/- Generic texts and models for the proofs of this seat: part 18. -/
import Derived.Test.YtbodfaghedolbaaS17
set_option linter.unusedVariables false
set_option linter.unusedSimpArgs false
namespace Go.Proofs.Ytbodfaghedolbaa
open Go Go.RowKit
section
variable {P : Program} {L : Lay} {S : Sig} {call : Orc} {p p' : Stb} {w w' : World} {a : Act} {s s' : VS} {q : SPe} {o : Oper} {st st' : Stt} {Own : Nat → Prop} {base : Nat}
theorem vop_shape (hs : vopP L call o s = some s') (hst : isStore o = false) : (∃ x, s' = s.put o.dst x) ∨ ∃ d r, o.dst = some d ∧ s' = { (s.put (some d) .und) with pe := (d, r) :: (s.put (some d) .und).pe } := by
  unfold vopP at hs
  split at hs <;> try simp only [Option.bind_eq_some_iff, Option.map_eq_some_iff] at hs
  · obtain ⟨v, _, rfl⟩ := hs; exact .inl ⟨_, rfl⟩
  · obtain ⟨v, _, rfl⟩ := hs; exact .inl ⟨_, rfl⟩
  · obtain ⟨_, _, v, _, rfl⟩ := hs; exact .inl ⟨_, rfl⟩
  · obtain ⟨_, _, rfl⟩ := hs; exact .inl ⟨_, rfl⟩
  · obtain ⟨_, _, _, _, hs⟩ := hs; split at hs <;> cases hs; exact .inl ⟨_, rfl⟩
  · obtain ⟨_, _, hs⟩ := hs; split at hs
    · simp only [Option.map_eq_some_iff] at hs; obtain ⟨_, _, rfl⟩ := hs; exact .inl ⟨_, rfl⟩
    · cases hs
  · obtain ⟨_, _, _, _, hs⟩ := hs; split at hs <;> cases hs; exact .inl ⟨_, rfl⟩
  · obtain ⟨_, _, _, _, hs⟩ := hs
    split at hs
    · split at hs
      · simp only [Option.map_eq_some_iff] at hs; obtain ⟨_, _, rfl⟩ := hs; exact .inl ⟨_, rfl⟩
      · cases hs
    · split at hs
      · split at hs
        · simp only [Option.map_eq_some_iff] at hs; obtain ⟨_, _, rfl⟩ := hs; exact .inl ⟨_, rfl⟩
        · cases hs
      · cases hs
    · cases hs
  · rename_i hop; simp [isStore, hop] at hst
  · split at hs
    · simp only [Option.bind_eq_some_iff] at hs
      obtain ⟨_, _, hs⟩ := hs
      split at hs
      · simp only [Option.bind_eq_some_iff, Option.map_eq_some_iff] at hs
        obtain ⟨_, _, _, _, rfl⟩ := hs
        exact .inl ⟨_, rfl⟩
      · cases hs
    · simp only [Option.bind_eq_some_iff, Option.map_eq_some_iff] at hs
      obtain ⟨_, _, _, _, _, _, rfl⟩ := hs
      exact .inl ⟨_, rfl⟩
  · obtain ⟨_, _, rfl⟩ := hs; exact .inl ⟨_, rfl⟩
  · obtain ⟨_, _, r, _, e, _, hs⟩ := hs
    split at hs
    · rename_i d hd
      split at hs
      · cases hs; exact .inr ⟨d, _, hd, rfl⟩
      · cases hs
    · cases hs
  · obtain ⟨_, _, _, _, _, _, hs⟩ := hs
    split at hs
    · split at hs
      · rename_i d hd
        split at hs
        · cases hs; exact .inr ⟨d, _, hd, rfl⟩
        · cases hs
      · cases hs
    · cases hs
  · obtain ⟨_, _, _, _, _, _, _, _, hs⟩ := hs; split at hs <;> cases hs; exact .inl ⟨_, rfl⟩
  · split at hs
    · simp only [Option.map_eq_some_iff] at hs; obtain ⟨_, _, rfl⟩ := hs; exact .inl ⟨_, rfl⟩
    · cases hs
  · obtain ⟨_, _, _, _, _, _, hs⟩ := hs; split at hs <;> cases hs; exact .inl ⟨_, rfl⟩
  · split at hs
    · split at hs
      · simp only [Option.bind_eq_some_iff, Option.map_eq_some_iff] at hs; obtain ⟨_, _, _, _, rfl⟩ := hs; exact .inl ⟨_, rfl⟩
      · cases hs
    · cases hs
  · split at hs
    · simp only [Option.bind_eq_some_iff] at hs
      obtain ⟨_, _, _, _, _, _, hs⟩ := hs; split at hs <;> cases hs; exact .inl ⟨_, rfl⟩
    · cases hs
  · split at hs
    · simp only [Option.bind_eq_some_iff, Option.map_eq_some_iff] at hs; obtain ⟨_, _, _, _, rfl⟩ := hs; exact .inl ⟨_, rfl⟩
    · cases hs
  · obtain ⟨_, _, _, _, rfl⟩ := hs; exact .inl ⟨_, rfl⟩
  · cases hs
theorem vopG_fwd {all : List Oper} (hs : vopGP L call all o s = some s') (hst : isStore o = false) (hn : NoTwice s.pe) {t : Nat} {r : Ptr} (hl : s.pe.lookup t = some r) (hd : o.dst ≠ some t) (hr : ∀ d, o.dst = some d → r.at d = false) : s'.pe.lookup t = some r := by
  have hput : ∀ x, (s.put o.dst x).pe.lookup t = some r := fun x => by
    cases ho : o.dst with
    | none => exact hl
    | some d =>
      have hne : t ≠ d := fun e => hd (by rw [ho, e])
      show (s.pe.filter _).lookup t = some r
      rw [lookup_filter_once _ hn, hl]
      simp only
      rw [if_pos]
      simp [hne, hr d ho]
  have hv : vopP L call o s = some s' → s'.pe.lookup t = some r := fun hs => by
    rcases vop_shape hs hst with ⟨x, rfl⟩ | ⟨d, r', ho, rfl⟩
    · exact hput x
    · have hne : t ≠ d := fun e => hd (by rw [ho, e])
      have := hput .und
      rw [ho] at this
      simp only [List.lookup, show (t == d) = false by simpa using hne]
      exact this
  unfold vopGP at hs
  split at hs
  · exact hv hs
  · simp only [Option.bind_eq_some_iff] at hs
    obtain ⟨u, _, hs⟩ := hs
    cases u with
    | true => exact hv hs
    | false =>
      simp only [Bool.false_eq_true, if_false, Option.some.injEq] at hs
      rw [← hs]
      exact hput _
theorem runR_fwd {all : List Oper} (hs : RunR L call all o s s') (hst : isStore o = false) (hn : NoTwice s.pe) {t : Nat} {r : Ptr} (hl : s.pe.lookup t = some r) (hd : o.dst ≠ some t) (hr : ∀ d, o.dst = some d → r.at d = false) : s'.pe.lookup t = some r := by
  rcases hs with hs | ⟨⟨x, rfl⟩, _⟩
  · exact vopG_fwd hs hst hn hl hd hr
  · cases ho : o.dst with
    | none => exact hl
    | some d =>
      have hne : t ≠ d := fun e => hd (by rw [ho, e])
      show (s.pe.filter _).lookup t = some r
      rw [lookup_filter_once _ hn, hl]
      simp only
      rw [if_pos]
      simp [hne, hr d ho]
theorem moved_src {e : Nat × (Nat × Nat)} (h : e ∈ moved L q o) : Operand.tmp e.2.1 ∈ o.op.operands.toList ∨ ∃ x ∈ o.op.operands.toList, ∃ off, ptrS q x = some (e.2.1, off) := by
  unfold moved at h
  split at h
  · rename_i x hop
    split at h
    · simp only [List.mem_map] at h; obtain ⟨n, _, rfl⟩ := h; exact .inl (by simp [hop, Op.operands])
    · cases h
  · rename_i x hop
    split at h
    · simp only [List.mem_map] at h; obtain ⟨n, _, rfl⟩ := h; exact .inl (by simp [hop, Op.operands])
    · cases h
  · rename_i t x hop
    split at h
    · simp only [List.mem_map] at h; obtain ⟨n, _, rfl⟩ := h; exact .inl (by simp [hop, Op.operands])
    · cases h
  · rename_i t x hop
    split at h
    · rename_i i d off hi hps
      simp only [List.mem_map] at h; obtain ⟨n, _, rfl⟩ := h
      exact .inr ⟨x, by simp [hop, Op.operands], off, hps⟩
    · cases h
  · rename_i t ps hop
    split at h
    · simp only [List.mem_filterMap] at h
      obtain ⟨n, _, h⟩ := h
      split at h
      · rename_i r hr
        cases h
        left
        simp only [hop, Op.operands]
        clear hop
        generalize ps.toList = l at hr
        induction l with
        | nil => simp [builtFrom] at hr
        | cons y l ih =>
          obtain ⟨f', x'⟩ := y
          unfold builtFrom at hr
          split at hr
          · rename_i r' hr'
            cases hr
            exact List.mem_cons_of_mem _ (ih hr')
          · split at hr
            · split at hr
              · cases x' with
                | tmp y =>
                  simp only [Option.some.injEq] at hr
                  subst hr
                  exact List.mem_cons_self
                | const c => simp at hr
                | global g => simp at hr
                | func g => simp at hr
              · cases hr
            · cases hr
      · cases h
    · cases h
  · rename_i x j hop
    split at h
    · split at h
      · simp only [List.mem_map] at h; obtain ⟨n, _, rfl⟩ := h; exact .inl (by simp [hop, Op.operands])
      · cases h
    · cases h
  · cases h
theorem eatIds_gen {val : Nat → Value} {A : Nat → Nat → Prop} (hA1 : ∀ id k, A id k → Rt p w (val id) k) (hA2 : ∀ id k id' k' b, A id k → A id' k' → id ≠ id' → blkOf (val id) = some b → blkOf (val id') ≠ some b) :
    ∀ {l : List (Operand × Nat)} {E : List Nat}, eatIds st l = some E → (∀ x ∈ l, ∃ c, Rep p w (a.eval x.1) c) →
    (∀ x ∈ l, ∀ t, x.1 = .tmp t → ∀ id k, st.pid.lookup (t, 0) = some id → st.alive.lookup id = some k → id ∈ E → cellOf w (a.tmps.getD t undef) 0 = some (val id) ∧ A id k) →
    (∀ x ∈ l, Rt p w (a.eval x.1) x.2 ∧ ∀ b, blkOf (a.eval x.1) = some b → ∃ id ∈ E, ∃ k, A id k ∧ blkOf (val id) = some b) ∧
    (∀ (i j : Nat) (x y : Operand × Nat) (b : Nat), i ≠ j → l[i]? = some x → l[j]? = some y → blkOf (a.eval x.1) = some b → blkOf (a.eval y.1) ≠ some b)
  | [], E, _, _, _ => ⟨fun x hx => (by cases hx), fun i j x y b _ hx => (by simp at hx)⟩
  | (.tmp t, k) :: r, E, h, hrep, hp => by
    unfold eatIds at h
    split at h
    · rename_i id hid
      split at h
      · rename_i hk
        simp only [Option.bind_eq_some_iff] at h
        obtain ⟨l, hl, h⟩ := h
        split at h
        · cases h
        · rename_i hnot
          cases h
          obtain ⟨ih1, ih2⟩ := eatIds_gen hA1 hA2 hl (fun x hx => hrep x (List.mem_cons_of_mem _ hx)) (fun x hx t ht id k h1 h2 h3 => hp x (List.mem_cons_of_mem _ hx) t ht id k h1 h2 (List.mem_cons_of_mem _ h3))
          obtain ⟨hc, hm⟩ := hp (.tmp t, k) List.mem_cons_self t rfl id k hid hk List.mem_cons_self
          have hrt := hA1 _ _ hm
          have hval : a.eval (.tmp t) = val id := by
            obtain ⟨c, hc0⟩ := hrep (.tmp t, k) List.mem_cons_self
            have hc' : RepS p w (a.eval (.tmp t)) (.cell c) := hc0
            have h2 : cellOf w (a.eval (.tmp t)) 0 = some (val id) := hc
            rw [cellOf_SV hc', hc0.cells] at h2
            simpa using h2
          have hcross : ∀ (j : Nat) (y : Operand × Nat) (b : Nat), r[j]? = some y → blkOf (val id) = some b → blkOf (a.eval y.1) ≠ some b := by
            intro j y b hy hb hb'
            obtain ⟨id', hid', k', hm', hb2⟩ := (ih1 y (List.mem_of_getElem? hy)).2 b hb'
            have hne : id ≠ id' := fun e => hnot (by rw [e]; simpa using hid')
            exact hA2 id k id' k' b hm hm' hne hb hb2
          refine ⟨fun x hx => ?_, fun i j x y b hij hx hy hb => ?_⟩
          · rcases List.mem_cons.1 hx with rfl | hx
            · refine ⟨by rw [hval]; exact hrt, fun b hb => ⟨id, List.mem_cons_self, k, hm, by rw [← hval]; exact hb⟩⟩
            · obtain ⟨h1, h2⟩ := ih1 x hx
              exact ⟨h1, fun b hb => by obtain ⟨id', hi, rest⟩ := h2 b hb; exact ⟨id', List.mem_cons_of_mem _ hi, rest⟩⟩
          · match i, j with
            | 0, 0 => exact absurd rfl hij
            | 0, j + 1 =>
              simp at hx
              subst hx
              exact hcross j y b (by simpa using hy) (by rw [← hval]; exact hb)
            | i + 1, 0 =>
              simp at hy
              subst hy
              intro hb'
              rw [hval] at hb'
              exact hcross i x b (by simpa using hx) hb' hb
            | i + 1, j + 1 => exact ih2 i j x y b (by omega) (by simpa using hx) (by simpa using hy) hb
      · cases h
    · cases h
  | (.const c, k) :: r, E, h, hrep, hp => by
    unfold eatIds at h
    split at h
    · rename_i heq; cases heq
    · rename_i heq; cases heq
    · rename_i heq
      cases heq
      obtain ⟨ih1, ih2⟩ := eatIds_gen hA1 hA2 h (fun x hx => hrep x (List.mem_cons_of_mem _ hx)) (fun x hx => hp x (List.mem_cons_of_mem _ hx))
      refine ⟨fun x hx => ?_, fun i j x y b hij hx hy hb => ?_⟩
      · rcases List.mem_cons.1 hx with rfl | hx
        · exact ⟨.inl rfl, fun b hb => by cases hb⟩
        · exact ih1 x hx
      · match i, j with
        | 0, 0 => exact absurd rfl hij
        | 0, j + 1 =>
          simp at hx
          subst hx
          cases hb
        | i + 1, 0 =>
          simp at hy
          subst hy
          intro hb'
          cases hb'
        | i + 1, j + 1 => exact ih2 i j x y b (by omega) (by simpa using hx) (by simpa using hy) hb
    · cases h
  | (.global g, k) :: r, E, h, _, _ => by simp [eatIds] at h
  | (.func g, k) :: r, E, h, _, _ => by simp [eatIds] at h
end
end Go.Proofs.Ytbodfaghedolbaa

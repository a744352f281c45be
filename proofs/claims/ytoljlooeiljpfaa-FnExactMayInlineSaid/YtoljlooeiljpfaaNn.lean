/- One operation, between two states of what is known. -/
import Derived.Test.YtoljlooeiljpfaaNm
namespace Go.Proofs.Ytoljlooeiljpfaa
open Go Go.RowKit
section
variable {P : Program} {L : Lay} {S : Sig} {call : Orc} {p p' : Nat → Nat} {w w' : World} {a : Act} {s s' : VS} {q : SPe} {o : Oper} {st st' : Stt} {Own : Nat → Prop}

theorem lookup_filter_once {β : Type} (f : Nat × β → Bool) {t : Nat} : ∀ {l : List (Nat × β)}, NoTwice l → (l.filter f).lookup t = match l.lookup t with | some r => if f (t, r) then some r else none | none => none
  | [], _ => rfl
  | (k, v) :: l, ⟨h1, h2⟩ => by
    have ih := lookup_filter_once f (t := t) h2
    by_cases hk : t = k
    · subst hk
      have hnone : l.lookup t = none := by
        rcases h : l.lookup t with _ | r
        · rfl
        · exact absurd rfl (h1 (t, r) (mem_of_lookup h))
      rw [hnone] at ih
      rcases hf : f (t, v) with _ | _
      · rw [List.filter_cons_of_neg (by simp [hf])]
        simp only [List.lookup, beq_self_eq_true, hf]
        exact ih
      · rw [List.filter_cons_of_pos (by simp [hf])]
        simp [List.lookup, hf]
    · have hb : (t == k) = false := by simpa using hk
      rcases hf : f (k, v) with _ | _
      · rw [List.filter_cons_of_neg (by simp [hf])]
        simp only [List.lookup, hb]
        exact ih
      · rw [List.filter_cons_of_pos (by simp [hf])]
        simp only [List.lookup, hb]
        exact ih

def keepS (d t : Nat) (r : Option (Nat × Nat)) : Bool := !(t == d) && !(match r with | some r => r.1 == d | none => false)
def keepP (d t : Nat) (r : Ptr) : Bool := !(t == d) && !r.at d
theorem keepS_some (d t b off : Nat) : keepS d t (some (b, off)) = keepP d t (.box b off) := rfl
/-- Pointers to slot d are cut on both sides. -/
theorem spe_cut (h : SPeOk q s) (h1 : NoTwice q) (h2 : NoTwice s.pe) (d : Nat) (x : AV) : SPeOk (cutS d q) (s.put (some d) x) := by
  have hl : ∀ t, (cutS d q).lookup t = match q.lookup t with | some r => if keepS d t r then some r else none | none => none := fun t => by
    unfold cutS
    rw [lookup_filter_once _ h1]
    cases q.lookup t <;> rfl
  have hr : ∀ t, (s.put (some d) x).pe.lookup t = match s.pe.lookup t with | some r => if keepP d t r then some r else none | none => none := fun t => by
    unfold VS.put
    simp only
    rw [lookup_filter_once _ h2]
    cases s.pe.lookup t <;> rfl
  constructor
  · intro t ht
    rw [hl] at ht
    rw [hr]
    cases hq : q.lookup t with
    | none => rw [h.1 t hq]
    | some r =>
      rw [hq] at ht
      simp only at ht
      by_cases hc : keepS d t r = true
      · rw [if_pos hc] at ht; cases ht
      · cases r with
        | none =>
          have hd : t = d := by
            rcases hb : (t == d) with _ | _
            · simp [keepS, hb] at hc
            · simpa using hb
          subst hd
          cases s.pe.lookup t <;> simp [keepP]
        | some r =>
          rw [h.2 t r.1 r.2 hq]
          simp only
          rw [if_neg (by rw [← keepS_some]; exact hc)]
  · intro t b off ht
    rw [hl] at ht
    rw [hr]
    cases hq : q.lookup t with
    | none => rw [hq] at ht; cases ht
    | some r =>
      rw [hq] at ht
      simp only at ht
      by_cases hc : keepS d t r = true
      · rw [if_pos hc] at ht
        cases ht
        rw [h.2 t b off hq]
        simp only
        rw [if_pos (by rw [← keepS_some]; exact hc)]
      · rw [if_neg hc] at ht; cases ht

theorem spe_ptr {d : Nat} (h : SPeOk (cutS d q) (s.put (some d) .und)) (r : Ptr) (r' : Option (Nat × Nat)) (hr : ∀ b off, r' = some (b, off) → r = .box b off) :
    SPeOk ((d, r') :: cutS d q) { (s.put (some d) .und) with pe := (d, r) :: (s.put (some d) .und).pe } := by
  constructor
  · intro t ht
    simp only [List.lookup] at ht ⊢
    split at ht
    · cases ht
    · rename_i hb; exact h.1 t ht
  · intro t b off ht
    simp only [List.lookup] at ht ⊢
    split at ht
    · cases ht
      rw [hr b off rfl]
    · rename_i hb; exact h.2 t b off ht

theorem ptrS_ptrO (hq : SPeOk q s) {x : Operand} {b off : Nat} (h : ptrS q x = some (b, off)) {r : Ptr} (hr : ptrO s x = some r) : r = .box b off := by
  unfold ptrS at h
  unfold ptrO at hr
  split at h
  · rename_i i
    simp only at hr
    cases hqi : q.lookup i with
    | none =>
      rw [hqi] at h
      cases h
      rw [hq.1 _ hqi] at hr
      simp only at hr
      split at hr <;> cases hr
      rfl
    | some z =>
      rw [hqi] at h
      simp only at h
      subst h
      rw [hq.2 _ _ _ hqi] at hr
      cases hr
      rfl
  · cases h

/-- Pointers, behind an operation. -/
theorem spe_nextP (hs : vopP L call o s = some s') (hst : isStore o = false) (hq : SPeOk q s) (h1 : NoTwice q) (h2 : NoTwice s.pe) : SPeOk (speNext L o q) s' := by
  have plain : ∀ x, s' = s.put o.dst x → (∀ t y f, o.op ≠ .fieldAddr t y f) → (∀ t y f, o.op ≠ .indexAddr t y f) → SPeOk (speNext L o q) s' := by
    rintro x rfl hf hi
    unfold speNext
    cases hd : o.dst with
    | none => exact hq
    | some d =>
      have hc := spe_cut hq h1 h2 d x
      cases ho : o.op <;> first | exact hc | exact absurd ho (hf _ _ _) | exact absurd ho (hi _ _ _)
  unfold vopP at hs
  split at hs <;> try simp only [Option.bind_eq_some_iff, Option.map_eq_some_iff] at hs
  · rename_i hop; obtain ⟨v, _, rfl⟩ := hs; exact plain _ rfl (by simp [hop]) (by simp [hop])
  · rename_i hop; obtain ⟨v, _, rfl⟩ := hs; exact plain _ rfl (by simp [hop]) (by simp [hop])
  · rename_i hop; obtain ⟨_, _, v, _, rfl⟩ := hs; exact plain _ rfl (by simp [hop]) (by simp [hop])
  · rename_i hop; obtain ⟨_, _, rfl⟩ := hs; exact plain _ rfl (by simp [hop]) (by simp [hop])
  · rename_i hop; obtain ⟨_, _, _, _, hs⟩ := hs; split at hs <;> cases hs; exact plain _ rfl (by simp [hop]) (by simp [hop])
  · rename_i hop; obtain ⟨_, _, hs⟩ := hs; split at hs
    · simp only [Option.map_eq_some_iff] at hs; obtain ⟨_, _, rfl⟩ := hs; exact plain _ rfl (by simp [hop]) (by simp [hop])
    · cases hs
  · rename_i hop; obtain ⟨_, _, _, _, hs⟩ := hs; split at hs <;> cases hs; exact plain _ rfl (by simp [hop]) (by simp [hop])
  · rename_i hop
    obtain ⟨_, _, _, _, hs⟩ := hs
    split at hs
    · split at hs
      · simp only [Option.map_eq_some_iff] at hs; obtain ⟨_, _, rfl⟩ := hs; exact plain _ rfl (by simp [hop]) (by simp [hop])
      · cases hs
    · split at hs
      · split at hs
        · simp only [Option.map_eq_some_iff] at hs; obtain ⟨_, _, rfl⟩ := hs; exact plain _ rfl (by simp [hop]) (by simp [hop])
        · cases hs
      · cases hs
    · cases hs
  · rename_i hop; simp [isStore, hop] at hst
  · rename_i hop; split at hs
    · simp only [Option.bind_eq_some_iff] at hs
      obtain ⟨_, _, hs⟩ := hs
      split at hs
      · simp only [Option.bind_eq_some_iff, Option.map_eq_some_iff] at hs
        obtain ⟨_, _, _, _, rfl⟩ := hs
        exact plain _ rfl (by simp [hop]) (by simp [hop])
      · cases hs
    · simp only [Option.bind_eq_some_iff, Option.map_eq_some_iff] at hs
      obtain ⟨_, _, _, _, _, _, rfl⟩ := hs
      exact plain _ rfl (by simp [hop]) (by simp [hop])
  · rename_i hop; obtain ⟨_, _, rfl⟩ := hs; exact plain _ rfl (by simp [hop]) (by simp [hop])
  · rename_i t x f hop
    obtain ⟨i, hi, r, hr, e, he, hs⟩ := hs
    split at hs
    · rename_i d hd
      split at hs
      · cases hs
        unfold speNext
        rw [hd]
        simp only [hop]
        refine spe_ptr (spe_cut hq h1 h2 d .und) _ _ (fun b off h => ?_)
        split at h
        · cases h
        · rw [hi] at h
          simp only [Option.bind_some, he] at h
          split at h
          · rename_i r0 e0 hp hee
            cases h
            cases hee
            have := ptrS_ptrO hq (b := r0.1) (off := r0.2) hp hr
            subst this
            rfl
          · cases h
      · cases hs
    · cases hs
  · rename_i t x ix hop
    obtain ⟨_, _, _, _, _, _, hs⟩ := hs
    split at hs
    · split at hs
      · rename_i d hd
        split at hs
        · cases hs
          unfold speNext
          rw [hd]
          simp only [hop]
          exact spe_ptr (spe_cut hq h1 h2 d .und) _ _ (fun b off h => by cases h)
        · cases hs
      · cases hs
    · cases hs
  · rename_i hop; obtain ⟨_, _, _, _, _, _, _, _, hs⟩ := hs; split at hs <;> cases hs; exact plain _ rfl (by simp [hop]) (by simp [hop])
  · rename_i hop; split at hs
    · simp only [Option.map_eq_some_iff] at hs; obtain ⟨_, _, rfl⟩ := hs; exact plain _ rfl (by simp [hop]) (by simp [hop])
    · cases hs
  · rename_i hop; obtain ⟨_, _, _, _, _, _, hs⟩ := hs; split at hs <;> cases hs; exact plain _ rfl (by simp [hop]) (by simp [hop])
  · rename_i hop; split at hs
    · split at hs
      · simp only [Option.bind_eq_some_iff, Option.map_eq_some_iff] at hs; obtain ⟨_, _, _, _, rfl⟩ := hs; exact plain _ rfl (by simp [hop]) (by simp [hop])
      · cases hs
    · cases hs
  · rename_i hop; split at hs
    · simp only [Option.bind_eq_some_iff] at hs
      obtain ⟨_, _, _, _, _, _, hs⟩ := hs; split at hs <;> cases hs; exact plain _ rfl (by simp [hop]) (by simp [hop])
    · cases hs
  · rename_i hop; split at hs
    · simp only [Option.bind_eq_some_iff, Option.map_eq_some_iff] at hs; obtain ⟨_, _, _, _, rfl⟩ := hs; exact plain _ rfl (by simp [hop]) (by simp [hop])
    · cases hs
  · rename_i hop; obtain ⟨_, _, _, _, rfl⟩ := hs; exact plain _ rfl (by simp [hop]) (by simp [hop])
  · cases hs
theorem once_next (L : Lay) (o : Oper) (h1 : NoTwice q) : NoTwice (speNext L o q) := by
  unfold speNext
  cases o.dst with
  | none => exact h1
  | some d =>
    have hc : NoTwice (cutS d q) := h1.filter _
    have hh : ∀ r : Option (Nat × Nat), NoTwice ((d, r) :: cutS d q) := fun r => ⟨fun y hy => by
      simp only [cutS, List.mem_filter, Bool.and_eq_true, Bool.not_eq_true', beq_eq_false_iff_ne] at hy
      exact hy.2.1, hc⟩
    simp only
    split
    · exact hh _
    · exact hh _
    · exact hc
end
end Go.Proofs.Ytoljlooeiljpfaa

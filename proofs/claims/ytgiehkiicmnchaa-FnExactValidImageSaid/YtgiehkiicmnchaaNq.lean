/- Regions in the text's order. -/
import Derived.Test.YtgiehkiicmnchaaNp
import Derived.Orders
namespace Go.Proofs.Ytgiehkiicmnchaa
open Go Go.RowKit

def vopG (L : Lay) (call : Orc) (all : List Oper) (o : Oper) (s : VS) : Option VS :=
  match o.guard with
  | none => vop L call o s
  | some g => (guardV all s g).bind fun t => if t then vop L call o s else some (s.put o.dst .und)
theorem vops_cons (L : Lay) (call : Orc) (all : List Oper) (o : Oper) (rest : List Oper) (s : VS) : vops L call all (o :: rest) s = (vopG L call all o s).bind (vops L call all rest) := by
  unfold vops vopG
  cases o.guard with
  | none => rfl
  | some g =>
    simp only
    cases guardV all s g <;> rfl

def bump (L : Lay) (S : Sig) (o : Oper) : Nat := (fresh L S o).foldl (fun m e => max m (e.1 + 1)) 0
theorem le_foldl_max : ∀ (l : List (Nat × Nat)) (m : Nat), m ≤ l.foldl (fun m e => max m (e.1 + 1)) m
  | [], _ => Nat.le_refl _
  | _ :: l, _ => Nat.le_trans (Nat.le_max_left _ _) (le_foldl_max l _)
theorem foldl_max_lt : ∀ (l : List (Nat × Nat)) (m : Nat), ∀ e ∈ l, e.1 < l.foldl (fun m e => max m (e.1 + 1)) m
  | [], _, _, h => by cases h
  | x :: l, m, e, h => by
    rcases List.mem_cons.1 h with rfl | h
    · exact Nat.lt_of_lt_of_le (show e.1 < max m (e.1 + 1) by omega) (le_foldl_max l _)
    · exact foldl_max_lt l _ e h
def stepsS (L : Lay) (S : Sig) : Nat → List Oper → Stt → Option (Nat × Stt)
  | base, [], st => some (base, st)
  | base, o :: rest, st => (stepS L S base o st).bind fun st' => stepsS L S (base + bump L S o) rest st'

def IdsLt (st : Stt) (base : Nat) : Prop := (∀ q id, (q, id) ∈ st.pid → id < base) ∧ ∀ id k, (id, k) ∈ st.alive → id < base
theorem ids_next {L : Lay} {S : Sig} {base : Nat} {o : Oper} {st st' : Stt} (h : IdsLt st base) (hs : stepS L S base o st = some st') : IdsLt st' (base + bump L S o) := by
  have hV : stepV L S base o st = some st' → IdsLt st' (base + bump L S o) := by
    intro hs
    unfold stepV at hs
    split at hs
    case isFalse => cases hs
    simp only [Option.bind_eq_some_iff] at hs
    obtain ⟨E, _, hs⟩ := hs
    split at hs
    · cases hs
    cases hs
    constructor
    · intro q id hm
      rcases List.mem_append.1 hm with hm | hm
      · unfold newPid at hm
        split at hm
        · split at hm
          · cases hm
          · rcases List.mem_append.1 hm with hm | hm
            · simp only [List.mem_map, Prod.mk.injEq] at hm
              obtain ⟨e, he, _, rfl⟩ := hm
              have := foldl_max_lt _ 0 e he
              unfold bump
              omega
            · simp only [List.mem_filterMap, Option.map_eq_some_iff, Prod.mk.injEq] at hm
              obtain ⟨e, _, id', hid, _, rfl⟩ := hm
              have := h.1 _ _ (mem_of_lookup' hid)
              omega
        · cases hm
      · have := h.1 _ _ (List.mem_filter.1 hm).1
        omega
    · intro id k hm
      rcases List.mem_append.1 hm with hm | hm
      · unfold newAlive at hm
        split at hm
        · split at hm
          · cases hm
          · simp only [List.mem_map, Prod.mk.injEq] at hm
            obtain ⟨e, he, rfl, _⟩ := hm
            have := foldl_max_lt _ 0 e he
            unfold bump
            omega
        · cases hm
      · have := h.2 _ _ (List.mem_filter.1 hm).1
        omega
  unfold stepS at hs
  split at hs
  · split at hs
    · cases hs
    · split at hs
      · cases hs
        refine ⟨fun q id hm => ?_, fun id k hm => Nat.lt_of_lt_of_le (h.2 id k hm) (Nat.le_add_right _ _)⟩
        rcases List.mem_append.1 hm with hm | hm
        · unfold storePid at hm
          split at hm
          · simp only [List.mem_filterMap, Option.map_eq_some_iff, Prod.mk.injEq] at hm
            obtain ⟨j, _, id', hid, _, rfl⟩ := hm
            have := h.1 _ _ (mem_of_lookup' hid)
            omega
          · cases hm
        · have := h.1 _ _ (List.mem_filter.1 hm).1
          omega
      · cases hs
  · exact hV hs

section
variable {P : Program} {L : Lay} {S : Sig} {call : Orc} {p p' : Nat → Nat} {w w' : World} {a : Act} {s s' : VS} {q : SPe} {o : Oper} {st st' : Stt} {Own : Nat → Prop} {base : Nat}

theorem guard_ok {ops : Array Oper} (hsz : a.tmps.size = s.σ.length) {g : Nat × Bool} (hslot : ∀ d, (ops.toList[g.1]?).bind (·.dst) = some d → SlotOk p w a.tmps s d) (hg : o.guard = some g) {t : Bool} (h : guardV ops.toList s g = some t) : Region.wanted o (yielded ops a.tmps) = t := by
  unfold guardV at h
  split at h
  case h_2 => cases h
  rename_i o' ho'
  split at h
  case h_2 => cases h
  rename_i d hd
  have hsl := (hslot d (by rw [ho']; exact hd)).1
  have hy : yielded ops a.tmps g.1 = match a.tmps[d]? with | some (.bool b) => some b | _ => none := by
    unfold yielded
    simp only [Array.getElem?_toList] at ho'
    rw [ho']
    simp only [Option.bind_some, hd]
    rfl
  unfold Region.wanted
  rw [hg]
  simp only
  rw [hy]
  split at h
  · rename_i b hb
    cases h
    rw [hb] at hsl
    have hlt : d < a.tmps.size := by
      rw [hsz]
      rcases Nat.lt_or_ge d s.σ.length with h | h
      · exact h
      · unfold VS.get at hb
        rw [List.getD, List.getElem?_eq_none h] at hb
        cases hb
    have : a.tmps[d]? = some (.bool b) := by
      have hsl : Rep p w (a.tmps.getD d undef) (.bool b) := hsl
      rw [Array.getElem?_eq_getElem hlt]
      have e : a.tmps.getD d undef = a.tmps[d] := by simp [Array.getD, hlt]
      rw [e] at hsl
      generalize a.tmps[d] = v at hsl
      cases hsl
      rfl
    rw [this]
    simp
  · rename_i hb
    cases h
    rw [hb] at hsl
    have hsl : ∀ b, a.tmps.getD d undef ≠ .bool b := hsl
    have : (match a.tmps[d]? with | some (.bool b) => some b | _ => none) = none := by
      split
      · rename_i b hb'
        exfalso
        apply hsl b
        simp [Array.getD_eq_getD_getElem?, hb']
      · rfl
    rw [this]
    rfl
  · cases h

/-- One operation, carried out or left out. -/
theorem step_op (hL : LayOk P L) (hC : CallOk P S call) {ops : Array Oper} {i : Nat} (hi : ops[i]? = some o) (hI : Inv st p w a.tmps s Own) (hids : IdsLt st base) (hs : vopG L call ops.toList o s = some s') (hstep : stepS L S base o st = some st')
    {Q : Exit → Act → World → Prop} {K : Act → World → Prop} (hK : ∀ a' w' p', Inv st' p' w' a'.tmps s' Own → Evo Own p w p' w' → a'.defers = a.defers → K a' w') : wpOp P ops Q i K a w := by
  unfold wpOp
  rw [hi]
  simp only
  have hdef : ∀ v, (a.put o.dst v).defers = a.defers := fun v => by cases o.dst <;> rfl
  have hdo : vop L call o s = some s' → o.wp P a w K Q := by
    intro hs
    have hD : Does P o a w fun v w' => ∃ p', Inv st' p' w' (a.put o.dst v).tmps s' Own ∧ Evo Own p w p' w' := by
      by_cases hst : isStore o = true
      · unfold isStore at hst
        split at hst
        · rename_i t x v hop
          exact step_store hL hI hop hs hstep
        · cases hst
      · have hst : isStore o = false := by simpa using hst
        have hstep' : stepV L S base o st = some st' := by
          unfold stepS at hstep
          split at hstep
          · rename_i hop; simp [isStore, hop] at hst
          · exact hstep
        exact step_value hL hC hI hs hst hstep' hids.1 hids.2
    exact hD K Q fun v w' ⟨p', h1, h2⟩ => hK _ _ p' h1 h2 (hdef v)
  unfold vopG at hs
  split at hs
  · rename_i hg
    have hw : Region.wanted o (yielded ops a.tmps) = true := by unfold Region.wanted; rw [hg]
    rw [if_pos hw]
    exact .inl (hdo hs)
  · rename_i g hg
    simp only [Option.bind_eq_some_iff] at hs
    obtain ⟨t, ht, hs⟩ := hs
    have hw := guard_ok hI.size (fun d _ => hI.slots d) hg ht
    cases t with
    | true =>
      rw [if_pos hw]
      exact .inl (hdo hs)
    | false =>
      rw [if_neg (by rw [hw]; simp)]
      simp only [Bool.false_eq_true, if_false, Option.some.injEq] at hs
      subst hs
      have hstep' : stepV L S base o st = some st' := by
        unfold stepS at hstep
        split at hstep
        · simp [hg] at hstep
        · exact hstep
      exact hK _ _ p (step_skip hI hg hstep') (.refl _ _ _) (hdef _)

theorem ops_seq (hL : LayOk P L) (hC : CallOk P S call) {ops : Array Oper} {Q : Exit → Act → World → Prop} : ∀ (l : List Nat) (os : List Oper), l.map (ops[·]?) = os.map some → ∀ (base base' : Nat) (st st' : Stt) (p : Nat → Nat) (w : World) (a : Act) (s s' : VS),
    Inv st p w a.tmps s Own → IdsLt st base → vops L call ops.toList os s = some s' → stepsS L S base os st = some (base', st') →
    (∀ a' w' p', Inv st' p' w' a'.tmps s' Own → IdsLt st' base' → Evo Own p w p' w' → a'.defers = a.defers → Q .normal a' w') → wpOps P ops Q l a w
  | [], os, hl, base, base', st, st', p, w, a, s, s', hI, hids, hs, hst, hQ => by
    have : os = [] := by simpa using hl.symm
    subst this
    cases hs
    cases hst
    exact hQ a w p hI hids (.refl _ _ _) rfl
  | i :: l, [], hl, _, _, _, _, _, _, _, _, _, _, _, _, _, _ => by simp at hl
  | i :: l, o :: os, hl, base, base', st, st', p, w, a, s, s', hI, hids, hs, hst, hQ => by
    simp only [List.map_cons, List.cons.injEq] at hl
    rw [vops_cons] at hs
    simp only [Option.bind_eq_some_iff] at hs
    obtain ⟨s1, hs1, hs⟩ := hs
    simp only [stepsS, Option.bind_eq_some_iff] at hst
    obtain ⟨st1, hst1, hst⟩ := hst
    rw [wpOps_cons]
    refine step_op hL hC hl.1 hI hids hs1 hst1 fun a1 w1 p1 hI1 hev1 hd1 => ?_
    exact ops_seq hL hC l os hl.2 _ base' st1 st' p1 w1 a1 s1 s' hI1 (ids_next hids hst1) hs hst fun a' w' p' h1 h2 h3 h4 => hQ a' w' p' h1 h2 (hev1.trans h3 (fun _ _ h => h) (fun _ _ h => h)) (h4.trans hd1)
end
end Go.Proofs.Ytgiehkiicmnchaa

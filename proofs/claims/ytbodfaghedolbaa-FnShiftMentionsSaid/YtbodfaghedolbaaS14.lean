/- Generic texts and models for the proofs of this seat: part 14. -/
import Derived.Test.YtbodfaghedolbaaS13
import Derived.Orders
set_option linter.unusedVariables false
set_option linter.unusedSimpArgs false
namespace Go.Proofs.Ytbodfaghedolbaa
open Go Go.RowKit
def vopG (L : Lay) (call : Orc) (all : List Oper) (o : Oper) (s : VS) : Option VS :=
  match o.guard with
  | none => vop L call o s
  | some g => (guardV all s g).bind fun t => if t then vop L call o s else some (s.put o.dst .und)
def vopGP (L : Lay) (call : Orc) (all : List Oper) (o : Oper) (s : VS) : Option VS :=
  match o.guard with
  | none => vopP L call o s
  | some g => (guardV all s g).bind fun t => if t then vopP L call o s else some (s.put o.dst .und)
theorem vopsP_cons (L : Lay) (call : Orc) (all : List Oper) (o : Oper) (rest : List Oper) (s : VS) : vopsP L call all (o :: rest) s = (vopGP L call all o s).bind (vopsP L call all rest) := by
  unfold vopsP vopGP
  cases o.guard with
  | none => rfl
  | some g =>
    simp only
    cases guardV all s g <;> rfl
theorem vops_cons (L : Lay) (call : Orc) (all : List Oper) (o : Oper) (rest : List Oper) (s : VS) : vops L call all (o :: rest) s = (vopG L call all o s).bind (vops L call all rest) := by
  unfold vops vopG
  cases o.guard with
  | none => rfl
  | some g =>
    simp only
    cases guardV all s g <;> rfl
def bump (L : Lay) (S : Sig) (o : Oper) : Nat := (fresh L S o).foldl (fun m e => max m (e.1 + 1)) 0
theorem le_foldl_max : ∀ (l : List (Nat × Nat)) (m : Nat), m ≤ l.foldl (fun m e => max m (e.1 + 1)) m
  | [], _ => Nat.le_refl _
  | _ :: l, _ => Nat.le_trans (Nat.le_max_left _ _) (le_foldl_max l _)
theorem foldl_max_lt : ∀ (l : List (Nat × Nat)) (m : Nat), ∀ e ∈ l, e.1 < l.foldl (fun m e => max m (e.1 + 1)) m
  | [], _, _, h => by cases h
  | x :: l, m, e, h => by
    rcases List.mem_cons.1 h with rfl | h
    · exact Nat.lt_of_lt_of_le (show e.1 < max m (e.1 + 1) by omega) (le_foldl_max l _)
    · exact foldl_max_lt l _ e h
def stepsS (L : Lay) (S : Sig) : Nat → List Oper → Stt → Option (Nat × Stt)
  | base, [], st => some (base, st)
  | base, o :: rest, st => (stepS L S base o st).bind fun st' => stepsS L S (base + bump L S o) rest st'
def stepsSP (L : Lay) (S : Sig) : Nat → List Oper → Stt → Option (Nat × Stt)
  | base, [], st => some (base, st)
  | base, o :: rest, st => (stepSP L S base o st).bind fun st' => stepsSP L S (base + bump L S o) rest st'
def IdsLt (st : Stt) (base : Nat) : Prop := (∀ q id, (q, id) ∈ st.pid → id < base) ∧ ∀ id k, (id, k) ∈ st.alive → id < base
theorem ids_nextP {L : Lay} {S : Sig} {base : Nat} {o : Oper} {st st' : Stt} (h : IdsLt st base) (hs : stepSP L S base o st = some st') : IdsLt st' (base + bump L S o) := by
  have hV : stepV L S base o st = some st' → IdsLt st' (base + bump L S o) := by
    intro hs
    unfold stepV at hs
    split at hs
    case isFalse => cases hs
    simp only [Option.bind_eq_some_iff] at hs
    obtain ⟨E, _, hs⟩ := hs
    split at hs
    · cases hs
    cases hs
    constructor
    · intro q id hm
      rcases List.mem_append.1 hm with hm | hm
      · unfold newPid at hm
        split at hm
        · split at hm
          · cases hm
          · rcases List.mem_append.1 hm with hm | hm
            · simp only [List.mem_map, Prod.mk.injEq] at hm
              obtain ⟨e, he, _, rfl⟩ := hm
              have := foldl_max_lt _ 0 e he
              unfold bump
              omega
            · simp only [List.mem_filterMap, Option.map_eq_some_iff, Prod.mk.injEq] at hm
              obtain ⟨e, _, id', hid, _, rfl⟩ := hm
              have := h.1 _ _ (mem_of_lookup' hid)
              omega
        · cases hm
      · have := h.1 _ _ (List.mem_filter.1 hm).1
        omega
    · intro id k hm
      rcases List.mem_append.1 hm with hm | hm
      · unfold newAlive at hm
        split at hm
        · split at hm
          · cases hm
          · simp only [List.mem_map, Prod.mk.injEq] at hm
            obtain ⟨e, he, rfl, _⟩ := hm
            have := foldl_max_lt _ 0 e he
            unfold bump
            omega
        · cases hm
      · have := h.2 _ _ (List.mem_filter.1 hm).1
        omega
  unfold stepSP at hs
  split at hs
  · split at hs
    · cases hs
    · split at hs
      · cases hs
        refine ⟨fun q id hm => ?_, fun id k hm => Nat.lt_of_lt_of_le (h.2 id k hm) (Nat.le_add_right _ _)⟩
        rcases List.mem_append.1 hm with hm | hm
        · unfold storePid at hm
          split at hm
          · simp only [List.mem_filterMap, Option.map_eq_some_iff, Prod.mk.injEq] at hm
            obtain ⟨j, _, id', hid, _, rfl⟩ := hm
            have := h.1 _ _ (mem_of_lookup' hid)
            omega
          · cases hm
        · have := h.1 _ _ (List.mem_filter.1 hm).1
          omega
      · cases hs
  · exact hV hs
theorem ids_next {L : Lay} {S : Sig} {base : Nat} {o : Oper} {st st' : Stt} (h : IdsLt st base) (hs : stepS L S base o st = some st') : IdsLt st' (base + bump L S o) := by
  unfold stepS at hs
  split at hs
  · cases hs
    exact ⟨fun q id hm => Nat.lt_of_lt_of_le (h.1 q id hm) (Nat.le_add_right _ _), fun id k hm => Nat.lt_of_lt_of_le (h.2 id k hm) (Nat.le_add_right _ _)⟩
  · simp only [Option.map_eq_some_iff] at hs
    obtain ⟨st1, h1, rfl⟩ := hs
    have := ids_nextP h h1
    exact ⟨this.1, this.2⟩
section
variable {P : Program} {L : Lay} {S : Sig} {call : Orc} {p p' : Stb} {w w' : World} {a : Act} {s s' : VS} {q : SPe} {o : Oper} {st st' : Stt} {Own : Nat → Prop} {base : Nat}
theorem guard_ok {ops : Array Oper} (hsz : a.tmps.size = s.σ.length) {g : Nat × Bool} (hslot : ∀ d, (ops.toList[g.1]?).bind (·.dst) = some d → SlotOk p w a.tmps s d) (hg : o.guard = some g) {t : Bool} (h : guardV ops.toList s g = some t) : Region.wanted o (yielded ops a.tmps) = t := by
  unfold guardV at h
  split at h
  case h_2 => cases h
  rename_i o' ho'
  split at h
  case h_2 => cases h
  rename_i d hd
  have hsl := (hslot d (by rw [ho']; exact hd)).1
  have hy : yielded ops a.tmps g.1 = match a.tmps[d]? with | some (.bool b) => some b | _ => none := by
    unfold yielded
    simp only [Array.getElem?_toList] at ho'
    rw [ho']
    simp only [Option.bind_some, hd]
    rfl
  unfold Region.wanted
  rw [hg]
  simp only
  rw [hy]
  split at h
  · rename_i b hb
    cases h
    rw [hb] at hsl
    have hlt : d < a.tmps.size := by
      rw [hsz]
      rcases Nat.lt_or_ge d s.σ.length with h | h
      · exact h
      · unfold VS.get at hb
        rw [List.getD, List.getElem?_eq_none h] at hb
        cases hb
    have : a.tmps[d]? = some (.bool b) := by
      have hsl : Rep p w (a.tmps.getD d undef) (.bool b) := hsl
      rw [Array.getElem?_eq_getElem hlt]
      have e : a.tmps.getD d undef = a.tmps[d] := by simp [Array.getD, hlt]
      rw [e] at hsl
      generalize a.tmps[d] = v at hsl
      cases hsl
      rfl
    rw [this]
    simp
  · rename_i hb
    cases h
    rw [hb] at hsl
    have hsl : ∀ b, a.tmps.getD d undef ≠ .bool b := hsl
    have : (match a.tmps[d]? with | some (.bool b) => some b | _ => none) = none := by
      split
      · rename_i b hb'
        exfalso
        apply hsl b
        simp [Array.getD_eq_getD_getElem?, hb']
      · rfl
    rw [this]
    rfl
  · cases h
theorem step_opP (hL : LayOk P L) (hC : CallOk P S call) {ops : Array Oper} {i : Nat} (hi : ops[i]? = some o) (hI : Inv st p w a.tmps s Own) (hids : IdsLt st base) (hs : vopGP L call ops.toList o s = some s') (hstep : stepSP L S base o st = some st')
    {Q : Exit → Act → World → Prop} {K : Act → World → Prop} (hK : ∀ a' w' p', Inv st' p' w' a'.tmps s' Own → Evo Own p w p' w' → a'.defers = a.defers → (∀ t, o.dst ≠ some t → a'.tmps.getD t undef = a.tmps.getD t undef) → K a' w') : wpOp P ops Q i K a w := by
  unfold wpOp
  rw [hi]
  simp only
  have hdef : ∀ v, (a.put o.dst v).defers = a.defers := fun v => by cases o.dst <;> rfl
  have hdo : vopP L call o s = some s' → o.wp P a w K Q := by
    intro hs
    have hD : Does P o a w fun v w' => ∃ p', Inv st' p' w' (a.put o.dst v).tmps s' Own ∧ Evo Own p w p' w' := by
      by_cases hst : isStore o = true
      · unfold isStore at hst
        split at hst
        · rename_i t x v hop
          exact step_store hL hI hop hs hstep
        · cases hst
      · have hst : isStore o = false := by simpa using hst
        have hstep' : stepV L S base o st = some st' := by
          unfold stepSP at hstep
          split at hstep
          · rename_i hop; simp [isStore, hop] at hst
          · exact hstep
        exact step_valueP hL hC hI hs hst hstep' hids.1 hids.2
    exact hD K Q fun v w' ⟨p', h1, h2⟩ => hK _ _ p' h1 h2 (hdef v) (fun t ht => getD_put' ht)
  unfold vopGP at hs
  split at hs
  · rename_i hg
    have hw : Region.wanted o (yielded ops a.tmps) = true := by unfold Region.wanted; rw [hg]
    rw [if_pos hw]
    exact .inl (hdo hs)
  · rename_i g hg
    simp only [Option.bind_eq_some_iff] at hs
    obtain ⟨t, ht, hs⟩ := hs
    have hw := guard_ok hI.size (fun d _ => hI.slots d) hg ht
    cases t with
    | true =>
      rw [if_pos hw]
      exact .inl (hdo hs)
    | false =>
      rw [if_neg (by rw [hw]; simp)]
      simp only [Bool.false_eq_true, if_false, Option.some.injEq] at hs
      subst hs
      have hstep' : stepV L S base o st = some st' := by
        unfold stepSP at hstep
        split at hstep
        · simp [hg] at hstep
        · exact hstep
      exact hK _ _ p (step_skip hI hg hstep') (.refl _ _ _) (hdef _) (fun t ht => getD_put' ht)
theorem agoal (hL : LayOk P L) (hC : CallOk P S call) (hI : Inv st p w a.tmps s Own) (hs : vopA L call o s = some s') (hia : isArr L o s = true) (hst : isStore o = false) (hho : homeOk L S o = true) (hdst : ∀ d, o.dst = some d → d < s.σ.length) : AGoal P L S st o a p w s s' := by
  unfold vopA at hs
  split at hs
  · rename_i x hop
    simp only [Option.bind_eq_some_iff] at hs
    obtain ⟨⟨d0, k, r⟩, hx, hs⟩ := hs
    simp only at hs
    split at hs
    case h_2 => cases hs
    rename_i d hd
    split at hs
    case isFalse => cases hs
    rename_i hne
    cases hs
    exact a_move hI (.inl hop) hd (hdst d hd) hx hne
  · rename_i x hop
    simp only [Option.bind_eq_some_iff] at hs
    obtain ⟨⟨d0, k, r⟩, hx, hs⟩ := hs
    simp only at hs
    split at hs
    case h_2 => cases hs
    rename_i d hd
    split at hs
    case isFalse => cases hs
    rename_i hne
    cases hs
    exact a_move hI (.inr hop) hd (hdst d hd) hx hne
  · rename_i t x hop
    simp only [Option.bind_eq_some_iff] at hs
    obtain ⟨i, hi, r, hr, hs⟩ := hs
    split at hs
    case h_2 => cases hs
    rename_i d0 k n j
    split at hs
    case h_2 => cases hs
    rename_i k' rows hd0
    split at hs
    case isFalse => cases hs
    rename_i hc
    obtain ⟨rfl, hn, hj⟩ := hc
    simp only [Option.map_eq_some_iff] at hs
    obtain ⟨v, hv, rfl⟩ := hs
    exact a_load hL hI hop hi hr hd0 hn hj hv
  · rename_i hop
    simp [isStore, hop] at hst
  · rename_i t x ix hop
    simp only [Option.bind_eq_some_iff] at hs
    obtain ⟨e, he, ⟨d0, k, r⟩, hx, n, hn, hs⟩ := hs
    simp only at hs
    split at hs
    case isFalse => cases hs
    rename_i hc
    obtain ⟨c1, c2, rfl⟩ := hc
    split at hs
    case h_2 => cases hs
    rename_i d hd
    split at hs
    case isFalse => cases hs
    rename_i hc
    cases hs
    exact a_index hL hI hop he hx hn c1 c2 hd hc.1 hc.2
  · rename_i t l c hop
    simp only [Option.bind_eq_some_iff] at hs
    obtain ⟨e, he, l', hl, c', hc', hs⟩ := hs
    split at hs
    case h_2 => cases hs
    rename_i d hd
    split at hs
    case isFalse => cases hs
    rename_i hc
    obtain ⟨c1, c2, c3, c4, c5⟩ := hc
    cases hs
    exact a_make hL hI hop he hl hc' c1 c2 c3 c4 hd (hdst d hd) (by simpa [isArr, hop] using hia) c5
  · rename_i args ats hop
    split at hs
    case h_2 => cases hs
    rename_i x hx
    split at hs
    case isFalse => cases hs
    rename_i hats
    simp only [Option.bind_eq_some_iff, Option.map_eq_some_iff] at hs
    obtain ⟨e, he, ⟨d0, k, r⟩, hr, rfl⟩ := hs
    have := toList_one hx
    subst this
    exact a_len hL hI hop rfl hats he hr
  · rename_i f args ats hop
    simp only [homeOk, hop, Bool.and_eq_true, Bool.or_eq_true, Bool.not_eq_true', List.isEmpty_iff] at hho
    split at hs
    · rename_i hh
      simp only [Option.bind_eq_some_iff] at hs
      obtain ⟨vs, hvs, r, hr, e, he, hs⟩ := hs
      rw [he, hh] at hho
      obtain ⟨h1, h2⟩ := hho.1.resolve_left (by simp)
      simp only [beq_iff_eq] at h2
      split at hs
      case h_2 => cases hs
      rename_i k rows
      split at hs
      case h_2 => cases hs
      rename_i d hd
      split at hs
      case isFalse => cases hs
      rename_i hc
      obtain ⟨rfl, c3, c4⟩ := hc
      cases hs
      exact a_thaw hC hI hop h1 h2 c4 hvs hr hd (hdst d hd) hh c3
    · split at hs
      case isFalse => cases hs
      rename_i hl
      rw [hl] at hho
      obtain ⟨h1, h2⟩ := hho.2.resolve_left (by simp)
      simp only [Option.bind_eq_some_iff] at hs
      obtain ⟨vs, hvs, r, hr, hs⟩ := hs
      split at hs
      case isFalse => cases hs
      rename_i hf
      cases hs
      exact a_lend hC hI hop h1 h2 hvs hr hf
  · cases hs
theorem stepV_dst (hI : Inv st p w a.tmps s Own) (hstep : stepV L S base o st = some st') : homeOk L S o = true ∧ ∀ d, o.dst = some d → d < s.σ.length := by
  unfold stepV at hstep
  split at hstep
  case isFalse => cases hstep
  rename_i htk
  simp only [Bool.and_eq_true] at htk
  refine ⟨?_, fun d hd => ?_⟩
  · have h := htk.1
    unfold takesOk at h
    simp only [Bool.and_eq_true] at h
    exact h.2
  · have h := htk.2
    unfold dstOk at h
    rw [hd] at h
    simp only [decide_eq_true_eq] at h
    rw [← hI.len]
    exact h
theorem step_valueA (hL : LayOk P L) (hC : CallOk P S call) (hI : Inv st p w a.tmps s Own) (hs : vopA L call o s = some s') (hia : isArr L o s = true) (hst : isStore o = false) (hstep : stepV L S base o st = some st')
    (hb1 : ∀ q id, (q, id) ∈ st.pid → id < base) (hb2 : ∀ id k, (id, k) ∈ st.alive → id < base) : Does P o a w fun v w' => ∃ p', Inv st' p' w' (a.put o.dst v).tmps s' Own ∧ Evo Own p w p' w' := by
  obtain ⟨h1, h2⟩ := stepV_dst hI hstep
  obtain ⟨⟨he, hF, ho, hsp⟩, hD⟩ := agoal hL hC hI hs hia hst h1 h2
  exact step_core hI hF ho hsp hstep (by rw [he]; intro x hx; cases hx) (by rw [he]; intro x hx; cases hx) (fun _ _ => hD) hb1 hb2
def NbOk (nb : List Nat) (s : VS) : Prop := ∀ t ∈ nb, (∀ d off, s.pe.lookup t ≠ some (.box d off)) ∧ ∀ cs, s.get t ≠ .box cs
theorem nb_frames {nb : List Nat} (hF : Frames o s s') (h : NbOk nb s) (hi : ∀ d, o.dst = some d → (∃ t x y, o.op = .indexAddr t x y) → (∀ e off, s'.pe.lookup d ≠ some (.box e off)) ∧ ∀ cs, s'.get d ≠ .box cs) : NbOk (nbNext o nb) s' := by
  have old : ∀ t, o.dst ≠ some t → t ∈ nb → (∀ d off, s'.pe.lookup t ≠ some (.box d off)) ∧ ∀ cs, s'.get t ≠ .box cs := fun t hd ht => by
    obtain ⟨h1, h2⟩ := h t ht
    exact ⟨fun d off hl => h1 d off (hF.pe t _ hd hl).1, fun cs hc => h2 cs (by rw [← hF.get t hd]; exact hc)⟩
  intro t ht
  unfold nbNext at ht
  split at ht
  · rename_i d hd
    have hfil : t ∈ nb.filter (fun t => !(t == d)) → (∀ d off, s'.pe.lookup t ≠ some (.box d off)) ∧ ∀ cs, s'.get t ≠ .box cs := fun ht => by
      obtain ⟨h1, h2⟩ := List.mem_filter.1 ht
      simp only [Bool.not_eq_true', beq_eq_false_iff_ne] at h2
      exact old t (by rw [hd]; simpa using Ne.symm h2) h1
    split at ht
    · rename_i ty x y hop
      rcases List.mem_cons.1 ht with rfl | ht
      · exact hi _ hd ⟨_, _, _, hop⟩
      · exact hfil ht
    · exact hfil ht
  · rename_i hd
    exact old t (by rw [hd]; simp) ht
theorem Inv.withNb {nb : List Nat} (h : Inv st p w a.tmps s Own) (hn : NbOk nb s) : Inv { st with nb := nb } p w a.tmps s Own := by
  obtain ⟨val, hR⟩ := h.rooms
  exact ⟨h.size, h.len, hn, h.sonce, h.slots, h.zp, h.once, h.spe, h.own, h.box, h.boxd, h.arr, h.al, h.mks, val, ⟨hR.place, hR.alive, hR.own, hR.apart, hR.row⟩⟩
theorem nb_value {nb : List Nat} (hs : vop L call o s = some s') (hF : Frames o s s') (h : NbOk nb s) : NbOk (nbNext o nb) s' := by
  refine nb_frames hF h fun d hd ⟨t, x, y, hop⟩ => ?_
  have key : ∀ r : Ptr, (∀ e off, r ≠ .box e off) → s' = { (s.put (some d) .und) with pe := (d, r) :: (s.put (some d) .und).pe } → (∀ e off, s'.pe.lookup d ≠ some (.box e off)) ∧ ∀ cs, s'.get d ≠ .box cs := by
    rintro r hr rfl
    refine ⟨fun e off hl => ?_, fun cs hc => ?_⟩
    · simp only [List.lookup, beq_self_eq_true, Option.some.injEq] at hl
      exact hr e off hl
    · have hc : (s.put (some d) .und).get d = .box cs := hc
      rw [get_put] at hc
      split at hc <;> cases hc
  unfold vop at hs
  split at hs
  · simp only [vopA, hop, Option.bind_eq_some_iff] at hs
    obtain ⟨e, he, ⟨d0, k, r⟩, hx, n, hn, hs⟩ := hs
    simp only at hs
    split at hs
    case isFalse => cases hs
    rw [hd] at hs
    simp only at hs
    split at hs
    case isFalse => cases hs
    cases hs
    exact key _ (by simp) rfl
  · simp only [vopP, hop, Option.bind_eq_some_iff] at hs
    obtain ⟨e, he, ⟨k, r⟩, hx, n, hn, hs⟩ := hs
    simp only at hs
    split at hs
    case isFalse => cases hs
    rw [hd] at hs
    simp only at hs
    split at hs
    case isFalse => cases hs
    cases hs
    exact key _ (by simp) rfl
theorem step_op (hL : LayOk P L) (hC : CallOk P S call) {ops : Array Oper} {i : Nat} (hi : ops[i]? = some o) (hI : Inv st p w a.tmps s Own) (hids : IdsLt st base) (hs : vopG L call ops.toList o s = some s') (hstep : stepS L S base o st = some st')
    {Q : Exit → Act → World → Prop} {K : Act → World → Prop} (hK : ∀ a' w' p', Inv st' p' w' a'.tmps s' Own → Evo Own p w p' w' → a'.defers = a.defers → (∀ t, o.dst ≠ some t → a'.tmps.getD t undef = a.tmps.getD t undef) → K a' w') : wpOp P ops Q i K a w := by
  unfold wpOp
  rw [hi]
  simp only
  have hdef : ∀ v, (a.put o.dst v).defers = a.defers := fun v => by cases o.dst <;> rfl
  have hdo : vop L call o s = some s' → o.wp P a w K Q := by
    intro hs
    have hD : Does P o a w fun v w' => ∃ p', Inv st' p' w' (a.put o.dst v).tmps s' Own ∧ Evo Own p w p' w' := by
      unfold stepS at hstep
      split at hstep
      · rename_i hel
        cases hstep
        unfold elStore at hel
        split at hel
        case h_2 => cases hel
        rename_i t x v hop
        simp only [Bool.and_eq_true, Option.isNone_iff_eq_none] at hel
        obtain ⟨⟨_, hdn⟩, hnb⟩ := hel
        unfold vop at hs
        split at hs
        · exact step_storeA hL hI hop hdn hs
        · exfalso
          simp only [vopP, hop, Option.bind_eq_some_iff] at hs
          obtain ⟨_, _, r, hr, _, _, hs⟩ := hs
          split at hs
          case h_2 => cases hs
          rename_i d off
          cases x with
          | const c => cases hnb
          | global c => cases hnb
          | func c => cases hnb
          | tmp y =>
          simp only [inNb, List.any_eq_true, beq_iff_eq] at hnb
          obtain ⟨e, he, rfl⟩ := hnb
          obtain ⟨h1, h2⟩ := hI.nbk e he
          simp only [ptrO] at hr
          cases hpe : s.pe.lookup e with
          | some q' =>
            rw [hpe] at hr
            cases hr
            exact h1 _ _ hpe
          | none =>
            rw [hpe] at hr
            simp only at hr
            cases hr
      · rename_i hel
        simp only [Option.map_eq_some_iff] at hstep
        obtain ⟨st1, hstep, rfl⟩ := hstep
        by_cases hst : isStore o = true
        · unfold isStore at hst
          split at hst
          case h_2 => cases hst
          rename_i t x v hop
          have hnn : nbNext o st.nb = st.nb := by
            have hdn : o.dst = none := by
              simp only [stepSP, hop] at hstep
              split at hstep
              · cases hstep
              · rename_i hgd
                simp only [Bool.or_eq_true, Option.isSome_iff_ne_none, not_or, Decidable.not_not, ne_eq] at hgd
                exact hgd.2
            unfold nbNext
            rw [hdn]
          rw [hnn]
          unfold vop at hs
          split at hs
          · exfalso
            simp only [stepSP, hop] at hstep
            split at hstep
            · cases hstep
            split at hstep
            case h_2 => cases hstep
            rename_i i' d off hi' hps
            simp only [vopA, hop, Option.bind_eq_some_iff] at hs
            obtain ⟨_, _, r, hr, _, _, hs⟩ := hs
            have := ptrS_ptrO hI.spe hps hr
            subst this
            cases hs
          · have hnb' : NbOk st.nb s' := by
              have hs0 := hs
              simp only [vopP, hop, Option.bind_eq_some_iff] at hs0
              obtain ⟨_, _, r, hr, xv, _, hs0⟩ := hs0
              split at hs0
              case h_2 => cases hs0
              rename_i d off
              split at hs0
              case h_2 => cases hs0
              rename_i cs hcs
              split at hs0
              case isFalse => cases hs0
              cases hs0
              intro t' ht'
              obtain ⟨h1, h2⟩ := hI.nbk t' ht'
              refine ⟨h1, fun cs' hc => ?_⟩
              by_cases htd : t' = d
              · subst htd; exact h2 _ hcs
              · refine h2 cs' ?_
                rw [← hc]
                simp only [VS.get, List.getD, List.getElem?_set_ne (Ne.symm htd)]
            refine (step_store hL hI hop hs hstep).mono ?_
            rintro v w' ⟨p', g1, g2⟩
            exact ⟨p', Inv.withNb (a := a.put o.dst v) g1 hnb', g2⟩
        · have hst : isStore o = false := by simpa using hst
          have hstep' : stepV L S base o st = some st1 := by
            unfold stepSP at hstep
            split at hstep
            · rename_i hop; simp [isStore, hop] at hst
            · exact hstep
          have hFr : Frames o s s' := by
            unfold vop at hs
            split at hs
            · rename_i hia
              obtain ⟨h1, h2⟩ := stepV_dst hI hstep'
              exact (agoal hL hC hI hs hia hst h1 h2).1.2.1
            · exact (vopP_frames hs hst hI.once).1
          have hnb' := nb_value hs hFr hI.nbk
          have hD : Does P o a w fun v w' => ∃ p', Inv st1 p' w' (a.put o.dst v).tmps s' Own ∧ Evo Own p w p' w' := by
            unfold vop at hs
            split at hs
            · rename_i hia
              exact step_valueA hL hC hI hs hia hst hstep' hids.1 hids.2
            · exact step_valueP hL hC hI hs hst hstep' hids.1 hids.2
          refine hD.mono ?_
          rintro v w' ⟨p', g1, g2⟩
          exact ⟨p', Inv.withNb (a := a.put o.dst v) g1 hnb', g2⟩
    exact hD K Q fun v w' ⟨p', h1, h2⟩ => hK _ _ p' h1 h2 (hdef v) (fun t ht => getD_put' ht)
  unfold vopG at hs
  split at hs
  · rename_i hg
    have hw : Region.wanted o (yielded ops a.tmps) = true := by unfold Region.wanted; rw [hg]
    rw [if_pos hw]
    exact .inl (hdo hs)
  · rename_i g hg
    simp only [Option.bind_eq_some_iff] at hs
    obtain ⟨t, ht, hs⟩ := hs
    have hw := guard_ok hI.size (fun d _ => hI.slots d) hg ht
    cases t with
    | true =>
      rw [if_pos hw]
      exact .inl (hdo hs)
    | false =>
      rw [if_neg (by rw [hw]; simp)]
      simp only [Bool.false_eq_true, if_false, Option.some.injEq] at hs
      subst hs
      unfold stepS at hstep
      split at hstep
      · rename_i hel
        unfold elStore at hel
        split at hel
        · simp [hg] at hel
        · cases hel
      simp only [Option.map_eq_some_iff] at hstep
      obtain ⟨st1, hstep, rfl⟩ := hstep
      have hstep' : stepV L S base o st = some st1 := by
        unfold stepSP at hstep
        split at hstep
        · simp [hg] at hstep
        · exact hstep
      have hnb' : NbOk (nbNext o st.nb) (s.put o.dst .und) := nb_frames (put_frames hI.once .und).1 hI.nbk fun d hd _ => by
        rw [hd]
        exact ⟨fun e off hl => (by rw [lookup_put] at hl; cases hl), fun cs hc => (by rw [get_put] at hc; split at hc <;> cases hc)⟩
      exact hK _ _ p (Inv.withNb (a := a.put o.dst undef) (step_skip hI hg hstep') hnb') (.refl _ _ _) (hdef _) (fun t ht => getD_put' ht)
theorem ops_seq (hL : LayOk P L) (hC : CallOk P S call) {ops : Array Oper} {Q : Exit → Act → World → Prop} : ∀ (l : List Nat) (os : List Oper), l.map (ops[·]?) = os.map some → ∀ (base base' : Nat) (st st' : Stt) (p : Stb) (w : World) (a : Act) (s s' : VS),
    Inv st p w a.tmps s Own → IdsLt st base → vops L call ops.toList os s = some s' → stepsS L S base os st = some (base', st') →
    (∀ a' w' p', Inv st' p' w' a'.tmps s' Own → IdsLt st' base' → Evo Own p w p' w' → a'.defers = a.defers → Q .normal a' w') → wpOps P ops Q l a w
  | [], os, hl, base, base', st, st', p, w, a, s, s', hI, hids, hs, hst, hQ => by
    have : os = [] := by simpa using hl.symm
    subst this
    cases hs
    cases hst
    exact hQ a w p hI hids (.refl _ _ _) rfl
  | i :: l, [], hl, _, _, _, _, _, _, _, _, _, _, _, _, _, _ => by simp at hl
  | i :: l, o :: os, hl, base, base', st, st', p, w, a, s, s', hI, hids, hs, hst, hQ => by
    simp only [List.map_cons, List.cons.injEq] at hl
    rw [vops_cons] at hs
    simp only [Option.bind_eq_some_iff] at hs
    obtain ⟨s1, hs1, hs⟩ := hs
    simp only [stepsS, Option.bind_eq_some_iff] at hst
    obtain ⟨st1, hst1, hst⟩ := hst
    rw [wpOps_cons]
    refine step_op hL hC hl.1 hI hids hs1 hst1 fun a1 w1 p1 hI1 hev1 hd1 _ => ?_
    exact ops_seq hL hC l os hl.2 _ base' st1 st' p1 w1 a1 s1 s' hI1 (ids_next hids hst1) hs hst fun a' w' p' h1 h2 h3 h4 => hQ a' w' p' h1 h2 (hev1.trans h3 (fun _ _ h => h) (fun _ _ h => h)) (h4.trans hd1)
end
end Go.Proofs.Ytbodfaghedolbaa
namespace Go.Proofs.Ytbodfaghedolbaa
open Go Go.RowKit
def ren (st st' : Stt) (i : Nat) : Option Nat := (st'.pid.find? fun e => e.2 == i).bind fun e => st.pid.lookup e.1
def wk (st st' : Stt) : Bool :=
  st'.pid.all (fun e => match ren st st' e.2 with | some j => st.pid.lookup e.1 == some j | none => false) &&
  st'.alive.all (fun e => match ren st st' e.1 with | some j => st.alive.lookup j == some e.2 | none => false) &&
  st'.alive.all (fun e => st'.alive.all fun e' => e.1 == e'.1 || !(ren st st' e.1 == ren st st' e'.1)) &&
  st'.len == st.len && st'.spe.isEmpty && st'.nb.isEmpty && st.made.all fun d => st'.made.any fun e => Nat.beq e d
def Le (st st' : Stt) : Prop := ∀ p w m s Own, Inv st p w m s Own → s.pe = [] → Inv st' p w m s Own
theorem wk_le {st st' : Stt} (h : wk st st' = true) : Le st st' := by
  unfold wk at h
  simp only [Bool.and_eq_true, List.all_eq_true, beq_iff_eq, Bool.or_eq_true, Bool.not_eq_true', beq_eq_false_iff_ne] at h
  obtain ⟨⟨⟨⟨⟨⟨h1, h2⟩, h3⟩, h4⟩, h5⟩, h6⟩, h7⟩ := h
  have hmade : ∀ d, d ∈ st.made → d ∈ st'.made := fun d hd => by
    have := h7 d hd
    rw [List.any_eq_true] at this
    obtain ⟨e, he, hb⟩ := this
    rw [← Nat.eq_of_beq_eq_true hb]
    exact he
  intro p w m s Own hI hpe
  obtain ⟨val, hR⟩ := hI.rooms
  have hspe : st'.spe = [] := by simpa using h5
  have hnb : st'.nb = [] := by simpa using h6
  refine ⟨hI.size, by rw [h4]; exact hI.len, fun t ht => (by rw [hnb] at ht; cases ht), by rw [hspe]; trivial, hI.slots, hI.zp, hI.once, ⟨fun t _ => by rw [hpe]; rfl, fun t d off ht => by rw [hspe] at ht; cases ht⟩, hI.own, hI.box, hI.boxd, hI.arr, hI.al, ⟨fun t d ht => (hI.mks.1 t d ht).imp (hmade d) fun h => h, fun d k r hd => hmade d (hI.mks.2 d k r hd)⟩, fun i => val ((ren st st' i).getD 0), ?_⟩
  have halive : ∀ i k, (i, k) ∈ st'.alive → ∃ j, ren st st' i = some j ∧ (j, k) ∈ st.alive := by
    intro i k hm
    have := h2 _ hm
    split at this
    · rename_i j hj
      exact ⟨j, hj, mem_of_lookup (by simpa using this)⟩
    · cases this
  refine ⟨fun q i hm => ?_, fun i k hm => ?_, fun i k b hm hb => ?_, fun i k i' k' b hm hm' hne hb => ?_, fun q i k d k' rows b hm hal hd hbd hb => ?_⟩
  · have := h1 _ hm
    split at this
    · rename_i j hj
      simp only at hj
      rw [hj]
      exact hR.place _ _ (mem_of_lookup' (by simpa using this))
    · cases this
  · obtain ⟨j, hj, hm'⟩ := halive i k hm
    rw [hj]
    exact hR.alive _ _ hm'
  · obtain ⟨j, hj, hm'⟩ := halive i k hm
    rw [hj] at hb
    exact hR.own _ _ b hm' hb
  · obtain ⟨j, hj, hmj⟩ := halive i k hm
    obtain ⟨j', hj', hmj'⟩ := halive i' k' hm'
    rw [hj] at hb
    rw [hj']
    refine hR.apart j k j' k' b hmj hmj' (fun e => ?_) hb
    rcases h3 _ hm _ hm' with h | h
    · exact hne h
    · exact h (by rw [hj, hj', e])
  · obtain ⟨j, hj, hmj⟩ := halive i k hal
    have h1' := h1 _ hm
    simp only at h1'
    rw [hj] at h1' hb
    exact hR.row q j k d k' rows b (mem_of_lookup' (by simpa using h1')) hmj hd hbd hb
theorem Le.trans {a b c : Stt} (h : Le a b) (k : Le b c) : Le a c := fun p w m s Own hI hp => k p w m s Own (h p w m s Own hI hp) hp
def pairUp (a b : Stt) : List (Nat × Nat) → List Nat → List (Nat × Nat × Nat)
  | [], _ => []
  | (i, k) :: r, used =>
    match a.pid.filterMap (fun e => if e.2 == i then (b.pid.lookup e.1).bind fun j => if b.alive.lookup j == some k && !used.contains j then some j else none else none) with
    | j :: _ => (i, j, k) :: pairUp a b r (j :: used)
    | [] => pairUp a b r used
def meet (a b : Stt) : Stt :=
  let ps := pairUp a b a.alive []
  { pid := a.pid.filter fun e => match ps.lookup e.2 with | some x => b.pid.lookup e.1 == some x.1 | none => false,
    alive := ps.map fun x => (x.1, x.2.2), spe := [], len := a.len, made := a.made ++ b.made }
structure Out where
  norm : Option Stt
  exits : List (Nat × Stt)
  ret : Option Stt
def Out.at (O : Out) : Xt → Option Stt
  | .norm => O.norm
  | .exit i => O.exits.lookup i
  | .ret => O.ret
def joinO : Option Stt → Option Stt → Option (Option Stt)
  | none, b => some b
  | a, none => some a
  | some a, some b => let c := meet a b; if wk a c && wk b c then some (some c) else none
def joinX : List (Nat × Stt) → List (Nat × Stt) → Option (List (Nat × Stt))
  | [], b => some b
  | (i, a) :: r, b => (joinX r (b.filter fun e => !(e.1 == i))).bind fun r' => (joinO (some a) (b.lookup i)).bind fun c => match c with | some c => some ((i, c) :: r') | none => none
def joinOut (A B : Out) : Option Out := (joinO A.norm B.norm).bind fun n => (joinX A.exits B.exits).bind fun x => (joinO A.ret B.ret).map fun r => { norm := n, exits := x, ret := r }
theorem joinO_ok {a b : Option Stt} {c : Option Stt} (h : joinO a b = some c) : (∀ st, a = some st → ∃ st', c = some st' ∧ (st = st' ∨ Le st st')) ∧ (∀ st, b = some st → ∃ st', c = some st' ∧ (st = st' ∨ Le st st')) := by
  cases a with
  | none => cases h; exact ⟨fun st h => (by cases h), fun st h => ⟨st, h, .inl rfl⟩⟩
  | some x =>
    cases b with
    | none => cases h; exact ⟨fun st h => ⟨st, h, .inl rfl⟩, fun st h => (by cases h)⟩
    | some y =>
      simp only [joinO] at h
      split at h
      · rename_i hw
        simp only [Bool.and_eq_true] at hw
        cases h
        exact ⟨fun st h => by cases h; exact ⟨_, rfl, .inr (wk_le hw.1)⟩, fun st h => by cases h; exact ⟨_, rfl, .inr (wk_le hw.2)⟩⟩
      · cases h
def maxId (st : Stt) : Nat := st.alive.foldl (fun m e => max m (e.1 + 1)) (st.pid.foldl (fun m e => max m (e.2 + 1)) 0)
def tloop (f : Stt → Option Out) : Nat → Stt → Option (Stt × Out)
  | 0, _ => none
  | n + 1, J => (f J).bind fun O => match O.norm with
    | none => some (J, O)
    | some s1 => if wk s1 J then some (J, { norm := none, exits := O.exits, ret := O.ret }) else tloop f n (meet J s1)
abbrev DrawFn := Lay → Sig → Array Oper → Stt → Option Stt
def tcode (D : DrawFn) (L : Lay) (S : Sig) : Code → Stt → Option Out
  | .skip, st => some { norm := some st, exits := [], ret := none }
  | .region _ ops d, st =>
    if d then (D L S ops st).map fun st' => { norm := some st', exits := [], ret := none }
    else (stepsS L S (maxId st) ops.toList st).map fun r => { norm := some { pid := r.2.pid, alive := r.2.alive, spe := [], len := r.2.len, made := r.2.made }, exits := [], ret := none }
  | .seq a b, st => (tcode D L S a st).bind fun A => match A.norm with
    | none => some A
    | some s1 => (tcode D L S b s1).bind fun B => joinOut { norm := none, exits := A.exits, ret := A.ret } B
  | .cond _ a b, st => (tcode D L S a st).bind fun A => (tcode D L S b st).bind fun B => joinOut A B
  | .block id b, st => (tcode D L S b st).bind fun B => (joinO B.norm (B.exits.lookup id)).map fun n => { norm := n, exits := B.exits.filter fun e => !(e.1 == id), ret := B.ret }
  | .loop b, st => (tloop (tcode D L S b) 6 { pid := st.pid, alive := st.alive, spe := [], len := st.len, made := st.made }).bind fun r => if wk st r.1 then some r.2 else none
  | .exit id, st => some { norm := none, exits := [(id, st)], ret := none }
  | .ret, st => some { norm := none, exits := [], ret := some st }
  | _, _ => none
def exitOf : Xt → Exit
  | .norm => .normal
  | .exit i => .exit i
  | .ret => .ret
theorem joinX_ok : ∀ {a b c : List (Nat × Stt)}, joinX a b = some c → ∀ i, (∀ st, a.lookup i = some st → ∃ st', c.lookup i = some st' ∧ (st = st' ∨ Le st st')) ∧ (∀ st, b.lookup i = some st → ∃ st', c.lookup i = some st' ∧ (st = st' ∨ Le st st'))
  | [], b, c, h, i => by cases h; exact ⟨fun st h => (by cases h), fun st h => ⟨st, h, .inl rfl⟩⟩
  | (j, x) :: r, b, c, h, i => by
    simp only [joinX, Option.bind_eq_some_iff] at h
    obtain ⟨r', hr, c', hc, h⟩ := h
    obtain ⟨k1, k2⟩ := joinO_ok hc
    cases c' with
    | none => cases h
    | some c'' =>
      cases h
      have ih := joinX_ok hr i
      by_cases hij : i = j
      · subst hij
        simp only [List.lookup, beq_self_eq_true]
        exact ⟨fun st h => by cases h; exact k1 _ rfl, fun st h => k2 st h⟩
      · have hb : (i == j) = false := by simpa using hij
        simp only [List.lookup, hb]
        refine ⟨ih.1, fun st h => ih.2 st ?_⟩
        rw [← h]
        clear h ih hr hc k1 k2 hb
        induction b with
        | nil => rfl
        | cons y b ihb =>
          obtain ⟨k, v⟩ := y
          by_cases hkj : k = j
          · subst hkj
            rw [List.filter_cons_of_neg (by simp)]
            rw [ihb]
            simp [List.lookup, show (i == k) = false by simpa using hij]
          · rw [List.filter_cons_of_pos (by simpa using hkj)]
            simp only [List.lookup]
            rw [ihb]
theorem joinOut_ok {A B C : Out} (h : joinOut A B = some C) (e : Xt) : (∀ st, A.at e = some st → ∃ st', C.at e = some st' ∧ (st = st' ∨ Le st st')) ∧ (∀ st, B.at e = some st → ∃ st', C.at e = some st' ∧ (st = st' ∨ Le st st')) := by
  simp only [joinOut, Option.bind_eq_some_iff, Option.map_eq_some_iff] at h
  obtain ⟨n, hn, x, hx, r, hr, rfl⟩ := h
  cases e with
  | norm => exact joinO_ok hn
  | exit i => exact joinX_ok hx i
  | ret => exact joinO_ok hr
end Go.Proofs.Ytbodfaghedolbaa

/- Generic texts and models for the proofs of this seat: part 2. -/
import Derived.Test.YtbodfaghedolbaaS01
set_option linter.unusedVariables false
set_option linter.unusedSimpArgs false
namespace Go.Proofs.Ytbodfaghedolbaa
open Go
def Orc.le (a b : Orc) : Prop := ∀ f x r, a f x = some r → b f x = some r
theorem vopP_le {L : Lay} {c c' : Orc} (h : c.le c') {o : Oper} {s s' : VS} (hs : vopP L c o s = some s') : vopP L c' o s = some s' := by
  unfold vopP at hs ⊢
  split <;> simp_all only [Option.bind_eq_some_iff, Option.map_eq_some_iff]
  obtain ⟨vs, h1, r, h2, h3⟩ := hs
  exact ⟨vs, h1, r, h _ _ _ h2, h3⟩
theorem vopA_le {L : Lay} {c c' : Orc} (h : c.le c') {o : Oper} {s s' : VS} (hs : vopA L c o s = some s') : vopA L c' o s = some s' := by
  unfold vopA at hs ⊢
  split at hs
  case h_8 =>
    split at hs
    · rename_i hh
      rw [if_pos hh]
      simp only [Option.bind_eq_some_iff] at hs ⊢
      obtain ⟨vs, h1, r, h2, h3⟩ := hs
      exact ⟨vs, h1, r, h _ _ _ h2, h3⟩
    · rename_i hh
      rw [if_neg hh]
      split at hs
      · rename_i hl
        rw [if_pos hl]
        simp only [Option.bind_eq_some_iff] at hs ⊢
        obtain ⟨vs, h1, r, h2, h3⟩ := hs
        exact ⟨vs, h1, r, h _ _ _ h2, h3⟩
      · cases hs
  all_goals exact hs
theorem vop_le {L : Lay} {c c' : Orc} (h : c.le c') {o : Oper} {s s' : VS} (hs : vop L c o s = some s') : vop L c' o s = some s' := by
  unfold vop at hs ⊢
  split at hs
  · rename_i hi
    rw [if_pos hi]
    exact vopA_le h hs
  · rename_i hi
    rw [if_neg hi]
    exact vopP_le h hs
theorem vopsP_le {L : Lay} {c c' : Orc} (h : c.le c') {all : List Oper} : ∀ {ops : List Oper} {s s' : VS}, vopsP L c all ops s = some s' → vopsP L c' all ops s = some s'
  | [], _, _, hs => hs
  | o :: rest, s, s', hs => by
    unfold vopsP at hs ⊢
    split at hs
    · rename_i hg
      simp only [Option.bind_eq_some_iff] at hs ⊢
      obtain ⟨s1, h1, h2⟩ := hs
      exact ⟨s1, vopP_le h h1, vopsP_le h h2⟩
    · rename_i g hg
      simp only [Option.bind_eq_some_iff] at hs ⊢
      obtain ⟨t, h0, s1, h1, h2⟩ := hs
      refine ⟨t, h0, s1, ?_, vopsP_le h h2⟩
      cases t
      · exact h1
      · exact vopP_le h h1
theorem vops_le {L : Lay} {c c' : Orc} (h : c.le c') {all : List Oper} : ∀ {ops : List Oper} {s s' : VS}, vops L c all ops s = some s' → vops L c' all ops s = some s'
  | [], _, _, hs => hs
  | o :: rest, s, s', hs => by
    unfold vops at hs ⊢
    split at hs
    · rename_i hg
      simp only [Option.bind_eq_some_iff] at hs ⊢
      obtain ⟨s1, h1, h2⟩ := hs
      exact ⟨s1, vop_le h h1, vops_le h h2⟩
    · rename_i g hg
      simp only [Option.bind_eq_some_iff] at hs ⊢
      obtain ⟨t, h0, s1, h1, h2⟩ := hs
      refine ⟨t, h0, s1, ?_, vops_le h h2⟩
      cases t
      · exact h1
      · exact vop_le h h1
theorem vdraw_le {L : Lay} {c c' : Orc} (h : c.le c') {ops : List Oper} {s s' : List AV} (hs : vdraw L c ops s = some s') : vdraw L c' ops s = some s' := by
  unfold vdraw at hs ⊢
  split at hs
  · rename_i hr
    rw [if_pos hr]
    simp only [Option.bind_eq_some_iff, Option.map_eq_some_iff] at hs ⊢
    obtain ⟨s1, h1, s2, h2, s3, h3, h4⟩ := hs
    exact ⟨s1, vopsP_le h h1, s2, h2, s3, vops_le h h3, h4⟩
  · rename_i hr
    rw [if_neg hr]
    simp only [Option.map_eq_some_iff] at hs ⊢
    obtain ⟨s1, h1, h2⟩ := hs
    exact ⟨s1, vopsP_le h h1, h2⟩
theorem vcode_le {L : Lay} {c c' : Orc} (h : c.le c') : ∀ {n m : Nat} {k : Code} {s : List AV} {r : Xt × List AV}, n ≤ m → vcode L c n k s = some r → vcode L c' m k s = some r
  | 0, _, _, _, _, _, hs => by simp [vcode] at hs
  | n + 1, 0, _, _, _, hm, _ => by omega
  | n + 1, m + 1, k, s, r, hm, hs => by
    have hm' : n ≤ m := by omega
    cases k <;> simp only [vcode] at hs ⊢ <;> try exact hs
    case region id ops d =>
      cases d
      · simp only [Bool.false_eq_true, if_false, Option.map_eq_some_iff] at hs ⊢
        obtain ⟨s1, h1, h2⟩ := hs
        exact ⟨s1, vops_le h h1, h2⟩
      · simp only [if_true, Option.map_eq_some_iff] at hs ⊢
        obtain ⟨s1, h1, h2⟩ := hs
        exact ⟨s1, vdraw_le h h1, h2⟩
    case seq a b =>
      simp only [Option.bind_eq_some_iff] at hs ⊢
      obtain ⟨⟨e, s1⟩, h1, h2⟩ := hs
      refine ⟨_, vcode_le h hm' h1, ?_⟩
      cases e with
      | norm => exact vcode_le h hm' h2
      | exit i => exact h2
      | ret => exact h2
    case cond x a b =>
      simp only [Option.bind_eq_some_iff] at hs ⊢
      obtain ⟨t, h1, h2⟩ := hs
      refine ⟨t, h1, ?_⟩
      cases t
      · exact vcode_le h hm' h2
      · exact vcode_le h hm' h2
    case block id b =>
      simp only [Option.map_eq_some_iff] at hs ⊢
      obtain ⟨r1, h1, h2⟩ := hs
      exact ⟨r1, vcode_le h hm' h1, h2⟩
    case loop b =>
      simp only [Option.bind_eq_some_iff] at hs ⊢
      obtain ⟨⟨e, s1⟩, h1, h2⟩ := hs
      refine ⟨_, vcode_le h hm' h1, ?_⟩
      cases e with
      | norm => exact vcode_le h hm' h2
      | exit i => exact h2
      | ret => exact h2
theorem vbody_le {L : Lay} {c c' : Orc} (h : c.le c') {n m : Nat} {fn : Func} {args : List SV} {r : AV} (hm : n ≤ m) (hs : vbody L c n fn args = some r) : vbody L c' m fn args = some r := by
  unfold vbody at hs ⊢
  split at hs
  · exact hs
  · rename_i k hk
    split at hs
    · rename_i hlen
      rw [if_pos hlen]
      simp only [Option.bind_eq_some_iff] at hs ⊢
      obtain ⟨r1, h1, h2⟩ := hs
      exact ⟨r1, vcode_le h hm h1, h2⟩
    · cases hs
theorem rowE_le {c c' : Orc} (h : c.le c') {m : MapE} {r x : List AC} (hs : rowE c m r = some x) : rowE c' m r = some x := by
  unfold rowE at hs ⊢
  split at hs
  · exact hs
  · simp only [Option.bind_eq_some_iff] at hs ⊢
    obtain ⟨a, h1, h2⟩ := hs
    exact ⟨a, h _ _ _ h1, h2⟩
theorem rowsE_le {c c' : Orc} (h : c.le c') {m : MapE} : ∀ {rs xs : List (List AC)}, rowsE c m rs = some xs → rowsE c' m rs = some xs
  | [], _, hs => hs
  | r :: rs, xs, hs => by
    simp only [rowsE, Option.bind_eq_some_iff, Option.map_eq_some_iff] at hs ⊢
    obtain ⟨x, h1, ys, h2, h3⟩ := hs
    exact ⟨x, rowE_le h h1, ys, rowsE_le h h2, h3⟩
theorem extRun_le {c c' : Orc} (h : c.le c') {e : Ext} {args : List SV} {r : AV} (hs : extRun c e args = some r) : extRun c' e args = some r := by
  cases e with
  | fn run => exact hs
  | map m =>
    unfold extRun at hs ⊢
    simp only at hs ⊢
    split at hs
    · split at hs
      · rename_i hc
        rw [if_pos hc]
        simp only [Option.map_eq_some_iff] at hs ⊢
        obtain ⟨rs, h1, h2⟩ := hs
        exact ⟨rs, rowsE_le h h1, h2⟩
      · cases hs
    · cases hs
theorem vfun_le {P : Program} {L : Lay} {F : Nat → Bool} {E : ExtT} : ∀ {n m : Nat}, n ≤ m → Orc.le (vfun P L F E n) (vfun P L F E m)
  | 0, _, _ => fun _ _ _ h => by simp [vfun] at h
  | n + 1, 0, hm => by omega
  | n + 1, m + 1, hm => fun f x r h => by
    have hm' : n ≤ m := by omega
    simp only [vfun] at h ⊢
    split at h
    · rename_i hF
      rw [if_pos hF]
      split at h
      · exact vbody_le (vfun_le hm') hm' h
      · exact h
    · rename_i hF
      rw [if_neg hF]
      split at h
      · exact extRun_le (vfun_le hm') h
      · cases h
noncomputable def lim {α : Type} (g : Nat → Option α) : Option α :=
  open Classical in if h : ∃ n, (g n).isSome then g h.choose else none
def Mono {α : Type} (g : Nat → Option α) : Prop := ∀ n m r, n ≤ m → g n = some r → g m = some r
theorem lim_iff {α : Type} {g : Nat → Option α} (hg : Mono g) {r : α} : lim g = some r ↔ ∃ n, g n = some r := by
  unfold lim
  constructor
  · intro h
    split at h
    · exact ⟨_, h⟩
    · cases h
  · rintro ⟨n, hn⟩
    have h : ∃ n, (g n).isSome := ⟨n, by rw [hn]; rfl⟩
    rw [dif_pos h]
    obtain ⟨r', hr'⟩ := Option.isSome_iff_exists.1 h.choose_spec
    rw [hr']
    rcases Nat.le_total n h.choose with hle | hle
    · rw [hg _ _ _ hle hn] at hr'; exact hr'.symm
    · rw [hg _ _ _ hle hr'] at hn; exact hn
noncomputable def V (P : Program) (L : Lay) (F : Nat → Bool) (E : ExtT) : Orc := fun f x => lim fun n => vfun P L F E n f x
noncomputable def VC (P : Program) (L : Lay) (F : Nat → Bool) (E : ExtT) (k : Code) (s : List AV) : Option (Xt × List AV) := lim fun n => vcode L (vfun P L F E n) n k s
section
variable {P : Program} {L : Lay} {F : Nat → Bool} {E : ExtT}
theorem V_mono (f : FuncId) (x : List SV) : Mono fun n => vfun P L F E n f x := fun _ _ _ h hs => vfun_le h _ _ _ hs
theorem VC_mono (k : Code) (s : List AV) : Mono fun n => vcode L (vfun P L F E n) n k s := fun _ _ _ h hs => vcode_le (vfun_le h) h hs
theorem V_iff {f : FuncId} {x : List SV} {r : AV} : V P L F E f x = some r ↔ ∃ n, vfun P L F E n f x = some r := lim_iff (V_mono f x)
theorem VC_iff {k : Code} {s : List AV} {r : Xt × List AV} : VC P L F E k s = some r ↔ ∃ n, vcode L (vfun P L F E n) n k s = some r := lim_iff (VC_mono k s)
theorem V_ge (n : Nat) : Orc.le (vfun P L F E n) (V P L F E) := fun _ _ _ h => V_iff.2 ⟨n, h⟩
theorem vopP_cont {o : Oper} {s s' : VS} (h : vopP L (V P L F E) o s = some s') : ∃ n, vopP L (vfun P L F E n) o s = some s' := by
  unfold vopP at h ⊢
  split <;> simp_all only [Option.bind_eq_some_iff, Option.map_eq_some_iff, exists_const]
  obtain ⟨vs, h1, r, h2, h3⟩ := h
  obtain ⟨n, hn⟩ := V_iff.1 h2
  exact ⟨n, vs, h1, r, hn, h3⟩
theorem vopA_cont {o : Oper} {s s' : VS} (h : vopA L (V P L F E) o s = some s') : ∃ n, vopA L (vfun P L F E n) o s = some s' := by
  unfold vopA at h ⊢
  split at h
  case h_8 =>
    split at h
    · rename_i hh
      simp only [if_pos hh]
      simp only [Option.bind_eq_some_iff] at h ⊢
      obtain ⟨vs, h1, r, h2, h3⟩ := h
      obtain ⟨n, hn⟩ := V_iff.1 h2
      exact ⟨n, vs, h1, r, hn, h3⟩
    · rename_i hh
      simp only [if_neg hh]
      split at h
      · rename_i hl
        simp only [if_pos hl]
        simp only [Option.bind_eq_some_iff] at h ⊢
        obtain ⟨vs, h1, r, h2, h3⟩ := h
        obtain ⟨n, hn⟩ := V_iff.1 h2
        exact ⟨n, vs, h1, r, hn, h3⟩
      · cases h
  all_goals exact ⟨0, h⟩
theorem vop_cont {o : Oper} {s s' : VS} (h : vop L (V P L F E) o s = some s') : ∃ n, vop L (vfun P L F E n) o s = some s' := by
  unfold vop at h ⊢
  split at h
  · rename_i hi
    simp only [if_pos hi]
    exact vopA_cont h
  · rename_i hi
    simp only [if_neg hi]
    exact vopP_cont h
theorem vopsP_cont {all : List Oper} : ∀ {ops : List Oper} {s s' : VS}, vopsP L (V P L F E) all ops s = some s' → ∃ n, vopsP L (vfun P L F E n) all ops s = some s'
  | [], _, _, h => ⟨0, h⟩
  | o :: rest, s, s', h => by
    unfold vopsP at h ⊢
    split at h
    · simp only [Option.bind_eq_some_iff] at h ⊢
      obtain ⟨s1, h1, h2⟩ := h
      obtain ⟨n1, h1⟩ := vopP_cont h1
      obtain ⟨n2, h2⟩ := vopsP_cont h2
      exact ⟨max n1 n2, s1, vopP_le (vfun_le (Nat.le_max_left _ _)) h1, vopsP_le (vfun_le (Nat.le_max_right _ _)) h2⟩
    · simp only [Option.bind_eq_some_iff] at h ⊢
      obtain ⟨t, h0, s1, h1, h2⟩ := h
      obtain ⟨n2, h2⟩ := vopsP_cont h2
      cases t
      · exact ⟨n2, false, h0, s1, h1, h2⟩
      · obtain ⟨n1, h1⟩ := vopP_cont h1
        exact ⟨max n1 n2, true, h0, s1, vopP_le (vfun_le (Nat.le_max_left _ _)) h1, vopsP_le (vfun_le (Nat.le_max_right _ _)) h2⟩
theorem vops_cont {all : List Oper} : ∀ {ops : List Oper} {s s' : VS}, vops L (V P L F E) all ops s = some s' → ∃ n, vops L (vfun P L F E n) all ops s = some s'
  | [], _, _, h => ⟨0, h⟩
  | o :: rest, s, s', h => by
    unfold vops at h ⊢
    split at h
    · simp only [Option.bind_eq_some_iff] at h ⊢
      obtain ⟨s1, h1, h2⟩ := h
      obtain ⟨n1, h1⟩ := vop_cont h1
      obtain ⟨n2, h2⟩ := vops_cont h2
      exact ⟨max n1 n2, s1, vop_le (vfun_le (Nat.le_max_left _ _)) h1, vops_le (vfun_le (Nat.le_max_right _ _)) h2⟩
    · simp only [Option.bind_eq_some_iff] at h ⊢
      obtain ⟨t, h0, s1, h1, h2⟩ := h
      obtain ⟨n2, h2⟩ := vops_cont h2
      cases t
      · exact ⟨n2, false, h0, s1, h1, h2⟩
      · obtain ⟨n1, h1⟩ := vop_cont h1
        exact ⟨max n1 n2, true, h0, s1, vop_le (vfun_le (Nat.le_max_left _ _)) h1, vops_le (vfun_le (Nat.le_max_right _ _)) h2⟩
theorem vdraw_cont {ops : List Oper} {s s' : List AV} (hs : vdraw L (V P L F E) ops s = some s') : ∃ n, vdraw L (vfun P L F E n) ops s = some s' := by
  unfold vdraw at hs ⊢
  split at hs
  · rename_i hr
    simp only [if_pos hr]
    simp only [Option.bind_eq_some_iff, Option.map_eq_some_iff] at hs ⊢
    obtain ⟨s1, h1, s2, h2, s3, h3, h4⟩ := hs
    obtain ⟨n1, h1⟩ := vopsP_cont h1
    obtain ⟨n2, h3⟩ := vops_cont h3
    exact ⟨max n1 n2, s1, vopsP_le (vfun_le (Nat.le_max_left _ _)) h1, s2, h2, s3, vops_le (vfun_le (Nat.le_max_right _ _)) h3, h4⟩
  · rename_i hr
    simp only [if_neg hr]
    simp only [Option.map_eq_some_iff] at hs ⊢
    obtain ⟨s1, h1, h2⟩ := hs
    obtain ⟨n, hn⟩ := vopsP_cont h1
    exact ⟨n, s1, hn, h2⟩
theorem opt_ext {α : Type} {a b : Option α} (h : ∀ r, a = some r ↔ b = some r) : a = b := Option.ext (by simpa using h)
theorem VC_skip (s : List AV) : VC P L F E .skip s = some (.norm, s) := VC_iff.2 ⟨1, rfl⟩
theorem VC_exit (id : Nat) (s : List AV) : VC P L F E (.exit id) s = some (.exit id, s) := VC_iff.2 ⟨1, rfl⟩
theorem VC_ret (s : List AV) : VC P L F E .ret s = some (.ret, s) := VC_iff.2 ⟨1, rfl⟩
theorem VC_region (id : Nat) (ops : Array Oper) (s : List AV) :
    VC P L F E (.region id ops false) s = (vops L (V P L F E) ops.toList ops.toList { σ := s, pe := [] }).map fun s => (.norm, s.σ) := by
  refine opt_ext fun r => ?_
  rw [VC_iff]
  constructor
  · rintro ⟨n, hn⟩
    cases n with
    | zero => simp [vcode] at hn
    | succ n =>
      simp only [vcode, Bool.false_eq_true, if_false, Option.map_eq_some_iff] at hn ⊢
      obtain ⟨s1, h1, h2⟩ := hn
      exact ⟨s1, vops_le (V_ge _) h1, h2⟩
  · intro h
    simp only [Option.map_eq_some_iff] at h
    obtain ⟨s1, h1, h2⟩ := h
    obtain ⟨n, hn⟩ := vops_cont h1
    refine ⟨n + 1, ?_⟩
    simp only [vcode, Bool.false_eq_true, if_false, Option.map_eq_some_iff]
    exact ⟨s1, vops_le (vfun_le (Nat.le_succ n)) hn, h2⟩
theorem VC_drawn (id : Nat) (ops : Array Oper) (s : List AV) :
    VC P L F E (.region id ops true) s = (vdraw L (V P L F E) ops.toList s).map fun s => (.norm, s) := by
  refine opt_ext fun r => ?_
  rw [VC_iff]
  constructor
  · rintro ⟨n, hn⟩
    cases n with
    | zero => simp [vcode] at hn
    | succ n =>
      simp only [vcode, if_true, Option.map_eq_some_iff] at hn ⊢
      obtain ⟨s1, h1, h2⟩ := hn
      exact ⟨s1, vdraw_le (V_ge _) h1, h2⟩
  · intro h
    simp only [Option.map_eq_some_iff] at h
    obtain ⟨s1, h1, h2⟩ := h
    obtain ⟨n, hn⟩ := vdraw_cont h1
    refine ⟨n + 1, ?_⟩
    simp only [vcode, if_true, Option.map_eq_some_iff]
    exact ⟨s1, vdraw_le (vfun_le (Nat.le_succ n)) hn, h2⟩
noncomputable def andThen (P : Program) (L : Lay) (F : Nat → Bool) (E : ExtT) (k : Code) : Xt × List AV → Option (Xt × List AV)
  | (.norm, s) => VC P L F E k s
  | r => some r
theorem vcode_VC {n : Nat} {k : Code} {s : List AV} {r : Xt × List AV} (h : vcode L (vfun P L F E (n + 1)) n k s = some r) : VC P L F E k s = some r :=
  VC_iff.2 ⟨n + 1, vcode_le (fun _ _ _ h => h) (Nat.le_succ n) h⟩
theorem VC_vcode {k : Code} {s : List AV} {r : Xt × List AV} (h : VC P L F E k s = some r) : ∃ n, ∀ m, n ≤ m → vcode L (vfun P L F E (m + 1)) m k s = some r := by
  obtain ⟨n, hn⟩ := VC_iff.1 h
  exact ⟨n, fun m hm => vcode_le (vfun_le (by omega)) hm hn⟩
theorem VC_two {a b : Code} {s : List AV} {c : Code} (hc : ∀ n, vcode L (vfun P L F E (n + 1)) (n + 1) c s = (vcode L (vfun P L F E (n + 1)) n a s).bind fun r => match r with
      | (.norm, s') => vcode L (vfun P L F E (n + 1)) n b s'
      | r => some r) : VC P L F E c s = (VC P L F E a s).bind (andThen P L F E b) := by
  refine opt_ext fun r => ?_
  simp only [Option.bind_eq_some_iff]
  constructor
  · intro h
    obtain ⟨n, hn⟩ := VC_iff.1 h
    have hn := vcode_le (L := L) (vfun_le (P := P) (Nat.le_succ n)) (Nat.le_succ n) hn
    rw [hc] at hn
    simp only [Option.bind_eq_some_iff] at hn
    obtain ⟨⟨e, s1⟩, h1, h2⟩ := hn
    refine ⟨_, vcode_VC h1, ?_⟩
    cases e with
    | norm => exact vcode_VC h2
    | exit i => exact h2
    | ret => exact h2
  · rintro ⟨⟨e, s1⟩, h1, h2⟩
    obtain ⟨n1, h1⟩ := VC_vcode h1
    cases e with
    | norm =>
      obtain ⟨n2, h2⟩ := VC_vcode (P := P) (L := L) (k := b) h2
      refine VC_iff.2 ⟨max n1 n2 + 1, ?_⟩
      rw [hc]
      simp only [Option.bind_eq_some_iff]
      exact ⟨_, h1 _ (Nat.le_max_left _ _), h2 _ (Nat.le_max_right _ _)⟩
    | exit i =>
      refine VC_iff.2 ⟨n1 + 1, ?_⟩
      rw [hc]
      simp only [Option.bind_eq_some_iff]
      exact ⟨_, h1 _ (Nat.le_refl _), h2⟩
    | ret =>
      refine VC_iff.2 ⟨n1 + 1, ?_⟩
      rw [hc]
      simp only [Option.bind_eq_some_iff]
      exact ⟨_, h1 _ (Nat.le_refl _), h2⟩
theorem VC_seq (a b : Code) (s : List AV) : VC P L F E (.seq a b) s = (VC P L F E a s).bind (andThen P L F E b) := VC_two fun _ => rfl
theorem VC_loop (b : Code) (s : List AV) : VC P L F E (.loop b) s = (VC P L F E b s).bind (andThen P L F E (.loop b)) := VC_two fun _ => rfl
theorem VC_cond (x : Operand) (a b : Code) (s : List AV) :
    VC P L F E (.cond x a b) s = (boolO L { σ := s, pe := [] } x).bind fun t => if t then VC P L F E a s else VC P L F E b s := by
  refine opt_ext fun r => ?_
  simp only [Option.bind_eq_some_iff]
  constructor
  · intro h
    obtain ⟨n, hn⟩ := VC_iff.1 h
    have hn := vcode_le (L := L) (vfun_le (P := P) (Nat.le_succ n)) (Nat.le_succ n) hn
    simp only [vcode, Option.bind_eq_some_iff] at hn
    obtain ⟨t, h1, h2⟩ := hn
    refine ⟨t, h1, ?_⟩
    cases t
    · exact vcode_VC h2
    · exact vcode_VC h2
  · rintro ⟨t, h1, h2⟩
    cases t
    · obtain ⟨n, h2⟩ := VC_vcode (P := P) (L := L) (k := b) h2
      refine VC_iff.2 ⟨n + 1, ?_⟩
      simp only [vcode, Option.bind_eq_some_iff]
      exact ⟨false, h1, h2 _ (Nat.le_refl _)⟩
    · obtain ⟨n, h2⟩ := VC_vcode (P := P) (L := L) (k := a) h2
      refine VC_iff.2 ⟨n + 1, ?_⟩
      simp only [vcode, Option.bind_eq_some_iff]
      exact ⟨true, h1, h2 _ (Nat.le_refl _)⟩
def leave (id : Nat) : Xt × List AV → Xt × List AV
  | (.exit i, s) => if i = id then (.norm, s) else (.exit i, s)
  | r => r
theorem VC_block (id : Nat) (b : Code) (s : List AV) : VC P L F E (.block id b) s = (VC P L F E b s).map (leave id) := by
  refine opt_ext fun r => ?_
  simp only [Option.map_eq_some_iff]
  constructor
  · intro h
    obtain ⟨n, hn⟩ := VC_iff.1 h
    have hn := vcode_le (L := L) (vfun_le (P := P) (Nat.le_succ n)) (Nat.le_succ n) hn
    simp only [vcode, Option.map_eq_some_iff] at hn
    obtain ⟨t, h1, h2⟩ := hn
    exact ⟨t, vcode_VC h1, h2⟩
  · rintro ⟨t, h1, h2⟩
    obtain ⟨n, h1⟩ := VC_vcode h1
    refine VC_iff.2 ⟨n + 1, ?_⟩
    simp only [vcode, Option.map_eq_some_iff]
    exact ⟨t, h1 _ (Nat.le_refl _), h2⟩
def outV (L : Lay) (fn : Func) : Xt × List AV → Option AV
  | (.exit _, _) => none
  | (_, s) => (resVs L s fn.results.toList).map fun vs => match vs with
      | [v] => .v v
      | vs => .tup vs
theorem V_eq {f : FuncId} {fn : Func} {c : Code} (hF : F f = true) (hf : P.funcs[f]? = some fn) (hb : fn.body = some c) (x : List SV) (hx : x.length ≤ fn.ntmps) :
    V P L F E f x = (VC P L F E c (x.map .v ++ List.replicate (fn.ntmps - x.length) .und)).bind (outV L fn) := by
  refine opt_ext fun r => ?_
  simp only [Option.bind_eq_some_iff]
  constructor
  · intro h
    obtain ⟨n, hn⟩ := V_iff.1 h
    cases n with
    | zero => simp [vfun] at hn
    | succ n =>
      simp only [vfun, hF, if_true, hf, vbody, hb, if_pos hx, Option.bind_eq_some_iff] at hn
      obtain ⟨⟨e, s1⟩, h1, h2⟩ := hn
      exact ⟨_, VC_iff.2 ⟨n, h1⟩, by cases e <;> exact h2⟩
  · rintro ⟨⟨e, s1⟩, h1, h2⟩
    obtain ⟨n, hn⟩ := VC_iff.1 h1
    refine V_iff.2 ⟨n + 1, ?_⟩
    simp only [vfun, hF, if_true, hf, vbody, hb, if_pos hx, Option.bind_eq_some_iff]
    exact ⟨_, hn, by cases e <;> exact h2⟩
end
end Go.Proofs.Ytbodfaghedolbaa
namespace Go.Proofs.Ytbodfaghedolbaa
open Go
def ev (L : Lay) (call : Orc) (lo : Code → List AV → Option (Xt × List AV)) : Code → List AV → Option (Xt × List AV)
  | .skip, s => some (.norm, s)
  | .region _ ops d, s => if d then (vdraw L call ops.toList s).map fun s => (.norm, s) else (vops L call ops.toList ops.toList { σ := s, pe := [] }).map fun s => (.norm, s.σ)
  | .seq a b, s => (ev L call lo a s).bind fun r => match r with
      | (.norm, s') => ev L call lo b s'
      | r => some r
  | .cond x a b, s => (boolO L { σ := s, pe := [] } x).bind fun t => if t then ev L call lo a s else ev L call lo b s
  | .block id b, s => (ev L call lo b s).map (leave id)
  | .loop b, s => lo (.loop b) s
  | .exit id, s => some (.exit id, s)
  | .ret, s => some (.ret, s)
  | _, _ => none
section
variable {P : Program} {L : Lay} {F : Nat → Bool} {E : ExtT}
end
theorem wrap_in {n : Int} (h1 : -9223372036854775808 ≤ n) (h2 : n ≤ 9223372036854775807) : wrapI n = n := by
  unfold wrapI
  rw [IntKind.wrap_i64]
  omega
end Go.Proofs.Ytbodfaghedolbaa

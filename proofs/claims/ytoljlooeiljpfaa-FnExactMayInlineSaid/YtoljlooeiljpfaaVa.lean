/- Runs over values, for whoever computes them. -/
import Derived.Test.YtoljlooeiljpfaaNb
namespace Go.Proofs.Ytoljlooeiljpfaa
open Go

/-- A run in which calls and loops are asked of others. -/
def ev (L : Lay) (call : Orc) (lo : Code → List AV → Option (Xt × List AV)) : Code → List AV → Option (Xt × List AV)
  | .skip, s => some (.norm, s)
  | .region _ ops d, s => if d then (vdraw L call ops.toList s).map fun s => (.norm, s) else (vops L call ops.toList ops.toList { σ := s, pe := [] }).map fun s => (.norm, s.σ)
  | .seq a b, s => (ev L call lo a s).bind fun r => match r with
      | (.norm, s') => ev L call lo b s'
      | r => some r
  | .cond x a b, s => (boolO L { σ := s, pe := [] } x).bind fun t => if t then ev L call lo a s else ev L call lo b s
  | .block id b, s => (ev L call lo b s).map (leave id)
  | .loop b, s => lo (.loop b) s
  | .exit id, s => some (.exit id, s)
  | .ret, s => some (.ret, s)
  | _, _ => none
/-- A function's run in which calls and loops are asked of others. -/
def evF (L : Lay) (call : Orc) (lo : Code → List AV → Option (Xt × List AV)) (fn : Func) (x : List SV) : Option AV :=
  match fn.body with
  | none => none
  | some c => (ev L call lo c (x.map .v ++ List.replicate (fn.ntmps - x.length) .und)).bind (outV L fn)

section
variable {P : Program} {L : Lay} {F : Nat → Bool} {E : ExtT}
theorem VC_none {k : Code} {s : List AV} (h : ∀ n, vcode L (vfun P L F E n) n k s = none) : VC P L F E k s = none := by
  rcases hv : VC P L F E k s with _ | r
  · rfl
  · obtain ⟨n, hn⟩ := VC_iff.1 hv
    rw [h n] at hn
    cases hn
theorem VC_ev : ∀ (c : Code) (s : List AV), VC P L F E c s = ev L (V P L F E) (VC P L F E) c s
  | .skip, s => VC_skip s
  | .region id ops true, s => VC_drawn id ops s
  | .region id ops false, s => VC_region id ops s
  | .seq a b, s => by
    rw [VC_seq, VC_ev a]
    simp only [ev]
    congr 1
    funext r
    obtain ⟨e, s'⟩ := r
    cases e with
    | norm => exact VC_ev b s'
    | exit i => rfl
    | ret => rfl
  | .cond x a b, s => by
    rw [VC_cond]
    simp only [ev]
    congr 1
    funext t
    rw [VC_ev a, VC_ev b]
  | .block id b, s => by rw [VC_block, VC_ev b]; rfl
  | .loop b, s => rfl
  | .exit id, s => VC_exit id s
  | .ret, s => VC_ret s
  | .rangeFunc _ _ _ _, s => VC_none fun n => by cases n <;> rfl
  | .scope _, s => VC_none fun n => by cases n <;> rfl
  | .label _, s => VC_none fun n => by cases n <;> rfl
  | .goto _, s => VC_none fun n => by cases n <;> rfl
  | .refuse _, s => VC_none fun n => by cases n <;> rfl
theorem V_ev {f : FuncId} {fn : Func} (hF : F f = true) (hf : P.funcs[f]? = some fn) (x : List SV) (hx : x.length ≤ fn.ntmps) : V P L F E f x = evF L (V P L F E) (VC P L F E) fn x := by
  unfold evF
  cases hb : fn.body with
  | none =>
    rcases hv : V P L F E f x with _ | r
    · rfl
    · obtain ⟨n, hn⟩ := V_iff.1 hv
      cases n with
      | zero => cases hn
      | succ n => simp [vfun, hF, hf, vbody, hb] at hn
  | some c => rw [V_eq hF hf hb x hx, VC_ev c]

/-- A loop: each round keeps the relation and goes up, or leaves by what is wanted. -/
theorem loop_up {b : Code} (I : Nat → List AV → Prop) (Q : Xt × List AV → Prop) (n : Nat)
    (round : ∀ k s, k ≤ n → I k s → ∃ r, ev L (V P L F E) (VC P L F E) b s = some r ∧ (match r with | (.norm, s') => k < n ∧ I (k + 1) s' | r => Q r)) : ∀ (s : List AV), I 0 s → ∃ r, VC P L F E (.loop b) s = some r ∧ Q r := by
  have key : ∀ (m k : Nat) (s : List AV), m + k = n → I k s → ∃ r, VC P L F E (.loop b) s = some r ∧ Q r := by
    intro m
    induction m with
    | zero =>
      intro k s hk hI
      obtain ⟨r, h1, h2⟩ := round k s (by omega) hI
      rw [VC_loop, VC_ev b, h1]
      obtain ⟨e, s'⟩ := r
      cases e with
      | norm => exact absurd h2.1 (by omega)
      | exit i => exact ⟨_, rfl, h2⟩
      | ret => exact ⟨_, rfl, h2⟩
    | succ m ih =>
      intro k s hk hI
      obtain ⟨r, h1, h2⟩ := round k s (by omega) hI
      rw [VC_loop, VC_ev b, h1]
      obtain ⟨e, s'⟩ := r
      cases e with
      | norm => exact ih (k + 1) s' (by omega) h2.2
      | exit i => exact ⟨_, rfl, h2⟩
      | ret => exact ⟨_, rfl, h2⟩
  exact fun s hI => key n 0 s (by omega) hI
/-- A loop that goes on and on: any measure. -/
theorem loop_any {b : Code} (I : List AV → Prop) (μ : List AV → Nat) (Q : Xt × List AV → Prop)
    (round : ∀ s, I s → ∃ r, ev L (V P L F E) (VC P L F E) b s = some r ∧ (match r with | (.norm, s') => μ s' < μ s ∧ I s' | r => Q r)) : ∀ (s : List AV), I s → ∃ r, VC P L F E (.loop b) s = some r ∧ Q r := by
  have key : ∀ (m : Nat) (s : List AV), μ s = m → I s → ∃ r, VC P L F E (.loop b) s = some r ∧ Q r := by
    intro m
    induction m using Nat.strongRecOn with
    | _ m ih =>
      intro s hm hI
      obtain ⟨r, h1, h2⟩ := round s hI
      rw [VC_loop, VC_ev b, h1]
      obtain ⟨e, s'⟩ := r
      cases e with
      | norm => exact ih (μ s') (by have := h2.1; omega) s' rfl h2.2
      | exit i => exact ⟨_, rfl, h2⟩
      | ret => exact ⟨_, rfl, h2⟩
  exact fun s hI => key _ s rfl hI
end
theorem wrap_in {n : Int} (h1 : -9223372036854775808 ≤ n) (h2 : n ≤ 9223372036854775807) : wrapI n = n := by
  unfold wrapI
  rw [IntKind.wrap_i64]
  omega
end Go.Proofs.Ytoljlooeiljpfaa

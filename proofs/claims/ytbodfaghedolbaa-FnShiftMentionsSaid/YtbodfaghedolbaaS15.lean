/- Generic texts and models for the proofs of this seat: part 15. -/
import Derived.Test.YtbodfaghedolbaaS14
set_option linter.unusedVariables false
set_option linter.unusedSimpArgs false
namespace Go.Proofs.Ytbodfaghedolbaa
open Go Go.RowKit
section
variable {P : Program} {L : Lay} {S : Sig} {call : Orc} {Own : Nat → Prop} {D : DrawFn}
theorem Inv.reset {st : Stt} {p : Stb} {w : World} {m : Array Value} {s : VS} (h : Inv st p w m s Own) : Inv { pid := st.pid, alive := st.alive, spe := [], len := st.len, made := st.made } p w m { σ := s.σ, pe := [] } Own := by
  obtain ⟨val, hR⟩ := h.rooms
  exact ⟨h.size, h.len, fun t ht => (by cases ht), trivial, fun t => ⟨(h.slots t).1, fun q hq => by cases hq⟩, h.zp, trivial, ⟨fun _ _ => rfl, fun _ _ _ ht => by cases ht⟩, h.own, h.box, h.boxd, h.arr, h.al, h.mks, val, ⟨hR.place, hR.alive, hR.own, hR.apart, hR.row⟩⟩
theorem mask_get (σ : List AV) (t : Nat) : VS.get { σ := mask σ, pe := [] } t = if isRow (VS.get { σ := σ, pe := [] } t) then .al noHome else VS.get { σ := σ, pe := [] } t := by
  have key : ∀ x : Option AV, (x.map fun x => if isRow x then .al noHome else x).getD .und = if isRow (x.getD .und) then AV.al noHome else x.getD .und := fun x => by
    cases x <;> rfl
  simp only [VS.get, mask, List.getD, List.getElem?_map]
  exact key _
theorem mask_arr (σ : List AV) (t k : Nat) (r : List (List AC)) : VS.get { σ := mask σ, pe := [] } t ≠ .arr k r := by
  rw [mask_get]
  split
  · intro h; cases h
  · rename_i h
    intro e
    rw [e] at h
    exact h rfl
theorem mask_al (σ : List AV) (t d : Nat) (h : VS.get { σ := mask σ, pe := [] } t = .al d) : d = noHome := by
  rw [mask_get] at h
  split at h
  · cases h; rfl
  · rename_i hr
    rw [h] at hr
    exact absurd rfl hr
theorem Inv.masked {st : Stt} {p : Stb} {w : World} {m : Array Value} {σ : List AV} (h : Inv st p w m { σ := σ, pe := [] } Own) : Inv st p w m { σ := mask σ, pe := [] } Own := by
  obtain ⟨val, hR⟩ := h.rooms
  have hbox : ∀ d cs, VS.get { σ := mask σ, pe := [] } d = .box cs → VS.get { σ := σ, pe := [] } d = .box cs := fun d cs hd => by
    rw [mask_get] at hd
    split at hd
    · cases hd
    · exact hd
  have harr := mask_arr σ
  refine ⟨by rw [h.size]; simp [mask], by rw [h.len]; simp [mask], fun t ht => ⟨fun d off hl => (by cases hl), fun cs hc => (h.nbk t ht).2 cs (hbox t cs hc)⟩, h.sonce, fun t => ⟨?_, fun q hq => by cases hq⟩, h.zp, trivial, h.spe, h.own, fun d cs hd => h.box d cs (hbox d cs hd), fun d d' cs cs' b hne hd hd' => h.boxd d d' cs cs' b hne (hbox d cs hd) (hbox d' cs' hd'),
    fun d k r b hd => absurd hd (harr d k r), fun t d k r _ hd => absurd hd (harr d k r), ⟨fun t d ht => .inr (mask_al σ t d ht), fun d k r hd => absurd hd (harr d k r)⟩, val, ⟨fun q id hm => ⟨(hR.place q id hm).1, ?_⟩, hR.alive, fun id k b hm hb => ⟨(hR.own id k b hm hb).1, fun d cs hd => (hR.own id k b hm hb).2 d cs (hbox d cs hd)⟩, hR.apart, fun q id k d k' r b _ _ hd => absurd hd (harr d k' r)⟩⟩
  · have hs := (h.slots t).1
    rw [mask_get]
    split
    · rename_i hr
      rcases hx : VS.get { σ := σ, pe := [] } t with _ | x | xs | cs | ⟨k, rows⟩ | d
      · rw [hx] at hr; cases hr
      · rw [hx] at hr; cases hr
      · rw [hx] at hr; cases hr
      · rw [hx] at hr; cases hr
      · rw [hx] at hs
        rcases hs.2.2 with ⟨e, _⟩ | ⟨_, _, _, _, _, _, e, _⟩
        · exact ⟨_, _, _, e⟩
        · exact ⟨_, _, _, e⟩
      · rw [hx] at hs
        exact hs
    · exact hs
  · rw [mask_get]
    split
    · intro e; cases e
    · exact (hR.place q id hm).2
theorem exists_least (q : Nat → Prop) (h : ∃ m, q m) : ∃ m, q m ∧ ∀ k, q k → m ≤ k := by
  obtain ⟨m, hm⟩ := h
  induction m using Nat.strongRecOn with
  | _ m ih =>
    by_cases hk : ∃ k, k < m ∧ q k
    · obtain ⟨k, h1, h2⟩ := hk
      exact ih k h1 h2
    · exact ⟨m, hm, fun k hq => Nat.le_of_not_lt fun hlt => hk ⟨k, hlt, hq⟩⟩
noncomputable def least (q : Nat → Prop) : Nat := open Classical in if h : ∃ m, q m then (exists_least q h).choose else 0
theorem least_spec {q : Nat → Prop} (h : ∃ m, q m) : q (least q) ∧ ∀ k, q k → least q ≤ k := by
  unfold least
  rw [dif_pos h]
  exact (exists_least q h).choose_spec
def DrawnOk (P : Program) (L : Lay) (S : Sig) (call : Orc) (D : DrawFn) : Prop :=
  ∀ (Own : Nat → Prop) (id : Nat) (ops : Array Oper) (st st' : Stt) (σ σ' : List AV) (p : Stb) (w : World) (a : Act) (Q : Exit → Act → World → Prop), D L S ops st = some st' → vdraw L call ops.toList σ = some σ' → Inv st p w a.tmps { σ := σ, pe := [] } Own →
    (∀ a' w' p', Inv st' p' w' a'.tmps { σ := σ', pe := [] } Own → Evo Own p w p' w' → a'.defers = a.defers → Q .normal a' w') → (Code.region id ops true).wp P Q a w
theorem ids_max (st : Stt) : IdsLt st (maxId st) := by
  have h1 : ∀ (l : List ((Nat × Nat) × Nat)) (m : Nat), m ≤ l.foldl (fun m e => max m (e.2 + 1)) m := by
    intro l
    induction l with
    | nil => intro m; exact Nat.le_refl _
    | cons x l ih => intro m; exact Nat.le_trans (Nat.le_max_left _ _) (ih _)
  have h2 : ∀ (l : List ((Nat × Nat) × Nat)) (m : Nat), ∀ e ∈ l, e.2 < l.foldl (fun m e => max m (e.2 + 1)) m := by
    intro l
    induction l with
    | nil => intro m e he; cases he
    | cons x l ih =>
      intro m e he
      rcases List.mem_cons.1 he with rfl | he
      · exact Nat.lt_of_lt_of_le (show e.2 < max m (e.2 + 1) by omega) (h1 l _)
      · exact ih _ e he
  exact ⟨fun q id hm => Nat.lt_of_lt_of_le (h2 _ 0 _ hm) (le_foldl_max _ _), fun id k hm => foldl_max_lt _ _ _ hm⟩
theorem exit_then {K : Act → World → Prop} {Q : Exit → Act → World → Prop} {e : Xt} {a : Act} {w : World} (h1 : e = .norm → K a w) (h2 : e ≠ .norm → Q (exitOf e) a w) : Exit.then K Q (exitOf e) a w := by
  cases e with
  | norm => exact h1 rfl
  | exit i => exact h2 (by intro h; cases h)
  | ret => exact h2 (by intro h; cases h)
theorem code_ok (hL : LayOk P L) (hC : CallOk P S call) (hD : DrawnOk P L S call D) : ∀ (n : Nat) (c : Code) (σ : List AV) (e : Xt) (σ' : List AV) (st : Stt) (O : Out), vcode L call n c σ = some (e, σ') → tcode D L S c st = some O →
    ∀ (p : Stb) (w : World) (a : Act), Inv st p w a.tmps { σ := σ, pe := [] } Own → a.defers = [] → ∀ (Q : Exit → Act → World → Prop),
    (∀ st' a' w' p', O.at e = some st' → Inv st' p' w' a'.tmps { σ := σ', pe := [] } Own → Evo Own p w p' w' → a'.defers = [] → Q (exitOf e) a' w') → c.wp P Q a w := by
  intro n
  induction n with
  | zero => intro c σ e σ' st O hv; simp [vcode] at hv
  | succ n ih =>
    intro c σ e σ' st O hv ht p w a hI hd Q hQ
    have ett : ∀ {p p' p'' : Stb} {w w' w'' : World}, Evo Own p w p' w' → Evo Own p' w' p'' w'' → Evo Own p w p'' w'' := fun h k => h.trans k (fun _ _ h => h) (fun _ _ h => h)
    cases c with
    | skip =>
      simp only [vcode, Option.some.injEq, Prod.mk.injEq] at hv
      obtain ⟨rfl, rfl⟩ := hv
      cases ht
      exact wp_skip (hQ st a w p rfl hI (.refl _ _ _) hd)
    | region id ops d =>
      simp only [tcode] at ht
      cases d with
      | true =>
        simp only [vcode, if_true, Option.map_eq_some_iff, Prod.mk.injEq] at hv
        obtain ⟨s', hs, rfl, rfl⟩ := hv
        simp only [if_true, Option.map_eq_some_iff] at ht
        obtain ⟨st', hst, rfl⟩ := ht
        exact hD Own id ops st st' σ s' p w a Q hst hs hI fun a' w' p' h1 h2 h3 => hQ st' a' w' p' rfl h1 h2 (h3.trans hd)
      | false =>
        simp only [vcode, Bool.false_eq_true, if_false, Option.map_eq_some_iff, Prod.mk.injEq] at hv
        obtain ⟨s', hs, rfl, rfl⟩ := hv
        simp only [Bool.false_eq_true, if_false, Option.map_eq_some_iff] at ht
        obtain ⟨⟨b', st'⟩, hst, rfl⟩ := ht
        refine wp_region (ops_seq hL hC (List.range ops.size) ops.toList ?_ _ b' st st' p w a _ s' hI (ids_max st) hs hst fun a' w' p' h1 _ h2 h3 => hQ _ a' w' p' rfl h1.reset h2 (h3.trans hd))
        apply List.ext_getElem?
        intro i
        simp only [List.getElem?_map, Array.getElem?_toList]
        rcases Nat.lt_or_ge i ops.size with hi | hi
        · rw [List.getElem?_range hi]
          simp [hi]
        · rw [List.getElem?_eq_none (by simpa using hi), Array.getElem?_eq_none hi]
          rfl
    | seq x y =>
      simp only [vcode, Option.bind_eq_some_iff] at hv
      obtain ⟨⟨e1, σ1⟩, h1, h2⟩ := hv
      simp only [tcode, Option.bind_eq_some_iff] at ht
      obtain ⟨A, hA, ht⟩ := ht
      refine wp_seq (ih x σ e1 σ1 st A h1 hA p w a hI hd _ fun st1 a1 w1 p1 ha1 hI1 hev1 hd1 => exit_then (fun he => ?_) (fun hne => ?_))
      · subst he
        simp only at h2
        have ha1' : A.norm = some st1 := ha1
        rw [ha1'] at ht
        simp only [Option.bind_eq_some_iff] at ht
        obtain ⟨B, hB, hj⟩ := ht
        refine ih y σ1 e σ' st1 B h2 hB p1 w1 a1 hI1 hd1 Q fun st2 a2 w2 p2 ha2 hI2 hev2 hd2 => ?_
        obtain ⟨st', h3, h4⟩ := (joinOut_ok hj e).2 st2 ha2
        refine hQ st' a2 w2 p2 h3 ?_ (ett hev1 hev2) hd2
        rcases h4 with rfl | h4
        · exact hI2
        · exact h4 _ _ _ _ _ hI2 rfl
      · have he : e1 = e ∧ σ1 = σ' := by
          cases e1 with
          | norm => exact absurd rfl hne
          | exit i => simp at h2; exact h2
          | ret => simp at h2; exact h2
        obtain ⟨rfl, rfl⟩ := he
        cases hAn : A.norm with
        | none =>
          rw [hAn] at ht
          cases ht
          exact hQ st1 a1 w1 p1 ha1 hI1 hev1 hd1
        | some s1 =>
          rw [hAn] at ht
          simp only [Option.bind_eq_some_iff] at ht
          obtain ⟨B, hB, hj⟩ := ht
          have ha1' : Out.at { norm := none, exits := A.exits, ret := A.ret } e1 = some st1 := by
            cases e1 with
            | norm => exact absurd rfl hne
            | exit i => exact ha1
            | ret => exact ha1
          obtain ⟨st', h3, h4⟩ := (joinOut_ok hj e1).1 st1 ha1'
          refine hQ st' a1 w1 p1 h3 ?_ hev1 hd1
          rcases h4 with rfl | h4
          · exact hI1
          · exact h4 _ _ _ _ _ hI1 rfl
    | cond x y z =>
      simp only [vcode, Option.bind_eq_some_iff] at hv
      obtain ⟨t, ht', hv⟩ := hv
      simp only [tcode, Option.bind_eq_some_iff] at ht
      obtain ⟨A, hA, B, hB, hj⟩ := ht
      have hc : a.eval x = .bool t := boolO_rep (p := p) (w := w) ht' (fun t _ => hI.slots t)
      refine wp_cond hc ?_
      cases t with
      | true =>
        simp only [if_true] at hv ⊢
        refine ih y σ e σ' st A hv hA p w a hI hd Q fun st2 a2 w2 p2 ha2 hI2 hev2 hd2 => ?_
        obtain ⟨st', h3, h4⟩ := (joinOut_ok hj e).1 st2 ha2
        refine hQ st' a2 w2 p2 h3 ?_ hev2 hd2
        rcases h4 with rfl | h4
        · exact hI2
        · exact h4 _ _ _ _ _ hI2 rfl
      | false =>
        simp only [Bool.false_eq_true, if_false] at hv ⊢
        refine ih z σ e σ' st B hv hB p w a hI hd Q fun st2 a2 w2 p2 ha2 hI2 hev2 hd2 => ?_
        obtain ⟨st', h3, h4⟩ := (joinOut_ok hj e).2 st2 ha2
        refine hQ st' a2 w2 p2 h3 ?_ hev2 hd2
        rcases h4 with rfl | h4
        · exact hI2
        · exact h4 _ _ _ _ _ hI2 rfl
    | block id b =>
      simp only [vcode, Option.map_eq_some_iff] at hv
      obtain ⟨⟨e1, σ1⟩, h1, h2⟩ := hv
      simp only [tcode, Option.bind_eq_some_iff, Option.map_eq_some_iff] at ht
      obtain ⟨B, hB, n', hn, rfl⟩ := ht
      refine wp_block (ih b σ e1 σ1 st B h1 hB p w a hI hd _ fun st1 a1 w1 p1 ha1 hI1 hev1 hd1 => ?_)
      have fin : ∀ st1', (∃ st', n' = some st' ∧ (st1' = st' ∨ Le st1' st')) → e = .norm → σ1 = σ' → st1' = st1 → Q .normal a1 w1 := by
        rintro st1' ⟨st', h3, h4⟩ rfl rfl rfl
        refine hQ st' a1 w1 p1 h3 ?_ hev1 hd1
        rcases h4 with rfl | h4
        · exact hI1
        · exact h4 _ _ _ _ _ hI1 rfl
      cases e1 with
      | norm =>
        simp only [Prod.mk.injEq] at h2
        exact fin st1 ((joinO_ok hn).1 st1 ha1) h2.1.symm h2.2 rfl
      | exit i =>
        simp only at h2
        by_cases hi : i = id
        · subst hi
          simp only [if_true, Prod.mk.injEq] at h2
          simp only [exitOf, Exit.inBlock, if_true]
          exact fin st1 ((joinO_ok hn).2 st1 ha1) h2.1.symm h2.2 rfl
        · simp only [if_neg hi, Prod.mk.injEq] at h2
          obtain ⟨rfl, rfl⟩ := h2
          simp only [exitOf, Exit.inBlock, if_neg hi]
          refine hQ st1 a1 w1 p1 ?_ hI1 hev1 hd1
          have ha1 : B.exits.lookup i = some st1 := ha1
          show (B.exits.filter fun e => !(e.1 == id)).lookup i = some st1
          rw [← ha1]
          clear ha1 hn hB h1
          generalize B.exits = l
          induction l with
          | nil => rfl
          | cons y l ihl =>
            obtain ⟨k, v⟩ := y
            by_cases hk : k = id
            · subst hk
              rw [List.filter_cons_of_neg (by simp), ihl]
              simp [List.lookup, show (i == k) = false by simpa using hi]
            · rw [List.filter_cons_of_pos (by simpa using hk)]
              simp only [List.lookup]
              rw [ihl]
      | ret =>
        simp only [Prod.mk.injEq] at h2
        obtain ⟨rfl, rfl⟩ := h2
        exact hQ st1 a1 w1 p1 ha1 hI1 hev1 hd1
    | loop b =>
      simp only [tcode, Option.bind_eq_some_iff] at ht
      obtain ⟨⟨J, O'⟩, htl, ht⟩ := ht
      simp only at ht
      split at ht
      case isFalse => cases ht
      rename_i hwk
      cases ht
      -- the invariant that was found
      have hJ : ∀ (k : Nat) (J0 : Stt), tloop (tcode D L S b) k J0 = some (J, O) → ∃ O1, tcode D L S b J = some O1 ∧ (∀ s1, O1.norm = some s1 → Le s1 J) ∧ (∀ e, e ≠ .norm → O.at e = O1.at e) := by
        intro k
        induction k with
        | zero => intro J0 h; cases h
        | succ k ihk =>
          intro J0 h
          simp only [tloop, Option.bind_eq_some_iff] at h
          obtain ⟨O1, hO1, h⟩ := h
          split at h
          · rename_i hnone
            cases h
            exact ⟨_, hO1, (fun s1 h => by rw [hnone] at h; cases h), fun e _ => rfl⟩
          · rename_i s1 hs1
            split at h
            · rename_i hw
              cases h
              refine ⟨O1, hO1, fun s h => ?_, fun e he => ?_⟩
              · rw [hs1] at h
                cases h
                exact wk_le hw
              · cases e with
                | norm => exact absurd rfl he
                | exit i => rfl
                | ret => rfl
            · exact ihk _ h
      obtain ⟨O1, hO1, hnorm, hat⟩ := hJ _ _ htl
      let Pm : Act → World → Nat → Prop := fun a1 w1 m => ∃ σ1 p1, m ≤ n + 1 ∧ vcode L call m (.loop b) σ1 = some (e, σ') ∧ Inv J p1 w1 a1.tmps { σ := σ1, pe := [] } Own ∧ Evo Own p w p1 w1 ∧ a1.defers = []
      have h0 : Pm a w (n + 1) := ⟨σ, p, Nat.le_refl _, hv, wk_le hwk _ _ _ _ _ hI rfl, .refl _ _ _, hd⟩
      refine wp_loop (fun a1 w1 => ∃ m, Pm a1 w1 m) (fun a1 w1 => least (Pm a1 w1)) ⟨n + 1, h0⟩ ?_
      intro a1 w1 hex
      obtain ⟨σ1, p1, hle, hv1, hI1, hev1, hd1⟩ := (least_spec hex).1
      generalize hm : least (Pm a1 w1) = m at hle hv1 ⊢
      cases m with
      | zero => simp [vcode] at hv1
      | succ m =>
        simp only [vcode, Option.bind_eq_some_iff] at hv1
        obtain ⟨⟨e2, σ2⟩, hb, hr⟩ := hv1
        have hb' : vcode L call n b σ1 = some (e2, σ2) := vcode_le (fun _ _ _ h => h) (by omega) hb
        refine ih b σ1 e2 σ2 J O1 hb' hO1 p1 w1 a1 hI1 hd1 _ fun st2 a2 w2 p2 ha2 hI2 hev2 hd2 => exit_then (fun he => ?_) (fun hne => ?_)
        · subst he
          simp only at hr
          have hP : Pm a2 w2 m := ⟨σ2, p2, by omega, hr, hnorm st2 ha2 _ _ _ _ _ hI2 rfl, ett hev1 hev2, hd2⟩
          exact ⟨⟨m, hP⟩, Nat.lt_succ_of_le ((least_spec ⟨m, hP⟩).2 m hP)⟩
        · have he : e2 = e ∧ σ2 = σ' := by
            cases e2 with
            | norm => exact absurd rfl hne
            | exit i => simp at hr; exact hr
            | ret => simp at hr; exact hr
          obtain ⟨rfl, rfl⟩ := he
          exact hQ st2 a2 w2 p2 (by rw [hat _ hne]; exact ha2) hI2 (ett hev1 hev2) hd2
    | exit id =>
      simp only [vcode, Option.some.injEq, Prod.mk.injEq] at hv
      obtain ⟨rfl, rfl⟩ := hv
      cases ht
      exact wp_exit (hQ st a w p (by simp [Out.at, List.lookup]) hI (.refl _ _ _) hd)
    | ret =>
      simp only [vcode, Option.some.injEq, Prod.mk.injEq] at hv
      obtain ⟨rfl, rfl⟩ := hv
      cases ht
      exact wp_ret (hQ st a w p rfl hI (.refl _ _ _) hd)
    | rangeFunc f ps x y => simp [vcode] at hv
    | scope b => simp [vcode] at hv
    | label l => simp [vcode] at hv
    | goto l => simp [vcode] at hv
    | refuse l => simp [vcode] at hv
end
end Go.Proofs.Ytbodfaghedolbaa

/- Generic texts and models for the proofs of this seat: part 26. -/
import Derived.Test.YtbodfaghedolbaaS25
set_option linter.unusedVariables false
set_option linter.unusedSimpArgs false
namespace Go.Proofs.Ytbodfaghedolbaa
open Go Go.RowKit
def InvC (st : Stt) (p : Stb) (w : World) (m : Array Value) (x : List AV × List AC) (Own : Nat → Prop) (b : Nat) : Prop := Inv st p w m { σ := x.1, pe := [] } Own ∧ m.getD 0 undef = ptrB b ∧ TK p w Own b x.2
abbrev EvoC (Own : Nat → Prop) (b : Nat) (p : Stb) (w : World) (p' : Stb) (w' : World) : Prop := Evo (fun c => Own c ∨ c = b) p w p' w'
theorem EvoC.refl (Own : Nat → Prop) (b : Nat) (p : Stb) (w : World) : EvoC Own b p w p w := Evo.refl _ _ _
theorem EvoC.trans {Own : Nat → Prop} {b : Nat} {p p' p'' : Stb} {w w' w'' : World} (h : EvoC Own b p w p' w') (k : EvoC Own b p' w' p'' w'') : EvoC Own b p w p'' w'' := Evo.trans h k (fun _ _ h => h) (fun _ _ h => h)
section
variable {P : Program} {L : Lay} {S : Sig} {T : Nat → Bool} {call : Orc} {ct : TOrc} {Own : Nat → Prop} {bb : Nat}
theorem Le.c {st st' : Stt} (h : Le st st') {p : Stb} {w : World} {m : Array Value} {x : List AV × List AC} (hI : InvC st p w m x Own bb) : InvC st' p w m x Own bb := ⟨h _ _ _ _ _ hI.1 rfl, hI.2⟩
theorem code_okT (hP : P.follows .mixedOrders = true) (hL : LayOk P L) (hC : CallOk P S call) (hT : CallOkT P S T ct) : ∀ (n : Nat) (c : Code) (σ : List AV × List AC) (e : Xt) (σ' : List AV × List AC) (st : Stt) (O : Out), vcodeT L T call ct n c σ = some (e, σ') → tcode (drawnT T) L S c st = some O →
    ∀ (p : Stb) (w : World) (a : Act), InvC st p w a.tmps σ Own bb → a.defers = [] → ∀ (Q : Exit → Act → World → Prop),
    (∀ st' a' w' p', O.at e = some st' → InvC st' p' w' a'.tmps σ' Own bb → EvoC Own bb p w p' w' → a'.defers = [] → Q (exitOf e) a' w') → c.wp P Q a w := by
  intro n
  induction n with
  | zero => intro c σ e σ' st O hv; simp [vcodeT] at hv
  | succ n ih =>
    intro c σ e σ' st O hv ht p w a hI hd Q hQ
    have ett : ∀ {p p' p'' : Stb} {w w' w'' : World}, EvoC Own bb p w p' w' → EvoC Own bb p' w' p'' w'' → EvoC Own bb p w p'' w'' := fun h k => EvoC.trans h k
    cases c with
    | skip =>
      simp only [vcodeT, Option.some.injEq, Prod.mk.injEq] at hv
      obtain ⟨rfl, rfl⟩ := hv
      cases ht
      exact wp_skip (hQ st a w p rfl hI (EvoC.refl _ _ _ _) hd)
    | region id ops d =>
      simp only [tcode] at ht
      simp only [vcodeT, Option.map_eq_some_iff, Prod.mk.injEq] at hv
      obtain ⟨y, hs, rfl, rfl⟩ := hv
      unfold vregT at hs
      simp only [Option.bind_eq_some_iff] at hs
      obtain ⟨t', hs, h0⟩ := hs
      split at h0
      case isFalse => cases h0
      rename_i hz0
      cases h0
      have hz : 0 ∈ t'.tk := by
        unfold has0 at hz0
        simp only [List.any_eq_true] at hz0
        obtain ⟨z, hz, he⟩ := hz0
        rw [← Nat.eq_of_beq_eq_true he]; exact hz
      obtain ⟨hI1, h00, hTK⟩ := hI
      cases d with
      | true =>
        simp only [if_true] at hs
        simp only [if_true, Option.map_eq_some_iff] at ht
        obtain ⟨st', hst, rfl⟩ := ht
        exact drawnT_ok hP hL hC hT id ops (mask σ.1) σ.2 Q hst hs (mask_arr σ.1) (mask_al σ.1) hI1.masked h00 hTK fun a' w' p' g1 g2 g3 g4 g5 => hQ st' a' w' p' rfl ⟨g1, g2 0 hz, g3⟩ g4 (g5.trans hd)
      | false =>
        simp only [Bool.false_eq_true, if_false] at hs
        simp only [Bool.false_eq_true, if_false, Option.map_eq_some_iff] at ht
        obtain ⟨⟨b', st'⟩, hst, rfl⟩ := ht
        refine wp_region (ops_seqT hL hC hT (List.range ops.size) ops.toList ?_ _ b' st st' p w a ⟨{ σ := σ.1, pe := [] }, [0], σ.2⟩ t' hI1 (ids_max st) (fun x hx => by
          simp only [List.mem_singleton] at hx
          rw [hx]; exact h00) hTK hs hst fun a' w' p' g1 g2 g3 g4 g5 => hQ _ a' w' p' rfl ⟨g1.reset, g2 0 hz, g3⟩ g4 (g5.trans hd))
        apply List.ext_getElem?
        intro i
        simp only [List.getElem?_map, Array.getElem?_toList]
        rcases Nat.lt_or_ge i ops.size with hi | hi
        · rw [List.getElem?_range hi]
          simp [hi]
        · rw [List.getElem?_eq_none (by simpa using hi), Array.getElem?_eq_none hi]
          rfl
    | seq x y =>
      simp only [vcodeT, Option.bind_eq_some_iff] at hv
      obtain ⟨⟨e1, σ1⟩, h1, h2⟩ := hv
      simp only [tcode, Option.bind_eq_some_iff] at ht
      obtain ⟨A, hA, ht⟩ := ht
      refine wp_seq (ih x σ e1 σ1 st A h1 hA p w a hI hd _ fun st1 a1 w1 p1 ha1 hI1 hev1 hd1 => exit_then (fun he => ?_) (fun hne => ?_))
      · subst he
        simp only at h2
        have ha1' : A.norm = some st1 := ha1
        rw [ha1'] at ht
        simp only [Option.bind_eq_some_iff] at ht
        obtain ⟨B, hB, hj⟩ := ht
        refine ih y σ1 e σ' st1 B h2 hB p1 w1 a1 hI1 hd1 Q fun st2 a2 w2 p2 ha2 hI2 hev2 hd2 => ?_
        obtain ⟨st', h3, h4⟩ := (joinOut_ok hj e).2 st2 ha2
        refine hQ st' a2 w2 p2 h3 ?_ (ett hev1 hev2) hd2
        rcases h4 with rfl | h4
        · exact hI2
        · exact Le.c h4 hI2
      · have he : e1 = e ∧ σ1 = σ' := by
          cases e1 with
          | norm => exact absurd rfl hne
          | exit i => simp at h2; exact h2
          | ret => simp at h2; exact h2
        obtain ⟨rfl, rfl⟩ := he
        cases hAn : A.norm with
        | none =>
          rw [hAn] at ht
          cases ht
          exact hQ st1 a1 w1 p1 ha1 hI1 hev1 hd1
        | some s1 =>
          rw [hAn] at ht
          simp only [Option.bind_eq_some_iff] at ht
          obtain ⟨B, hB, hj⟩ := ht
          have ha1' : Out.at { norm := none, exits := A.exits, ret := A.ret } e1 = some st1 := by
            cases e1 with
            | norm => exact absurd rfl hne
            | exit i => exact ha1
            | ret => exact ha1
          obtain ⟨st', h3, h4⟩ := (joinOut_ok hj e1).1 st1 ha1'
          refine hQ st' a1 w1 p1 h3 ?_ hev1 hd1
          rcases h4 with rfl | h4
          · exact hI1
          · exact Le.c h4 hI1
    | cond x y z =>
      simp only [vcodeT, Option.bind_eq_some_iff] at hv
      obtain ⟨t, ht', hv⟩ := hv
      simp only [tcode, Option.bind_eq_some_iff] at ht
      obtain ⟨A, hA, B, hB, hj⟩ := ht
      have hc : a.eval x = .bool t := boolO_rep (p := p) (w := w) ht' (fun t _ => hI.1.slots t)
      refine wp_cond hc ?_
      cases t with
      | true =>
        simp only [if_true] at hv ⊢
        refine ih y σ e σ' st A hv hA p w a hI hd Q fun st2 a2 w2 p2 ha2 hI2 hev2 hd2 => ?_
        obtain ⟨st', h3, h4⟩ := (joinOut_ok hj e).1 st2 ha2
        refine hQ st' a2 w2 p2 h3 ?_ hev2 hd2
        rcases h4 with rfl | h4
        · exact hI2
        · exact Le.c h4 hI2
      | false =>
        simp only [Bool.false_eq_true, if_false] at hv ⊢
        refine ih z σ e σ' st B hv hB p w a hI hd Q fun st2 a2 w2 p2 ha2 hI2 hev2 hd2 => ?_
        obtain ⟨st', h3, h4⟩ := (joinOut_ok hj e).2 st2 ha2
        refine hQ st' a2 w2 p2 h3 ?_ hev2 hd2
        rcases h4 with rfl | h4
        · exact hI2
        · exact Le.c h4 hI2
    | block id b =>
      simp only [vcodeT, Option.map_eq_some_iff] at hv
      obtain ⟨⟨e1, σ1⟩, h1, h2⟩ := hv
      simp only [tcode, Option.bind_eq_some_iff, Option.map_eq_some_iff] at ht
      obtain ⟨B, hB, n', hn, rfl⟩ := ht
      refine wp_block (ih b σ e1 σ1 st B h1 hB p w a hI hd _ fun st1 a1 w1 p1 ha1 hI1 hev1 hd1 => ?_)
      have fin : ∀ st1', (∃ st', n' = some st' ∧ (st1' = st' ∨ Le st1' st')) → e = .norm → σ1 = σ' → st1' = st1 → Q .normal a1 w1 := by
        rintro st1' ⟨st', h3, h4⟩ rfl rfl rfl
        refine hQ st' a1 w1 p1 h3 ?_ hev1 hd1
        rcases h4 with rfl | h4
        · exact hI1
        · exact Le.c h4 hI1
      cases e1 with
      | norm =>
        simp only [Prod.mk.injEq] at h2
        exact fin st1 ((joinO_ok hn).1 st1 ha1) h2.1.symm h2.2 rfl
      | exit i =>
        simp only at h2
        by_cases hi : i = id
        · subst hi
          simp only [if_true, Prod.mk.injEq] at h2
          simp only [exitOf, Exit.inBlock, if_true]
          exact fin st1 ((joinO_ok hn).2 st1 ha1) h2.1.symm h2.2 rfl
        · simp only [if_neg hi, Prod.mk.injEq] at h2
          obtain ⟨rfl, rfl⟩ := h2
          simp only [exitOf, Exit.inBlock, if_neg hi]
          refine hQ st1 a1 w1 p1 ?_ hI1 hev1 hd1
          have ha1 : B.exits.lookup i = some st1 := ha1
          show (B.exits.filter fun e => !(e.1 == id)).lookup i = some st1
          rw [← ha1]
          clear ha1 hn hB h1
          generalize B.exits = l
          induction l with
          | nil => rfl
          | cons y l ihl =>
            obtain ⟨k, v⟩ := y
            by_cases hk : k = id
            · subst hk
              rw [List.filter_cons_of_neg (by simp), ihl]
              simp [List.lookup, show (i == k) = false by simpa using hi]
            · rw [List.filter_cons_of_pos (by simpa using hk)]
              simp only [List.lookup]
              rw [ihl]
      | ret =>
        simp only [Prod.mk.injEq] at h2
        obtain ⟨rfl, rfl⟩ := h2
        exact hQ st1 a1 w1 p1 ha1 hI1 hev1 hd1
    | loop b =>
      simp only [tcode, Option.bind_eq_some_iff] at ht
      obtain ⟨⟨J, O'⟩, htl, ht⟩ := ht
      simp only at ht
      split at ht
      case isFalse => cases ht
      rename_i hwk
      cases ht
      -- the invariant that was found
      have hJ : ∀ (k : Nat) (J0 : Stt), tloop (tcode (drawnT T) L S b) k J0 = some (J, O) → ∃ O1, tcode (drawnT T) L S b J = some O1 ∧ (∀ s1, O1.norm = some s1 → Le s1 J) ∧ (∀ e, e ≠ .norm → O.at e = O1.at e) := by
        intro k
        induction k with
        | zero => intro J0 h; cases h
        | succ k ihk =>
          intro J0 h
          simp only [tloop, Option.bind_eq_some_iff] at h
          obtain ⟨O1, hO1, h⟩ := h
          split at h
          · rename_i hnone
            cases h
            exact ⟨_, hO1, (fun s1 h => by rw [hnone] at h; cases h), fun e _ => rfl⟩
          · rename_i s1 hs1
            split at h
            · rename_i hw
              cases h
              refine ⟨O1, hO1, fun s h => ?_, fun e he => ?_⟩
              · rw [hs1] at h
                cases h
                exact wk_le hw
              · cases e with
                | norm => exact absurd rfl he
                | exit i => rfl
                | ret => rfl
            · exact ihk _ h
      obtain ⟨O1, hO1, hnorm, hat⟩ := hJ _ _ htl
      let Pm : Act → World → Nat → Prop := fun a1 w1 m => ∃ σ1 p1, m ≤ n + 1 ∧ vcodeT L T call ct m (.loop b) σ1 = some (e, σ') ∧ InvC J p1 w1 a1.tmps σ1 Own bb ∧ EvoC Own bb p w p1 w1 ∧ a1.defers = []
      have h0 : Pm a w (n + 1) := ⟨σ, p, Nat.le_refl _, hv, Le.c (wk_le hwk) hI, EvoC.refl _ _ _ _, hd⟩
      refine wp_loop (fun a1 w1 => ∃ m, Pm a1 w1 m) (fun a1 w1 => least (Pm a1 w1)) ⟨n + 1, h0⟩ ?_
      intro a1 w1 hex
      obtain ⟨σ1, p1, hle, hv1, hI1, hev1, hd1⟩ := (least_spec hex).1
      generalize hm : least (Pm a1 w1) = m at hle hv1 ⊢
      cases m with
      | zero => simp [vcodeT] at hv1
      | succ m =>
        simp only [vcodeT, Option.bind_eq_some_iff] at hv1
        obtain ⟨⟨e2, σ2⟩, hb, hr⟩ := hv1
        have hb' : vcodeT L T call ct n b σ1 = some (e2, σ2) := vcodeT_le (fun _ _ _ _ h => h) (by omega) hb
        refine ih b σ1 e2 σ2 J O1 hb' hO1 p1 w1 a1 hI1 hd1 _ fun st2 a2 w2 p2 ha2 hI2 hev2 hd2 => exit_then (fun he => ?_) (fun hne => ?_)
        · subst he
          simp only at hr
          have hP : Pm a2 w2 m := ⟨σ2, p2, by omega, hr, Le.c (hnorm st2 ha2) hI2, ett hev1 hev2, hd2⟩
          exact ⟨⟨m, hP⟩, Nat.lt_succ_of_le ((least_spec ⟨m, hP⟩).2 m hP)⟩
        · have he : e2 = e ∧ σ2 = σ' := by
            cases e2 with
            | norm => exact absurd rfl hne
            | exit i => simp at hr; exact hr
            | ret => simp at hr; exact hr
          obtain ⟨rfl, rfl⟩ := he
          exact hQ st2 a2 w2 p2 (by rw [hat _ hne]; exact ha2) hI2 (ett hev1 hev2) hd2
    | exit id =>
      simp only [vcodeT, Option.some.injEq, Prod.mk.injEq] at hv
      obtain ⟨rfl, rfl⟩ := hv
      cases ht
      exact wp_exit (hQ st a w p (by simp [Out.at, List.lookup]) hI (EvoC.refl _ _ _ _) hd)
    | ret =>
      simp only [vcodeT, Option.some.injEq, Prod.mk.injEq] at hv
      obtain ⟨rfl, rfl⟩ := hv
      cases ht
      exact wp_ret (hQ st a w p rfl hI (EvoC.refl _ _ _ _) hd)
    | rangeFunc f ps x y => simp [vcodeT] at hv
    | scope b => simp [vcodeT] at hv
    | label l => simp [vcodeT] at hv
    | goto l => simp [vcodeT] at hv
    | refuse l => simp [vcodeT] at hv
theorem body_okT (hP : P.follows .mixedOrders = true) (hL : LayOk P L) (hC : CallOk P S call) (hT : CallOkT P S T ct) {f : FuncId} {fn : Func} {sg : Sg} (hf : P.funcs[f]? = some fn) (hok : fnOk (drawnT T) L S fn sg = true) (htk : sg.takes = []) {n : Nat} {q : List AC} {args : List SV} {r : AV × List AC} (hv : tbody L T call ct n fn q args = some r)
    {p : Stb} {w : World} {b : Nat} {vals : List Value} (hreps : RepSs p w vals args) (hz : Zp p w) (hTK : TK p w (fun _ => False) b q) :
    Calls P f (ptrB b :: vals).toArray w fun e w' => ∃ v, e = .returned v ∧ ∃ p', SR p' w' v r.1 ∧ (∀ cs, r.1 ≠ .box cs) ∧ r.1 ≠ .und ∧ Evo (· = b) p w p' w' ∧ Zp p' w' ∧ TK p' w' (fun _ => False) b r.2 ∧
      (∀ e ∈ sg.gives, ∃ u, cellOf w' v e.1 = some u ∧ Rt p' w' u e.2 ∧ ∀ c, blkOf u = some c → w.heap.size ≤ c) ∧
      (∀ (e e' : Nat × Nat) (u u' : Value) (c : Nat), e ∈ sg.gives → e' ∈ sg.gives → e.1 ≠ e'.1 → cellOf w' v e.1 = some u → cellOf w' v e'.1 = some u' → blkOf u = some c → blkOf u' ≠ some c) := by
  unfold fnOk at hok
  simp only [Bool.and_eq_true, decide_eq_true_eq] at hok
  obtain ⟨⟨⟨_, htl⟩, hpn⟩, hok⟩ := hok
  unfold tbody at hv
  cases hb : fn.body with
  | none => rw [hb] at hv; cases hv
  | some c =>
    rw [hb] at hv hok
    simp only at hv hok
    split at hv
    case isFalse => cases hv
    rename_i hnp
    simp only [Option.bind_eq_some_iff] at hv
    split at hok
    case h_2 => cases hok
    rename_i O hO
    simp only [Bool.and_eq_true] at hok
    obtain ⟨⟨e, σ'⟩, hrun, hres⟩ := hv
    have hlen := hreps.length
    let Own : Nat → Prop := fun c => w.heap.size ≤ c
    let m0 : Array Value := (ptrB b :: vals).toArray ++ Array.replicate (fn.ntmps - (ptrB b :: vals).toArray.size) undef
    have hm0 : ∀ t, m0.getD t undef = match (ptrB b :: vals)[t]? with | some v => v | none => undef := by
      intro t
      simp only [m0, Array.getD_eq_getD_getElem?, Array.getElem?_append, List.size_toArray, List.getElem?_toArray]
      rcases Nat.lt_or_ge t (ptrB b :: vals).length with h | h
      · rw [if_pos h, List.getElem?_eq_getElem h]; rfl
      · rw [if_neg (by omega), List.getElem?_eq_none h, Array.getElem?_replicate]
        split <;> rfl
    have hst0 : st0 sg fn.ntmps = { pid := [], alive := [], spe := [], len := fn.ntmps } := by simp [st0, htk]
    have hg0 : ∀ t, VS.get { σ := AV.und :: (args.map .v ++ List.replicate (fn.ntmps - (args.length + 1)) .und), pe := [] } t = match t with | 0 => .und | t + 1 => (match args[t]? with | some x => .v x | none => .und) := fun t => by
      cases t with
      | zero => rfl
      | succ t => exact get0 args _ t
    have hI : Inv (st0 sg fn.ntmps) p w m0 { σ := .und :: (args.map .v ++ List.replicate (fn.ntmps - (args.length + 1)) .und), pe := [] } Own := by
      have hnone : ∀ t, isRow (VS.get { σ := AV.und :: (args.map .v ++ List.replicate (fn.ntmps - (args.length + 1)) .und), pe := [] } t) = false := fun t => by
        rw [hg0]
        split
        · rfl
        · split <;> rfl
      have hnobox : ∀ t cs, VS.get { σ := AV.und :: (args.map .v ++ List.replicate (fn.ntmps - (args.length + 1)) .und), pe := [] } t ≠ .box cs := fun t cs h => by
        rw [hg0] at h
        split at h
        · cases h
        · split at h <;> cases h
      rw [hst0]
      refine ⟨by simp [m0]; omega, by simp; omega, fun t ht => (by cases ht), trivial, fun t => ⟨?_, fun q hq => by cases hq⟩, hz, trivial, ⟨fun _ _ => rfl, fun _ _ _ h => by cases h⟩, fun b hb => hb, fun d cs h => absurd h (hnobox d cs), fun d d' cs cs' b _ h => absurd h (hnobox d cs),
        fun d k r b h => (by have := hnone d; rw [h] at this; cases this), fun t d k r h => (by have := hnone t; rw [h] at this; cases this), ⟨fun t d h => (by have := hnone t; rw [h] at this; cases this), fun d k r h => (by have := hnone d; rw [h] at this; cases this)⟩, fun _ => undef,
        ⟨fun q id h => (by cases h), fun id k h => (by cases h), fun id k b h => (by cases h), fun id k id' k' b h => (by cases h), fun q id k d k' r b h => (by cases h)⟩⟩
      rw [hg0, hm0]
      cases t with
      | zero => intro c h; cases h
      | succ t =>
        simp only [List.getElem?_cons_succ]
        cases ha : args[t]? with
        | none =>
          have : vals[t]? = none := by
            rw [List.getElem?_eq_none_iff] at ha ⊢
            omega
          rw [this]
          intro b hb
          cases hb
        | some x =>
          obtain ⟨v, hv, hr⟩ := hreps.get ha
          rw [hv]
          exact hr
    have h00 : m0.getD 0 undef = ptrB b := by rw [hm0]; rfl
    have hTK0 : TK p w Own b q := hTK.own (fun h => by have := hTK.lt; simp only [Own] at h; omega)
    refine calls_of_wp hf hb (code_okT (Own := Own) (bb := b) hP hL hC hT n c _ e σ' _ O hrun hO p w { tmps := m0, defers := [] } ⟨hI, h00, hTK0⟩ rfl _ fun st' a' w' p' hat hIC hev' hd' => ?_)
    obtain ⟨hI', _, hTK'⟩ := hIC
    have hfin : (∀ i, e ≠ .exit i) → resOk st' fn.results.toList sg.gives = true → a'.defers = [] ∧ ∃ v, (results fn a'.tmps).run P w' = .ok v w' ∧ ∃ v', Ending.returned v = .returned v' ∧ ∃ p', SR p' w' v' r.1 ∧ (∀ cs, r.1 ≠ .box cs) ∧ r.1 ≠ .und ∧ Evo (· = b) p w p' w' ∧ Zp p' w' ∧ TK p' w' (fun _ => False) b r.2 ∧
      (∀ e ∈ sg.gives, ∃ u, cellOf w' v' e.1 = some u ∧ Rt p' w' u e.2 ∧ ∀ c, blkOf u = some c → w.heap.size ≤ c) ∧
      (∀ (e e' : Nat × Nat) (u u' : Value) (c : Nat), e ∈ sg.gives → e' ∈ sg.gives → e.1 ≠ e'.1 → cellOf w' v' e.1 = some u → cellOf w' v' e'.1 = some u' → blkOf u = some c → blkOf u' ≠ some c) := by
      intro hne hro
      have hres' : ∃ vs, resVs L σ'.1 fn.results.toList = some vs ∧ r = ((match vs with | [v] => .v v | vs => .tup vs), σ'.2) := by
        cases e with
        | exit i => exact absurd rfl (hne i)
        | norm =>
          simp only [Option.map_eq_some_iff] at hres
          obtain ⟨vs, h1, h2⟩ := hres
          exact ⟨vs, h1, h2.symm⟩
        | ret =>
          simp only [Option.map_eq_some_iff] at hres
          obtain ⟨vs, h1, h2⟩ := hres
          exact ⟨vs, h1, h2.symm⟩
      obtain ⟨vs, hvs, rfl⟩ := hres'
      obtain ⟨us, hu1, hu2, hu3⟩ := resVs_ok (P := P) hL hI' fn.results.toList vs hvs
      have hul := hu2.length
      have hrl : fn.results.toList.length = us.length := by
        have : ∀ (rs : List ResultVar) (vs : List SV), resVs L σ'.1 rs = some vs → rs.length = vs.length := by
          intro rs
          induction rs with
          | nil => intro vs h; cases h; rfl
          | cons r rs ih =>
            intro vs h
            simp only [resVs, Option.bind_eq_some_iff, Option.map_eq_some_iff] at h
            obtain ⟨_, _, vs', h, rfl⟩ := h
            simp [ih vs' h]
        rw [this _ _ hvs, hul]
      have hrunres : (results fn a'.tmps).run P w' = .ok (resVal us) w' := by
        have hr : results fn a'.tmps = (fn.results.mapM (resG a'.tmps) >>= fun vs => pure (if h : vs.size = 1 then vs[0] else .tuple vs)) := by
          unfold results
          congr 2
        have hmap : (fn.results.mapM (resG a'.tmps)).run P w' = .ok us.toArray w' := by
          rw [Array.mapM_eq_mapM_toList, map_eq_pure_bind]
          simp only [Sem.run_bind, hu1, Result.andThen, Sem.run_pure]
        rw [hr]
        simp only [Sem.run_bind, hmap, Result.andThen, Sem.run_pure]
        congr 1
        match us with
        | [] => rfl
        | [u] => rfl
        | _ :: _ :: _ => simp [resVal]
      -- the cells of the result
      have hcells : ∀ (n : Nat) (q : Nat × Nat) (c : Value), resPlace fn.results.toList n = some q → cellOf w' (a'.tmps.getD q.1 undef) q.2 = some c → cellOf w' (resVal us) n = some c := by
        intro n q c hq hc
        unfold resPlace at hq
        split at hq
        · rename_i r hr
          cases hq
          have h1 : us.length = 1 := by rw [← hrl, hr]; rfl
          match us, h1, hu3 with
          | [u], _, hu3 => exact hu3 0 r u n c (by rw [hr]; rfl) rfl hc
        · rename_i hnone
          simp only [Option.map_eq_some_iff] at hq
          obtain ⟨r, hr, rfl⟩ := hq
          have h1 : ¬ us.length = 1 := by
            intro h1
            rw [← hrl] at h1
            match hl : fn.results.toList, h1 with
            | [r], _ => exact hnone r hl
          have hrv : resVal us = .tuple us.toArray := by
            match us, h1 with
            | [], _ => rfl
            | [u], h1 => exact absurd rfl h1
            | _ :: _ :: _, _ => rfl
          rw [hrv]
          have hlt : n / 64 < us.length := by rw [← hrl]; exact (List.getElem?_eq_some_iff.1 hr).1
          have hu := hu3 (n / 64) r us[n / 64] (n % 64) c hr (List.getElem?_eq_getElem hlt) hc
          obtain ⟨x, hx⟩ : ∃ x, vs[n / 64]? = some x := ⟨vs[n / 64]'(by omega), List.getElem?_eq_getElem _⟩
          obtain ⟨u', hu', hru⟩ := hu2.get hx
          rw [List.getElem?_eq_getElem hlt] at hu'
          cases hu'
          rw [cellOf_SV hru] at hu
          show (us.toArray[n / 64]?).bind (fun u => u.cells[n % 64]?) = some c
          rw [List.getElem?_toArray, List.getElem?_eq_getElem hlt]
          exact hu
      obtain ⟨val, hR⟩ := hI'.rooms
      unfold resOk at hro
      simp only [Bool.and_eq_true, List.all_eq_true] at hro
      have hid : ∀ e ∈ sg.gives, ∃ id q, (q, id) ∈ st'.pid ∧ idAt st' fn.results.toList e.1 = some id ∧ (id, e.2) ∈ st'.alive ∧ cellOf w' (resVal us) e.1 = some (val id) := by
        intro e he
        have := hro.1 e he
        split at this
        · rename_i id hid
          have hid' := hid
          unfold idAt at hid'
          simp only [Option.bind_eq_some_iff] at hid'
          obtain ⟨q, hq, hl⟩ := hid'
          exact ⟨id, q, mem_of_lookup' hl, hid, mem_of_lookup (by simpa using this), hcells _ q _ hq (hR.place _ _ (mem_of_lookup' hl)).1⟩
        · cases this
      have hrt' : ∀ q id k, (q, id) ∈ st'.pid → (id, k) ∈ st'.alive → Rt (raiseP p' a'.tmps { σ := σ'.1, pe := [] }) w' (val id) k := fun q id k hq hal => by
        rcases hR.alive id k hal with e | ⟨b, off, len, cap, arr, T, e, h1, h2, h3, h4⟩
        · exact .inl e
        · refine .inr ⟨b, off, len, cap, arr, T, e, h1, h2, h3, ?_⟩
          by_cases h : ∃ n, TopOf a'.tmps { σ := σ'.1, pe := [] } b n
          · obtain ⟨n, d, k', rows, hd, hdb, _⟩ := h
            obtain ⟨r1, r2, r3⟩ := hR.row q id k d k' rows b hq hal hd hdb (by rw [e]; rfl)
            have hv : a'.tmps.getD d undef = val id := by
              have h5 := (hR.place q id hq).1
              have h6 : a'.tmps.getD q.1 undef = a'.tmps.getD d undef := by
                rcases r2 with r2 | r2
                · rw [r2]
                · exact hI'.al q.1 d k' rows r2 hd
              have hsr := (hI'.slots d).1
              rw [hd] at hsr
              obtain ⟨ad, cp, hsl⟩ := arr_slice hsr
              rw [h6, r1, hsl] at h5
              rw [hsl]
              simpa [cellOf, Value.cells] using h5
            rw [raise_at hI' hd hdb, hv, e, ← r3]
            exact ⟨Nat.le_refl _, h4.2⟩
          · rw [raise_not h]; exact h4
      have hnt : ¬ ∃ n, TopOf a'.tmps { σ := σ'.1, pe := [] } b n := fun ⟨n, hn⟩ => hTK'.not (top_lt hI' hn).2.1
      refine ⟨hd', _, hrunres, _, rfl, raiseP p' a'.tmps { σ := σ'.1, pe := [] }, ?_, ?_, ?_, (EvoC.trans hev' ((raise_evo hI').weaken (C := fun c => Own c ∨ c = b) (fun c hc ⟨n, hn⟩ => .inl (top_lt hI' hn).2.1))).weaken (fun c hc h => h.resolve_left (fun h => by simp only [Own] at h; omega)), raise_zp hI', (hTK'.evo ((raise_evo hI').weaken (fun c hc ⟨n, hn⟩ => (top_lt hI' hn).2.1))).own (fun h => h), fun e he => ?_, fun e e' u u' c he he' hne' hu hu' hbu => ?_⟩
      · clear hrunres hcells hid hu3 hu1 hrl hvs
        match us, vs, hul, hu2 with
        | [], [], _, _ => exact ⟨_, rfl, trivial⟩
        | [u], [v], _, hu2 => exact hu2.1
        | u :: u' :: us, v :: v' :: vs, _, hu2 => exact ⟨_, rfl, by simpa using hu2⟩
      · intro cs h
        simp only at h
        split at h <;> cases h
      · intro h
        simp only at h
        split at h <;> cases h
      · obtain ⟨id, q, hq, _, hm, hc⟩ := hid e he
        exact ⟨val id, hc, hrt' q id _ hq hm, fun b hb => (hR.own _ _ b hm hb).1⟩
      · obtain ⟨id, q, _, hi, hm, hc⟩ := hid e he
        obtain ⟨id', q', _, hi', hm', hc'⟩ := hid e' he'
        rw [hc] at hu
        cases hu
        rw [hc'] at hu'
        cases hu'
        refine hR.apart id _ id' _ c hm hm' (fun hid => ?_) hbu
        have := hro.2 e he e' he'
        rw [hi, hi', hid] at this
        simp at this
        exact hne' this
    cases e with
    | exit i => cases hres
    | norm =>
      have hat : O.norm = some st' := hat
      exact hfin (fun i h => by cases h) (by have := hok.1; rw [hat] at this; exact this)
    | ret =>
      have hat : O.ret = some st' := hat
      exact hfin (fun i h => by cases h) (by have := hok.2; rw [hat] at this; exact this)
theorem tbody_val {n : Nat} {fn : Func} {q : List AC} {args : List SV} {r : AV × List AC} (h : tbody L T call ct n fn q args = some r) : isVal r.1 = true ∧ fn.body.isSome = true := by
  unfold tbody at h
  split at h
  · cases h
  · rename_i c hc
    split at h
    case isFalse => cases h
    simp only [Option.bind_eq_some_iff] at h
    obtain ⟨⟨e, s⟩, _, h⟩ := h
    split at h
    · cases h
    · simp only [Option.map_eq_some_iff] at h
      obtain ⟨vs, _, rfl⟩ := h
      exact ⟨by simp only; split <;> rfl, by rw [hc]; rfl⟩
structure TabT (P : Program) (L : Lay) (S : Sig) (T : Nat → Bool) (E : TExtT) : Prop where
  takes : ∀ f, T f = true → (S.sg f).takes = []
  ext : ∀ f e, T f = true → E f = some e → ∀ ct, CallOkT P S T ct → CallOkT1 P S f (e.run ct)
  fn : ∀ f, T f = true → E f = none → ∃ fn, P.funcs[f]? = some fn ∧ fnOk (drawnT T) L S fn (S.sg f) = true
theorem tfun_ok {E : TExtT} (hP : P.follows .mixedOrders = true) (hL : LayOk P L) (hC : CallOk P S call) (hA : TabT P L S T E) : ∀ n, CallOkT P S T (tfun P L T call E n)
  | 0 => fun f hf => ⟨hA.takes f hf, fun q args r h => by cases h⟩
  | n + 1 => by
    have ih := tfun_ok hP hL hC hA n
    intro f hf
    refine ⟨hA.takes f hf, ?_⟩
    cases he : E f with
    | some e =>
      have : tfun P L T call E (n + 1) f = e.run (tfun P L T call E n) := by
        funext q args
        simp only [tfun, hf, if_true, he]
      rw [this]
      exact hA.ext f e hf he _ ih
    | none =>
      intro q args r h
      simp only [tfun, hf, if_true, he] at h
      obtain ⟨fn, hfn, hok⟩ := hA.fn f hf he
      rw [hfn] at h
      simp only at h
      obtain ⟨h1, h2⟩ := tbody_val h
      refine ⟨⟨h1, fn, hfn, h2, ?_⟩, fun p w b vals hreps hz hTK => body_okT hP hL hC ih hfn hok (hA.takes f hf) h hreps hz hTK⟩
      unfold fnOk at hok
      simp only [Bool.and_eq_true, Bool.not_eq_true'] at hok
      exact hok.1.1.1
theorem TV_ok {E : TExtT} (hP : P.follows .mixedOrders = true) (hL : LayOk P L) (hC : CallOk P S call) (hA : TabT P L S T E) : CallOkT P S T (TV P L T call E) := fun f hf => ⟨hA.takes f hf, fun q args r h => by
  obtain ⟨n, hn⟩ := TV_iff.1 h
  exact (tfun_ok hP hL hC hA n f hf).2 q args r hn⟩
end
end Go.Proofs.Ytbodfaghedolbaa

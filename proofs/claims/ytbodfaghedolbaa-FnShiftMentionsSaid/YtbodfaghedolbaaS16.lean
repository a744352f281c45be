/- Generic texts and models for the proofs of this seat: part 16. -/
import Derived.Test.YtbodfaghedolbaaS15
set_option linter.unusedVariables false
set_option linter.unusedSimpArgs false
namespace Go.Proofs.Ytbodfaghedolbaa
open Go Go.RowKit
def resG (m : Array Value) : ResultVar → Sem Value
  | .tmp t => pure (m.getD t undef)
  | .cell a t => do loadVar t (← asAddr (m.getD a undef))
def resVal (us : List Value) : Value :=
  match us with
  | [u] => u
  | us => .tuple us.toArray
def slotOf : ResultVar → Nat
  | .tmp t => t
  | .cell t _ => t
def resPlace (rs : List ResultVar) (n : Nat) : Option (Nat × Nat) :=
  match rs with
  | [r] => some (slotOf r, n)
  | rs => (rs[n / 64]?).map fun r => (slotOf r, n % 64)
def idAt (st : Stt) (rs : List ResultVar) (n : Nat) : Option Nat := (resPlace rs n).bind fun q => st.pid.lookup q
def resOk (st : Stt) (rs : List ResultVar) (gives : List (Nat × Nat)) : Bool :=
  gives.all (fun e => match idAt st rs e.1 with | some id => st.alive.lookup id == some e.2 | none => false) &&
  gives.all fun e => gives.all fun e' => e.1 == e'.1 || !(idAt st rs e.1 == idAt st rs e'.1)
def st0 (sg : Sg) (n : Nat) : Stt :=
  { pid := (List.range sg.takes.length).filterMap fun i => ((sg.takes[i]?).bind id).map fun _ => ((i, 0), i),
    alive := (List.range sg.takes.length).filterMap fun i => ((sg.takes[i]?).bind id).map fun k => (i, k), spe := [], len := n }
def optOk (o : Option Stt) (rs : List ResultVar) (gives : List (Nat × Nat)) : Bool := match o with | some st => resOk st rs gives | none => true
def fnOk (D : DrawFn) (L : Lay) (S : Sig) (fn : Func) (sg : Sg) : Bool :=
  !(fn.name == "runtime.NumGoroutine") && decide (sg.takes.length ≤ fn.params.size) && decide (fn.params.size ≤ fn.ntmps) &&
  match fn.body with
  | some c => match tcode D L S c (st0 sg fn.ntmps) with
    | some O => optOk O.norm fn.results.toList sg.gives && optOk O.ret fn.results.toList sg.gives
    | none => false
  | none => false
def Sig.has (S : Sig) (f : Nat) : Bool := (S.lookup f).isSome
section
variable {P : Program} {L : Lay} {S : Sig} {E : ExtT} {call : Orc} {Own : Nat → Prop} {D : DrawFn}
theorem resVs_ok (hL : LayOk P L) {st : Stt} {p : Stb} {w : World} {m : Array Value} {σ : List AV} (hI : Inv st p w m { σ := σ, pe := [] } Own) : ∀ (rs : List ResultVar) (vs : List SV), resVs L σ rs = some vs →
    ∃ us : List Value, (rs.mapM (resG m)).run P w = .ok us w ∧ RepSs (raiseP p m { σ := σ, pe := [] }) w us vs ∧
      ∀ (i : Nat) (r : ResultVar) (u : Value) (j : Nat) (c : Value), rs[i]? = some r → us[i]? = some u → cellOf w (m.getD (slotOf r) undef) j = some c → cellOf w u j = some c
  | [], vs, h => by cases h; exact ⟨[], by simp, trivial, fun i r u j c hr => by simp at hr⟩
  | r :: rs, vs, h => by
    simp only [resVs, Option.bind_eq_some_iff, Option.map_eq_some_iff] at h
    obtain ⟨v, hv, vs', hvs, rfl⟩ := h
    obtain ⟨us, h1, h2, h3⟩ := resVs_ok hL hI rs vs' hvs
    have hone : ∃ u, (resG m r).run P w = .ok u w ∧ RepS (raiseP p m { σ := σ, pe := [] }) w u v ∧ ∀ j c, cellOf w (m.getD (slotOf r) undef) j = some c → cellOf w u j = some c := by
      cases r with
      | tmp t =>
        have hsl := (hI.slots t).1
        simp only [resVal1] at hv
        split at hv
        · rename_i x hx
          cases hv
          have : VS.get { σ := σ, pe := [] } t = .v v := hx
          rw [this] at hsl
          exact ⟨m.getD t undef, by simp [resG], RepS.evo (raise_evo hI) hsl, fun j c h => h⟩
        · simp only [Option.map_eq_some_iff] at hv
          obtain ⟨⟨d, k, rows⟩, ha, rfl⟩ := hv
          refine ⟨m.getD t undef, by simp [resG], ?_, fun j c h => h⟩
          unfold arrAt at ha
          split at ha
          · rename_i hx
            cases ha
            exact arr_lend hI hx
          · rename_i d' hx
            split at ha
            · rename_i hd
              cases ha
              rw [hI.al t d k rows hx hd]
              exact arr_lend hI hd
            · cases ha
          · cases ha
      | cell t ty =>
        have hsl := (hI.slots t).1
        simp only [resVal1] at hv
        split at hv
        · rename_i cs hcs
          simp only [Option.bind_eq_some_iff] at hv
          obtain ⟨i, hi, hv⟩ := hv
          split at hv
          · rename_i hsz
            have : VS.get { σ := σ, pe := [] } t = .box cs := hcs
            rw [this] at hsl
            obtain ⟨b, arr, T, e, hb, hrl⟩ := hsl
            have hmk : mkV i ((cs.drop 0).take i.size) = some v := by rw [List.drop_zero, hsz, List.take_length]; exact hv
            obtain ⟨u, hu, hru, hcells⟩ := run_load_box (P := P) (hL ty i hi) hb hrl (off := 0) (by omega) hmk
            refine ⟨u, ?_, RepS.evo (raise_evo hI) hru, fun j c h => ?_⟩
            · simp only [Instr.loadAt, Instr.sureAddr] at hu
              simp only [resG]
              rw [e]
              simpa [asAddr] using hu
            · simp only [slotOf] at h
              rw [e] at h
              have h : w.cell? ⟨b, j, none⟩ = some c := h
              rw [cell_of_block hb] at h
              rw [cellOf_SV hru]
              have hl := hrl.length
              have : u.cells.toList[j]? = some c := by
                rw [hcells, List.drop_zero, List.take_of_length_le (by omega)]
                simpa using h
              simpa using this
          · cases hv
        · cases hv
    obtain ⟨u, hu, hru, hcell⟩ := hone
    refine ⟨u :: us, ?_, ⟨hru, h2⟩, fun i r' u' j c hr hu' hc => ?_⟩
    · simp only [List.mapM_cons, Sem.run_bind, hu, Result.andThen, h1, Sem.run_pure]
    · match i with
      | 0 => simp at hr hu'; subst hr hu'; exact hcell j c hc
      | i + 1 => exact h3 i r' u' j c (by simpa using hr) (by simpa using hu') hc
theorem st0_mem {sg : Sg} {n : Nat} : (∀ q i, (q, i) ∈ (st0 sg n).pid → q = (i, 0) ∧ ∃ k, sg.takes[i]? = some (some k)) ∧ (∀ i k, (i, k) ∈ (st0 sg n).alive → sg.takes[i]? = some (some k)) := by
  constructor
  · intro q i h
    simp only [st0, List.mem_filterMap, List.mem_range, Option.map_eq_some_iff, Prod.mk.injEq] at h
    obtain ⟨j, hj, k, hk, rfl, rfl⟩ := h
    refine ⟨rfl, k, ?_⟩
    cases ht : sg.takes[j]? with
    | none => rw [ht] at hk; cases hk
    | some x => rw [ht] at hk; simp at hk; rw [hk]
  · intro i k h
    simp only [st0, List.mem_filterMap, List.mem_range, Option.map_eq_some_iff, Prod.mk.injEq] at h
    obtain ⟨j, hj, k', hk, rfl, rfl⟩ := h
    cases ht : sg.takes[j]? with
    | none => rw [ht] at hk; cases hk
    | some x => rw [ht] at hk; simp at hk; rw [hk]
theorem get0 (args : List SV) (n t : Nat) : VS.get { σ := args.map .v ++ List.replicate n .und, pe := [] } t = match args[t]? with | some x => .v x | none => .und := by
  simp only [VS.get, List.getD]
  rcases Nat.lt_or_ge t args.length with h | h
  · rw [List.getElem?_append_left (by simpa using h), List.getElem?_map, List.getElem?_eq_getElem h]
    rfl
  · rw [List.getElem?_append_right (by simpa using h), List.getElem?_eq_none h]
    simp only [List.getElem?_replicate]
    split <;> rfl
theorem filterMap_get {α β : Type} {f : α → Option β} : ∀ {l : List α} {i : Nat} {x : α} {y : β}, l[i]? = some x → f x = some y → ∃ j, (l.filterMap f)[j]? = some y ∧ j ≤ i
  | [], _, _, _, h, _ => by simp at h
  | a :: l, 0, x, y, h, hf => by
    simp at h
    subst h
    exact ⟨0, by rw [List.filterMap_cons, hf]; rfl, Nat.le_refl _⟩
  | a :: l, i + 1, x, y, h, hf => by
    obtain ⟨j, hj, hle⟩ := filterMap_get (l := l) (f := f) (by simpa using h) hf
    rw [List.filterMap_cons]
    split
    · exact ⟨j, hj, by omega⟩
    · exact ⟨j + 1, by simpa using hj, by omega⟩
theorem apart_zip {vals : List Value} {ts : List (Option Nat)} (h : Apart ((vals.zip ts).filterMap fun xk => xk.2.map fun _ => xk.1)) : ∀ (i j ki kj : Nat) (u v : Value) (b : Nat), i < j → ts[i]? = some (some ki) → ts[j]? = some (some kj) → vals[i]? = some u → vals[j]? = some v →
    ¬ (blkOf u = some b ∧ blkOf v = some b) := by
  have key : ∀ (l : List (Value × Option Nat)), Apart (l.filterMap fun xk => xk.2.map fun _ => xk.1) → ∀ (i j ki kj : Nat) (u v : Value) (b : Nat), i < j → l[i]? = some (u, some ki) → l[j]? = some (v, some kj) → ¬ (blkOf u = some b ∧ blkOf v = some b) := by
    intro l
    induction l with
    | nil => intro _ i j ki kj u v b _ hi; simp at hi
    | cons x l ih =>
      intro hA i j ki kj u v b hij hi hj ⟨hb, hb'⟩
      match i, j with
      | 0, j + 1 =>
        simp at hi
        subst hi
        obtain ⟨j', hj', _⟩ := filterMap_get (f := fun xk : Value × Option Nat => xk.2.map fun _ => xk.1) (l := l) (i := j) (x := (v, some kj)) (y := v) (by simpa using hj) rfl
        exact hA 0 (j' + 1) u v b (by omega) (by simp) (by simpa using hj') hb hb'
      | i + 1, j + 1 =>
        refine ih (fun i' j' u' v' b' hne hi' hj' => ?_) i j ki kj u v b (by omega) (by simpa using hi) (by simpa using hj) ⟨hb, hb'⟩
        rw [List.filterMap_cons] at hA
        split at hA
        · exact hA i' j' u' v' b' hne hi' hj'
        · exact hA (i' + 1) (j' + 1) u' v' b' (by omega) (by simpa using hi') (by simpa using hj')
  intro i j ki kj u v b hij hti htj hu hv
  refine key _ h i j ki kj u v b hij ?_ ?_
  · rw [List.getElem?_zip_eq_some]; exact ⟨hu, hti⟩
  · rw [List.getElem?_zip_eq_some]; exact ⟨hv, htj⟩
theorem body_ok (hL : LayOk P L) (hC : CallOk P S call) (hD : DrawnOk P L S call D) {f : FuncId} {fn : Func} {sg : Sg} (hf : P.funcs[f]? = some fn) (hok : fnOk D L S fn sg = true) {n : Nat} {args : List SV} {r : AV} (hv : vbody L call n fn args = some r)
    {p : Stb} {w : World} {vals : List Value} (hreps : RepSs p w vals args) (hz : Zp p w) (hrt : ∀ (i k : Nat), sg.takes[i]? = some (some k) → ∃ v : Value, vals[i]? = some v ∧ Rt p w v k)
    (hap : Apart ((vals.zip sg.takes).filterMap fun xk => xk.2.map fun _ => xk.1)) :
    Calls P f vals.toArray w fun e w' => ∃ v, e = .returned v ∧ ∃ p', SR p' w' v r ∧ (∀ cs, r ≠ .box cs) ∧ r ≠ .und ∧ Evo (fun b => ∃ (i k : Nat) (v : Value), sg.takes[i]? = some (some k) ∧ vals[i]? = some v ∧ blkOf v = some b) p w p' w' ∧ Zp p' w' ∧
      (∀ e ∈ sg.gives, ∃ u, cellOf w' v e.1 = some u ∧ Rt p' w' u e.2 ∧ ∀ b, blkOf u = some b → w.heap.size ≤ b ∨ ∃ (i k : Nat) (v : Value), sg.takes[i]? = some (some k) ∧ vals[i]? = some v ∧ blkOf v = some b) ∧
      (∀ (e e' : Nat × Nat) (u u' : Value) (b : Nat), e ∈ sg.gives → e' ∈ sg.gives → e.1 ≠ e'.1 → cellOf w' v e.1 = some u → cellOf w' v e'.1 = some u' → blkOf u = some b → blkOf u' ≠ some b) := by
  unfold fnOk at hok
  simp only [Bool.and_eq_true, decide_eq_true_eq] at hok
  obtain ⟨⟨⟨_, htl⟩, hpn⟩, hok⟩ := hok
  unfold vbody at hv
  cases hb : fn.body with
  | none => rw [hb] at hv; cases hv
  | some c =>
    rw [hb] at hv hok
    simp only at hv hok
    split at hv
    case isFalse => cases hv
    rename_i hnp
    simp only [Option.bind_eq_some_iff] at hv
    split at hok
    case h_2 => cases hok
    rename_i O hO
    simp only [Bool.and_eq_true] at hok
    obtain ⟨⟨e, σ'⟩, hrun, hres⟩ := hv
    have hlen := hreps.length
    let Own : Nat → Prop := fun b => w.heap.size ≤ b ∨ ∃ (i k : Nat) (v : Value), sg.takes[i]? = some (some k) ∧ vals[i]? = some v ∧ blkOf v = some b
    let m0 : Array Value := vals.toArray ++ Array.replicate (fn.ntmps - vals.toArray.size) undef
    have hm0 : ∀ t, m0.getD t undef = match vals[t]? with | some v => v | none => undef := by
      intro t
      simp only [m0, Array.getD_eq_getD_getElem?, Array.getElem?_append, List.size_toArray, List.getElem?_toArray]
      rcases Nat.lt_or_ge t vals.length with h | h
      · rw [if_pos h, List.getElem?_eq_getElem h]; rfl
      · rw [if_neg (by omega), List.getElem?_eq_none h, Array.getElem?_replicate]
        split <;> rfl
    have hI : Inv (st0 sg fn.ntmps) p w m0 { σ := args.map .v ++ List.replicate (fn.ntmps - args.length) .und, pe := [] } Own := by
      have hnone : ∀ t, isRow (VS.get { σ := args.map .v ++ List.replicate (fn.ntmps - args.length) .und, pe := [] } t) = false := fun t => by
        rw [get0]
        split <;> rfl
      refine ⟨by simp [m0]; omega, by simp [st0]; omega, fun t ht => (by cases ht), trivial, fun t => ⟨?_, fun q hq => by cases hq⟩, hz, trivial, ⟨fun _ _ => rfl, fun _ _ _ h => by cases h⟩, fun b hb => .inl hb, fun d cs h => ?_, fun d d' cs cs' b _ h => ?_, fun d k r b h => (by have := hnone d; rw [h] at this; cases this), fun t d k r h _ => (by have := hnone t; rw [h] at this; cases this), ⟨fun t d h => (by have := hnone t; rw [h] at this; cases this), fun d k r h => (by have := hnone d; rw [h] at this; cases this)⟩, fun i => vals.getD i undef, ?_⟩
      · rw [get0, hm0]
        cases ha : args[t]? with
        | none =>
          have : vals[t]? = none := by
            rw [List.getElem?_eq_none_iff] at ha ⊢
            omega
          rw [this]
          intro b hb
          cases hb
        | some x =>
          obtain ⟨v, hv, hr⟩ := hreps.get ha
          rw [hv]
          exact hr
      · rw [get0] at h
        split at h <;> cases h
      · rw [get0] at h
        split at h <;> cases h
      · have hval : ∀ i k, sg.takes[i]? = some (some k) → ∃ v, vals[i]? = some v ∧ vals.getD i undef = v ∧ Rt p w v k := fun i k h => by
          obtain ⟨v, hv, hr⟩ := hrt i k h
          exact ⟨v, hv, by simp [List.getD, hv], hr⟩
        refine ⟨fun q i hm => ?_, fun i k hm => ?_, fun i k b hm hb => ⟨?_, fun d cs h => ?_⟩, fun i k i' k' b hm hm' hne hb hb' => ?_, fun q i k d k' r b _ _ h => (by have := hnone d; rw [h] at this; cases this)⟩
        · obtain ⟨rfl, k, hk⟩ := st0_mem.1 q i hm
          obtain ⟨v, hv, he, hr⟩ := hval i k hk
          simp only
          rw [hm0, hv, he]
          refine ⟨?_, ?_⟩
          · rcases hr with rfl | ⟨b, off, len, cap, a, T, rfl, _⟩ <;> rfl
          · rw [get0]
            have : i < args.length := by
              rw [← hlen]
              exact (List.getElem?_eq_some_iff.1 hv).1
            rw [List.getElem?_eq_getElem this]
            intro h; cases h
        · obtain ⟨v, hv, he, hr⟩ := hval i k (st0_mem.2 i k hm)
          rw [he]
          exact hr
        · have hk := st0_mem.2 i k hm
          obtain ⟨v, hv, he, hr⟩ := hval i k hk
          rw [he] at hb
          exact .inr ⟨i, k, v, hk, hv, hb⟩
        · rw [get0] at h
          split at h <;> cases h
        · have hk := st0_mem.2 i k hm
          have hk' := st0_mem.2 i' k' hm'
          obtain ⟨v, hv, he, _⟩ := hval i k hk
          obtain ⟨v', hv', he', _⟩ := hval i' k' hk'
          rw [he] at hb
          rw [he'] at hb'
          rcases Nat.lt_or_ge i i' with hlt | hge
          · exact apart_zip hap i i' k k' v v' b hlt hk hk' hv hv' ⟨hb, hb'⟩
          · exact apart_zip hap i' i k' k v' v b (by omega) hk' hk hv' hv ⟨hb', hb⟩
    refine calls_of_wp hf hb (code_ok (Own := Own) hL hC hD n c _ e σ' _ O hrun hO p w { tmps := m0, defers := [] } hI rfl _ fun st' a' w' p' hat hI' hev' hd' => ?_)
    have hfin : (∀ i, e ≠ .exit i) → resOk st' fn.results.toList sg.gives = true → a'.defers = [] ∧ ∃ v, (results fn a'.tmps).run P w' = .ok v w' ∧ ∃ v', Ending.returned v = .returned v' ∧ ∃ p', SR p' w' v' r ∧ (∀ cs, r ≠ .box cs) ∧ r ≠ .und ∧ Evo (fun b => ∃ (i k : Nat) (v : Value), sg.takes[i]? = some (some k) ∧ vals[i]? = some v ∧ blkOf v = some b) p w p' w' ∧ Zp p' w' ∧
      (∀ e ∈ sg.gives, ∃ u, cellOf w' v' e.1 = some u ∧ Rt p' w' u e.2 ∧ ∀ b, blkOf u = some b → w.heap.size ≤ b ∨ ∃ (i k : Nat) (v : Value), sg.takes[i]? = some (some k) ∧ vals[i]? = some v ∧ blkOf v = some b) ∧
      (∀ (e e' : Nat × Nat) (u u' : Value) (b : Nat), e ∈ sg.gives → e' ∈ sg.gives → e.1 ≠ e'.1 → cellOf w' v' e.1 = some u → cellOf w' v' e'.1 = some u' → blkOf u = some b → blkOf u' ≠ some b) := by
      intro hne hro
      have hres' : ∃ vs, resVs L σ' fn.results.toList = some vs ∧ r = (match vs with | [v] => .v v | vs => .tup vs) := by
        cases e with
        | exit i => exact absurd rfl (hne i)
        | norm =>
          simp only [Option.map_eq_some_iff] at hres
          obtain ⟨vs, h1, h2⟩ := hres
          exact ⟨vs, h1, h2.symm⟩
        | ret =>
          simp only [Option.map_eq_some_iff] at hres
          obtain ⟨vs, h1, h2⟩ := hres
          exact ⟨vs, h1, h2.symm⟩
      obtain ⟨vs, hvs, rfl⟩ := hres'
      obtain ⟨us, hu1, hu2, hu3⟩ := resVs_ok (P := P) hL hI' fn.results.toList vs hvs
      have hul := hu2.length
      have hrl : fn.results.toList.length = us.length := by
        have : ∀ (rs : List ResultVar) (vs : List SV), resVs L σ' rs = some vs → rs.length = vs.length := by
          intro rs
          induction rs with
          | nil => intro vs h; cases h; rfl
          | cons r rs ih =>
            intro vs h
            simp only [resVs, Option.bind_eq_some_iff, Option.map_eq_some_iff] at h
            obtain ⟨_, _, vs', h, rfl⟩ := h
            simp [ih vs' h]
        rw [this _ _ hvs, hul]
      have hrunres : (results fn a'.tmps).run P w' = .ok (resVal us) w' := by
        have hr : results fn a'.tmps = (fn.results.mapM (resG a'.tmps) >>= fun vs => pure (if h : vs.size = 1 then vs[0] else .tuple vs)) := by
          unfold results
          congr 2
        have hmap : (fn.results.mapM (resG a'.tmps)).run P w' = .ok us.toArray w' := by
          rw [Array.mapM_eq_mapM_toList, map_eq_pure_bind]
          simp only [Sem.run_bind, hu1, Result.andThen, Sem.run_pure]
        rw [hr]
        simp only [Sem.run_bind, hmap, Result.andThen, Sem.run_pure]
        congr 1
        match us with
        | [] => rfl
        | [u] => rfl
        | _ :: _ :: _ => simp [resVal]
      -- the cells of the result
      have hcells : ∀ (n : Nat) (q : Nat × Nat) (c : Value), resPlace fn.results.toList n = some q → cellOf w' (a'.tmps.getD q.1 undef) q.2 = some c → cellOf w' (resVal us) n = some c := by
        intro n q c hq hc
        unfold resPlace at hq
        split at hq
        · rename_i r hr
          cases hq
          have h1 : us.length = 1 := by rw [← hrl, hr]; rfl
          match us, h1, hu3 with
          | [u], _, hu3 => exact hu3 0 r u n c (by rw [hr]; rfl) rfl hc
        · rename_i hnone
          simp only [Option.map_eq_some_iff] at hq
          obtain ⟨r, hr, rfl⟩ := hq
          have h1 : ¬ us.length = 1 := by
            intro h1
            rw [← hrl] at h1
            match hl : fn.results.toList, h1 with
            | [r], _ => exact hnone r hl
          have hrv : resVal us = .tuple us.toArray := by
            match us, h1 with
            | [], _ => rfl
            | [u], h1 => exact absurd rfl h1
            | _ :: _ :: _, _ => rfl
          rw [hrv]
          have hlt : n / 64 < us.length := by rw [← hrl]; exact (List.getElem?_eq_some_iff.1 hr).1
          have hu := hu3 (n / 64) r us[n / 64] (n % 64) c hr (List.getElem?_eq_getElem hlt) hc
          obtain ⟨x, hx⟩ : ∃ x, vs[n / 64]? = some x := ⟨vs[n / 64]'(by omega), List.getElem?_eq_getElem _⟩
          obtain ⟨u', hu', hru⟩ := hu2.get hx
          rw [List.getElem?_eq_getElem hlt] at hu'
          cases hu'
          rw [cellOf_SV hru] at hu
          show (us.toArray[n / 64]?).bind (fun u => u.cells[n % 64]?) = some c
          rw [List.getElem?_toArray, List.getElem?_eq_getElem hlt]
          exact hu
      obtain ⟨val, hR⟩ := hI'.rooms
      unfold resOk at hro
      simp only [Bool.and_eq_true, List.all_eq_true] at hro
      have hid : ∀ e ∈ sg.gives, ∃ id q, (q, id) ∈ st'.pid ∧ idAt st' fn.results.toList e.1 = some id ∧ (id, e.2) ∈ st'.alive ∧ cellOf w' (resVal us) e.1 = some (val id) := by
        intro e he
        have := hro.1 e he
        split at this
        · rename_i id hid
          have hid' := hid
          unfold idAt at hid'
          simp only [Option.bind_eq_some_iff] at hid'
          obtain ⟨q, hq, hl⟩ := hid'
          exact ⟨id, q, mem_of_lookup' hl, hid, mem_of_lookup (by simpa using this), hcells _ q _ hq (hR.place _ _ (mem_of_lookup' hl)).1⟩
        · cases this
      have hrt' : ∀ q id k, (q, id) ∈ st'.pid → (id, k) ∈ st'.alive → Rt (raiseP p' a'.tmps { σ := σ', pe := [] }) w' (val id) k := fun q id k hq hal => by
        rcases hR.alive id k hal with e | ⟨b, off, len, cap, arr, T, e, h1, h2, h3, h4⟩
        · exact .inl e
        · refine .inr ⟨b, off, len, cap, arr, T, e, h1, h2, h3, ?_⟩
          by_cases h : ∃ n, TopOf a'.tmps { σ := σ', pe := [] } b n
          · obtain ⟨n, d, k', rows, hd, hdb, _⟩ := h
            obtain ⟨r1, r2, r3⟩ := hR.row q id k d k' rows b hq hal hd hdb (by rw [e]; rfl)
            have hv : a'.tmps.getD d undef = val id := by
              have h5 := (hR.place q id hq).1
              have h6 : a'.tmps.getD q.1 undef = a'.tmps.getD d undef := by
                rcases r2 with r2 | r2
                · rw [r2]
                · exact hI'.al q.1 d k' rows r2 hd
              have hsr := (hI'.slots d).1
              rw [hd] at hsr
              obtain ⟨ad, cp, hsl⟩ := arr_slice hsr
              rw [h6, r1, hsl] at h5
              rw [hsl]
              simpa [cellOf, Value.cells] using h5
            rw [raise_at hI' hd hdb, hv, e, ← r3]
            exact ⟨Nat.le_refl _, h4.2⟩
          · rw [raise_not h]; exact h4
      refine ⟨hd', _, hrunres, _, rfl, raiseP p' a'.tmps { σ := σ', pe := [] }, ?_, ?_, ?_, (hev'.trans (raise_evo hI') (C := Own) (fun _ _ h => h) (fun b hb ⟨n, hn⟩ => (top_lt hI' hn).2.1)).weaken (fun b hb h => h.resolve_left (by omega)), raise_zp hI', fun e he => ?_, fun e e' u u' b he he' hne' hu hu' hbu => ?_⟩
      · clear hrunres hcells hid hu3 hu1 hrl hvs
        match us, vs, hul, hu2 with
        | [], [], _, _ => exact ⟨_, rfl, trivial⟩
        | [u], [v], _, hu2 => exact hu2.1
        | u :: u' :: us, v :: v' :: vs, _, hu2 => exact ⟨_, rfl, by simpa using hu2⟩
      · intro cs h
        split at h <;> cases h
      · intro h
        split at h <;> cases h
      · obtain ⟨id, q, hq, _, hm, hc⟩ := hid e he
        exact ⟨val id, hc, hrt' q id _ hq hm, fun b hb => (hR.own _ _ b hm hb).1⟩
      · obtain ⟨id, q, _, hi, hm, hc⟩ := hid e he
        obtain ⟨id', q', _, hi', hm', hc'⟩ := hid e' he'
        rw [hc] at hu
        cases hu
        rw [hc'] at hu'
        cases hu'
        refine hR.apart id _ id' _ b hm hm' (fun hid => ?_) hbu
        have := hro.2 e he e' he'
        rw [hi, hi', hid] at this
        simp at this
        exact hne' this
    cases e with
    | exit i => cases hres
    | norm =>
      have hat : O.norm = some st' := hat
      exact hfin (fun i h => by cases h) (by have := hok.1; rw [hat] at this; exact this)
    | ret =>
      have hat : O.ret = some st' := hat
      exact hfin (fun i h => by cases h) (by have := hok.2; rw [hat] at this; exact this)
theorem vbody_val {n : Nat} {fn : Func} {args : List SV} {r : AV} (h : vbody L call n fn args = some r) : isVal r = true := by
  unfold vbody at h
  split at h
  · cases h
  · split at h
    case isFalse => cases h
    simp only [Option.bind_eq_some_iff] at h
    obtain ⟨⟨e, s⟩, _, h⟩ := h
    split at h
    · cases h
    · simp only [Option.map_eq_some_iff] at h
      obtain ⟨vs, _, rfl⟩ := h
      split <;> rfl
theorem vfun_ok (hL : LayOk P L) (hE : ∀ f e, S.has f = false → E.lookup f = some e → ∀ call, CallOk P S call → CallOk1 P S f (extRun call e)) (hall : ∀ f, S.has f = true → ∃ fn, P.funcs[f]? = some fn ∧ fnOk D L S fn (S.sg f) = true) (hD : ∀ call, CallOk P S call → DrawnOk P L S call D) : ∀ n, CallOk P S (vfun P L S.has E n)
  | 0 => fun f args r h => by cases h
  | n + 1 => by
    have ih := vfun_ok hL hE hall hD n
    intro f args r h
    simp only [vfun] at h
    split at h
    case isFalse hF =>
      split at h
      · rename_i e he
        exact hE f e (by simpa using hF) he _ ih args r h
      · cases h
    rename_i hF
    obtain ⟨fn, hf, hok⟩ := hall f hF
    rw [hf] at h
    simp only at h
    refine ⟨⟨vbody_val h, fn, hf, ?_, ?_⟩, fun p w vals hreps hz hrt hap => body_ok hL ih (hD _ ih) hf hok h hreps hz hrt hap⟩
    · unfold vbody at h
      split at h
      · cases h
      · rename_i c hc; rw [hc]; rfl
    · unfold fnOk at hok
      simp only [Bool.and_eq_true, Bool.not_eq_true'] at hok
      exact hok.1.1.1
theorem V_ok (hL : LayOk P L) (hE : ∀ f e, S.has f = false → E.lookup f = some e → ∀ call, CallOk P S call → CallOk1 P S f (extRun call e)) (hall : ∀ f, S.has f = true → ∃ fn, P.funcs[f]? = some fn ∧ fnOk D L S fn (S.sg f) = true) (hD : ∀ call, CallOk P S call → DrawnOk P L S call D) : CallOk P S (V P L S.has E) := fun f args r h => by
  obtain ⟨n, hn⟩ := V_iff.1 h
  exact vfun_ok hL hE hall hD n f args r hn
theorem V_calls (hL : LayOk P L) (hE : ∀ f e, S.has f = false → E.lookup f = some e → ∀ call, CallOk P S call → CallOk1 P S f (extRun call e)) (hall : ∀ f, S.has f = true → ∃ fn, P.funcs[f]? = some fn ∧ fnOk D L S fn (S.sg f) = true) (hD : ∀ call, CallOk P S call → DrawnOk P L S call D) {f : FuncId} {args : List SV} {r : AV} (h : V P L S.has E f args = some r) (ht : (S.sg f).takes = [])
    {p : Stb} {w : World} {vals : List Value} (hreps : RepSs p w vals args) (hz : Zp p w) :
    Calls P f vals.toArray w fun e w' => ∃ v, e = .returned v ∧ Below w.heap.size w w' ∧ ∃ p', SR p' w' v r ∧ Evo (fun _ => False) p w p' w' ∧ Zp p' w' ∧
      (∀ e ∈ (S.sg f).gives, ∃ u, cellOf w' v e.1 = some u ∧ Rt p' w' u e.2 ∧ ∀ b, blkOf u = some b → w.heap.size ≤ b) := by
  obtain ⟨_, hc⟩ := V_ok hL hE hall hD f args r h
  refine (hc p w vals hreps hz (fun i k hk => by rw [ht] at hk; simp at hk) (fun i j u v b _ hi => by rw [ht] at hi; simp at hi)).mono ?_
  rintro e w' ⟨v, rfl, p', hsr, _, _, hev, hz', hg, _⟩
  have hno : ∀ b, ¬ ∃ (i k : Nat) (v : Value), (S.sg f).takes[i]? = some (some k) ∧ vals[i]? = some v ∧ blkOf v = some b := by
    rintro b ⟨i, k, v, hk, _⟩
    rw [ht] at hk
    simp at hk
  refine ⟨v, rfl, ⟨hev.os, hev.tape, hev.output, hev.size, fun k hk => hev.block k hk (hno k)⟩, p', hsr, hev.weaken (fun b _ hb => hno b hb), hz', fun e he => ?_⟩
  obtain ⟨u, h1, h2, h3⟩ := hg e he
  exact ⟨u, h1, h2, fun b hb => (h3 b hb).resolve_right (hno b)⟩
end
end Go.Proofs.Ytbodfaghedolbaa

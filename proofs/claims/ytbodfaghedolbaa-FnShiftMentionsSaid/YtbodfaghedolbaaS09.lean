/- Generic texts and models for the proofs of this seat: part 9. -/
import Derived.Test.YtbodfaghedolbaaS08
set_option linter.unusedVariables false
set_option linter.unusedSimpArgs false
namespace Go.Proofs.Ytbodfaghedolbaa
open Go Go.RowKit
section
variable {P : Program} {L : Lay} {S : Sig} {call : Orc} {p : Stb} {w : World} {a : Act} {s s' : VS} {q : SPe} {o : Oper}
theorem zl_nils : ∀ {vs : List Value} {cs : List AC} (m : Nat), ZL vs cs = true → ∀ e ∈ nilsOf m cs, m ≤ e.1 ∧ vs[e.1 - m]? = some (.slice none 0 0)
  | [], [], m, _, e, he => by cases he
  | v :: vs, c :: cs, m, h, e, he => by
    simp only [ZL, Bool.and_eq_true] at h
    have ih := zl_nils (m + 1) h.2 e
    have step : e ∈ nilsOf (m + 1) cs → m ≤ e.1 ∧ (v :: vs)[e.1 - m]? = some (.slice none 0 0) := fun he => by
      obtain ⟨h1, h2⟩ := ih he
      exact ⟨by omega, by rw [show e.1 - m = (e.1 - (m + 1)) + 1 by omega]; simpa using h2⟩
    unfold nilsOf at he
    split at he
    · cases he
    · rename_i heq
      cases heq
      rcases List.mem_cons.1 he with rfl | he
      · refine ⟨Nat.le_refl _, ?_⟩
        have h1 := h.1
        unfold ZV at h1
        split at h1
        · rename_i heq; cases heq
        · rename_i heq; cases heq
        · simp at h1; simp [h1]
        · cases h1
      · exact step he
    · rename_i heq
      cases heq
      exact step he
theorem op_box {t : Nat} {x : Operand} (hop : o.op = .box t x) (hs : ((L.ti t).bind fun i => (svOf L s t x).bind fun v => if v.cells.length = i.size then some (s.put o.dst (.box v.cells)) else none) = some s')
    (h1 : Sees p w a.tmps s x) (hsz : a.tmps.size = s.σ.length) (hz : Zp p w) : OpGoal P L S q o a p w s' := by
  simp only [Option.bind_eq_some_iff] at hs
  obtain ⟨i, hi, v, hv, hs⟩ := hs
  split at hs
  · cases hs
    have hr := svOf_rep hv h1
    have hev : Evo (fun _ => False) p w (upP p w.heap.size 0) (w.alloc (.cells (a.eval x).cells t)) := evo_alloc _ _ _
    have hb : (w.alloc (.cells (a.eval x).cells t)).heap[w.heap.size]? = some (.cells (a.eval x).cells t (0, 0)) := alloc_block _
    have hf : fresh L S o = [] := by simp [fresh, hop]
    refine does_value (v := .pointer (some ⟨w.heap.size, 0, none⟩)) (w' := w.alloc (.cells (a.eval x).cells t)) (by simp [execOp, hop, run_box]) ⟨upP p w.heap.size 0, hev.weaken (fun _ _ h => h.elim), zp_alloc hz _ _,
      slot_value hsz (x := .box v.cells) ⟨w.heap.size, _, t, rfl, hb, hr.cells.evo hev⟩, (fun _ _ _ _ => ⟨rfl, by simp [upP], by rw [hf]; simp⟩), kind_put (by intro h; cases h), by rw [hf]; simp, by rw [hf]; simp, ?_⟩
    intro e he u hu
    cases x with
    | tmp y =>
      simp only [moved, hop, hi, List.mem_map, List.mem_range] at he
      obtain ⟨n, hn, rfl⟩ := he
      simp only at hu ⊢
      have hu : cellOf w (a.eval (.tmp y)) n = some u := hu
      rw [cellOf_SV hr] at hu
      show (w.alloc (.cells (a.eval (.tmp y)).cells t)).cell? ⟨w.heap.size, n, none⟩ = some u
      rw [cell_of_block hb]
      exact hu
    | const c => simp [moved, hop] at he
    | global g => simp [moved, hop] at he
    | func f => simp [moved, hop] at he
  · cases hs
theorem op_alloc (hL : LayOk P L) {t : Nat} (hop : o.op = .alloc t) (hs : ((L.ti t).map fun i => s.put o.dst (.box i.zero)) = some s') (hsz : a.tmps.size = s.σ.length) (hz : Zp p w) : OpGoal P L S q o a p w s' := by
  simp only [Option.map_eq_some_iff] at hs
  obtain ⟨i, hi, rfl⟩ := hs
  obtain ⟨arr, hrun, hzl⟩ := run_alloc_zero (P := P) (w := w) (hL t i hi)
  have hev : Evo (fun _ => False) p w (upP p w.heap.size 0) (w.alloc (.cells arr t)) := evo_alloc _ _ _
  have hb : (w.alloc (.cells arr t)).heap[w.heap.size]? = some (.cells arr t (0, 0)) := alloc_block _
  have hf : fresh L S o = nilsOf 0 i.zero := by simp [fresh, hop, hi]
  have hc : ∀ e ∈ fresh L S o, cellOf (w.alloc (.cells arr t)) (.pointer (some ⟨w.heap.size, 0, none⟩)) e.1 = some (.slice none 0 0) := by
    rw [hf]
    intro e he
    have := (zl_nils 0 hzl e he).2
    show (w.alloc (.cells arr t)).cell? ⟨w.heap.size, e.1, none⟩ = _
    rw [cell_of_block hb]
    simpa using this
  exact does_value (v := .pointer (some ⟨w.heap.size, 0, none⟩)) (w' := w.alloc (.cells arr t)) (by simp [execOp, hop, hrun]) ⟨upP p w.heap.size 0, hev.weaken (fun _ _ h => h.elim), zp_alloc hz _ _,
      slot_value hsz (x := .box i.zero) ⟨w.heap.size, _, t, rfl, hb, ZL.rep hzl _ _⟩, (fun _ _ _ _ => ⟨rfl, by simp [upP], hc⟩), kind_put (by intro h; cases h), fun e he => ⟨_, hc e he, .inl rfl, (fun b h => by cases h)⟩,
      (fun e e' u u' b he he' _ hu _ hb => by rw [hc e he] at hu; cases hu; cases hb), by simp [moved, hop]⟩
theorem built_of (i : TI) : ∀ (ps : List (Nat × Operand)) (cs cs' : List AC) (us : List Value), buildV L s i ps cs = some cs' → (∀ x ∈ ps, Sees p w a.tmps s x.2) → RepL p w us cs →
    ∃ us', Built p w i (ps.map fun x => (x.1, a.eval x.2)) us cs cs' us' ∧
      (∀ n t j, builtFrom i n ps = some (some (t, j)) → us'[n]? = (a.tmps.getD t undef).cells[j]?) ∧ (∀ n, builtFrom i n ps = none → us'[n]? = us[n]?)
  | [], cs, cs', us, h, _, _ => by
    cases h
    exact ⟨us, .nil _ _, fun n t j h => by simp [builtFrom] at h, fun _ _ => rfl⟩
  | (f, x) :: ps, cs, cs', us, h, hsee, hr => by
    unfold buildV at h
    split at h
    · rename_i off sz v hf hv
      split at h
      · rename_i hc
        have hrv := svOf_rep hv (hsee (f, x) List.mem_cons_self)
        obtain ⟨us', h1, h2, h3⟩ := built_of i ps _ cs' _ h (fun y hy => hsee y (List.mem_cons_of_mem _ hy)) (hr.fill off hrv.cells)
        have hvl := hrv.cells.length
        have hul := hr.length
        have hget : ∀ n, (fillG us off (a.eval x).cells.toList)[n]? = if off ≤ n ∧ n < off + sz then (a.eval x).cells[n - off]? else us[n]? := fun n => by
          rw [fillG_get _ _ _ _ (by omega), hvl, hc.1]
          simp
        refine ⟨us', .cons hf hrv hc.1 hc.2 h1, fun n t j hb => ?_, fun n hb => ?_⟩
        · unfold builtFrom at hb
          split at hb
          · rename_i r hr'
            cases hb
            exact h2 n t j hr'
          · rename_i hnone
            rw [hf] at hb
            simp only at hb
            split at hb
            · rename_i hin
              cases x with
              | tmp y =>
                simp only [Option.some.injEq, Prod.mk.injEq] at hb
                obtain ⟨rfl, rfl⟩ := hb
                rw [h3 n hnone, hget, if_pos hin]
                rfl
              | const c => simp at hb
              | global g => simp at hb
              | func g => simp at hb
            · cases hb
        · unfold builtFrom at hb
          split at hb
          · cases hb
          · rename_i hnone
            rw [hf] at hb
            simp only at hb
            split at hb
            · split at hb <;> cases hb
            · rename_i hin
              rw [h3 n hnone, hget, if_neg hin]
      · cases h
    · cases h
theorem op_build (hL : LayOk P L) {t : Nat} {ps : Array (Nat × Operand)} (hop : o.op = .build t ps) (hs : ((L.ti t).bind fun i => if i.kind = 3 then (buildV L s i ps.toList i.zero).map fun cs => s.put o.dst (.v (.agg cs)) else none) = some s')
    (h1 : ∀ x ∈ ps.toList, Sees p w a.tmps s x.2) (hsz : a.tmps.size = s.σ.length) (hz : Zp p w) : OpGoal P L S q o a p w s' := by
  simp only [Option.bind_eq_some_iff] at hs
  obtain ⟨i, hi, hs⟩ := hs
  have hT := hL t i hi
  split at hs
  · rename_i h3
    simp only [Option.map_eq_some_iff] at hs
    obtain ⟨cs, hb, rfl⟩ := hs
    obtain ⟨inf, z, i1, i2, _, i4, i5, i6⟩ := hT.info
    have hzr : RepL p w z.cells.toList i.zero := ZL.rep i5 _ _
    obtain ⟨us', hbu, hfrom, hnone⟩ := built_of (a := a) i ps.toList i.zero cs z.cells.toList hb h1 hzr
    have hrun := run_build (P := P) hT h3 ⟨inf, i1, i4⟩ hbu hzr
    have hrep := hbu.rep hzr
    have hparts : ps.map (fun (i, x) => (i, a.eval x)) = (ps.toList.map fun x => (x.1, a.eval x.2)).toArray := by
      apply Array.ext'
      simp
    have hfr : ∀ e ∈ fresh L S o, cellOf w (.agg us'.toArray) e.1 = some (.slice none 0 0) := fun e he => by
      simp only [fresh, hop, hi, List.mem_filter, Option.isNone_iff_eq_none] at he
      have h2 := (zl_nils 0 i5 e he.1).2
      show us'.toArray[e.1]? = _
      rw [List.getElem?_toArray, hnone _ he.2]
      simpa using h2
    refine does_value (v := .agg us'.toArray) (w' := w) (by simp [execOp, hop, hparts, hrun]) ⟨p, .refl _ _ _, hz, slot_value hsz (x := .v (.agg cs)) ⟨_, rfl, by simpa using hrep⟩, bx_put (by intro _ h; cases h), kind_put (by intro h; cases h),
      fun e he => ⟨_, hfr e he, .inl rfl, (fun b h => by cases h)⟩, (fun e e' u u' b he he' _ hu _ hb => by rw [hfr e he] at hu; cases hu; cases hb), ?_⟩
    intro e he u hu
    simp only [moved, hop, hi, List.mem_filterMap, List.mem_range] at he
    obtain ⟨n, hn, he⟩ := he
    split at he
    · rename_i r hr
      cases he
      simp only at hu ⊢
      have := hfrom n r.1 r.2 hr
      show us'.toArray[n]? = some u
      rw [List.getElem?_toArray, this]
      have hx : ∃ x ∈ ps.toList, x.2 = .tmp r.1 := by
        clear hb hbu hfrom hnone hparts hfr hop h1 hrun
        generalize ps.toList = l at hr
        induction l with
        | nil => simp [builtFrom] at hr
        | cons y l ih =>
          obtain ⟨f', x'⟩ := y
          unfold builtFrom at hr
          split at hr
          · rename_i r' hr'
            cases hr
            obtain ⟨x, hx, hx2⟩ := ih hr'
            exact ⟨x, List.mem_cons_of_mem _ hx, hx2⟩
          · split at hr
            · split at hr
              · cases x' with
                | tmp y =>
                  simp only [Option.some.injEq] at hr
                  subst hr
                  exact ⟨_, List.mem_cons_self, rfl⟩
                | const c => simp at hr
                | global g => simp at hr
                | func g => simp at hr
              · cases hr
            · cases hr
      obtain ⟨x, hx, hx2⟩ := hx
      have hsl := (by simpa [hx2] using h1 x hx : Sees p w a.tmps s (.tmp r.1))
      have hsr := (hsl r.1 (looks_self s r.1)).1
      have hval : ∃ v, s.get r.1 = .v v := by
        clear hfrom hnone hparts hfr hrun hrep hbu
        have key : ∀ (l : List (Nat × Operand)) (c c' : List AC), buildV L s i l c = some c' → x ∈ l → ∃ v, s.get r.1 = .v v := by
          intro l
          induction l with
          | nil => intro c c' _ hm; cases hm
          | cons y l ih =>
            intro c c' hbv hm
            obtain ⟨f', x'⟩ := y
            unfold buildV at hbv
            split at hbv
            · rename_i hv
              split at hbv
              · rcases List.mem_cons.1 hm with rfl | hm
                · simp only at hx2
                  rw [hx2] at hv
                  simp only [svOf] at hv
                  split at hv
                  · rename_i v' hv'; exact ⟨v', hv'⟩
                  · cases hv
                · exact ih _ _ hbv hm
              · cases hbv
            · cases hbv
        exact key _ _ _ hb hx
      obtain ⟨v, hv⟩ := hval
      rw [hv] at hsr
      rw [cellOf_SV hsr] at hu
      exact hu
    · cases he
  · cases hs
theorem partsV_ok {k : Nat} : ∀ (ps : List (Nat × Operand)) (j : Nat) (r : List (List AC)), partsV L s k j ps = some r → (∀ x ∈ ps, Sees p w a.tmps s x.2) →
    (ps.map fun x => (x.1, a.eval x.2)).map (·.1) = (List.range ps.length).map (j + ·) ∧ ps.length = r.length ∧
      ∀ (i : Nat) (x : Nat × Value) (y : List AC), (ps.map fun x => (x.1, a.eval x.2))[i]? = some x → r[i]? = some y → RepL p w x.2.cells.toList y ∧ y.length = k
  | [], j, r, h, _ => by cases h; exact ⟨rfl, rfl, fun i x y hx => by simp at hx⟩
  | (i, x) :: ps, j, r, h, hsee => by
    unfold partsV at h
    split at h
    · rename_i v hv
      split at h
      · rename_i hc
        simp only [Option.map_eq_some_iff] at h
        obtain ⟨r', h, rfl⟩ := h
        obtain ⟨h1, h2, h3⟩ := partsV_ok ps (j + 1) r' h (fun y hy => hsee y (List.mem_cons_of_mem _ hy))
        refine ⟨?_, by simp [h2], fun n y c hy hc' => ?_⟩
        · simp only [List.map_cons, List.length_cons, List.range_succ_eq_map, h1, hc.1]
          simp [Function.comp_def, Nat.add_assoc, Nat.add_comm 1]
        · match n with
          | 0 => simp at hy hc'; subst hy hc'; exact ⟨(svOf_rep hv (hsee (i, x) List.mem_cons_self)).cells, hc.2⟩
          | n + 1 => exact h3 n y c (by simpa using hy) (by simpa using hc')
      · cases h
    · cases h
theorem op_buildSlice (hL : LayOk P L) {t n : Nat} {ps : Array (Nat × Operand)} (hop : o.op = .buildSlice t n ps)
    (hs : ((L.el t).bind fun e => (partsV L s e.size 0 ps.toList).bind fun r => if r.length = n ∧ n ≤ 65536 ∧ 0 < e.size ∧ e.size ≤ 256 then some (s.put o.dst (.v (.cell (.sl e.size r)))) else none) = some s')
    (h1 : ∀ x ∈ ps.toList, Sees p w a.tmps s x.2) (hsz : a.tmps.size = s.σ.length) (hz : Zp p w) : OpGoal P L S q o a p w s' := by
  simp only [Option.bind_eq_some_iff] at hs
  obtain ⟨e, he, r, hr, hs⟩ := hs
  obtain ⟨u, hu, hT⟩ := hL.el he
  split at hs
  · rename_i hc
    obtain ⟨rfl, c2, c3, c4⟩ := hc
    cases hs
    obtain ⟨k1, k2, k3⟩ := partsV_ok (a := a) ps.toList 0 r hr h1
    have hparts : ps.map (fun (i, x) => (i, a.eval x)) = (ps.toList.map fun x => (x.1, a.eval x.2)).toArray := by
      apply Array.ext'
      simp
    obtain ⟨v, w', p', hrun, hrep, hrt, hev, hz', hblk⟩ := run_buildSlice (t := t) hu hT c3 (parts := ps.toList.map fun x => (x.1, a.eval x.2)) (by rw [k1]; simp) (by simpa using k2) k3 hz c2 c4
    refine does_value (v := v) (w' := w') (by simp [execOp, hop, hparts, hrun]) ⟨p', ?_⟩
    refine single_post (e0 := (0, e.size)) (hev.weaken fun b _ hb => hb.elim) hz' (slot_value hsz (x := .v (.cell _)) hrep) (bx_put (by intro _ h; cases h)) (kind_put (by intro h; cases h)) (by simp [fresh, hop, he]) (by simp [moved, hop]) (u := v) ?_ hrt (fun b hb => .inl (by rw [hblk b hb]; exact Nat.le_refl _))
    rw [cellOf_SV (x := .cell _) hrep, hrep.cells]; rfl
  · cases hs
theorem op_makeSlice (hL : LayOk P L) {t : Nat} {x y : Operand} (hop : o.op = .makeSlice t x y)
    (hs : ((L.el t).bind fun e => (intO L s x).bind fun l => (intO L s y).bind fun c => if 0 ≤ l ∧ l ≤ c ∧ c ≤ lim36 ∧ 0 < e.size then some (s.put o.dst (.v (.cell (.sl e.size (List.replicate l.toNat e.zero))))) else none) = some s')
    (h1 : Sees p w a.tmps s x) (h2 : Sees p w a.tmps s y) (hsz : a.tmps.size = s.σ.length) (hz : Zp p w) : OpGoal P L S q o a p w s' := by
  simp only [Option.bind_eq_some_iff] at hs
  obtain ⟨e, he, l, hl, c, hc', hs⟩ := hs
  obtain ⟨u, hu, hT⟩ := hL.el he
  split at hs
  · rename_i hc
    obtain ⟨c1, c2, c3, c4⟩ := hc
    cases hs
    obtain ⟨v, w', p', hrun, hrep, hrt, hev, hz', hblk⟩ := run_makeSlice_rep (t := t) hu hT c4 c1 c2 c3 hz
    refine does_value (v := v) (w' := w') (by simp [execOp, hop, intO_rep hl h1, intO_rep hc' h2, hrun]) ⟨p', ?_⟩
    refine single_post (e0 := (0, e.size)) (hev.weaken fun b _ hb => hb.elim) hz' (slot_value hsz (x := .v (.cell _)) hrep) (bx_put (by intro _ h; cases h)) (kind_put (by intro h; cases h)) (by simp [fresh, hop, he]) (by simp [moved, hop]) (u := v) ?_ hrt (fun b hb => .inl (by rw [hblk b hb]; exact Nat.le_refl _))
    rw [cellOf_SV (x := .cell _) hrep, hrep.cells]; rfl
  · cases hs
theorem argsV_ok : ∀ (xs : List Operand) (ts : List Nat) (vs : List SV), argsV L s xs ts = some vs → (∀ x ∈ xs, Sees p w a.tmps s x) → RepSs p w (xs.map a.eval) vs
  | [], [], _, h, _ => by cases h; trivial
  | x :: xs, t :: ts, _, h, hsee => by
    simp only [argsV, Option.bind_eq_some_iff] at h
    obtain ⟨v, hv, h⟩ := h
    split at h
    case isFalse => cases h
    simp only [Option.map_eq_some_iff] at h
    obtain ⟨vs, h, rfl⟩ := h
    exact ⟨svOf_rep hv (hsee x List.mem_cons_self), argsV_ok xs ts vs h fun y hy => hsee y (List.mem_cons_of_mem _ hy)⟩
  | [], _ :: _, _, h, _ => by cases h
  | _ :: _, [], _, h, _ => by cases h
theorem mem_zip_get {α β : Type} : ∀ {xs : List α} {ys : List β} {x : α} {y : β}, (x, y) ∈ xs.zip ys → ∃ i : Nat, xs[i]? = some x ∧ ys[i]? = some y
  | [], _, _, _, h => by simp at h
  | _ :: _, [], _, _, h => by simp at h
  | a :: xs, b :: ys, x, y, h => by
    simp only [List.zip_cons_cons, List.mem_cons, Prod.mk.injEq] at h
    rcases h with ⟨rfl, rfl⟩ | h
    · exact ⟨0, rfl, rfl⟩
    · obtain ⟨i, h1, h2⟩ := mem_zip_get h
      exact ⟨i + 1, by simpa using h1, by simpa using h2⟩
theorem get_mem_zip {α β : Type} : ∀ {xs : List α} {ys : List β} {i : Nat} {x : α} {y : β}, xs[i]? = some x → ys[i]? = some y → (x, y) ∈ xs.zip ys
  | [], _, _, _, _, h, _ => by simp at h
  | _ :: _, [], _, _, _, _, h => by simp at h
  | a :: xs, b :: ys, 0, x, y, h1, h2 => by simp at h1 h2; subst h1 h2; simp
  | a :: xs, b :: ys, i + 1, x, y, h1, h2 => by
    simp only [List.zip_cons_cons, List.mem_cons]
    exact .inr (get_mem_zip (by simpa using h1) (by simpa using h2))
theorem op_call (hC : CallOk P S call) {f : FuncId} {xs : Array Operand} {ts : Array TypeId} (hop : o.op = .call { callee := .value (.func f), args := xs, argTypes := ts })
    (hs : ((argsV L s xs.toList ts.toList).bind fun vs => (call f vs).map fun r => s.put o.dst r) = some s') (hlen : (S.sg f).takes.length ≤ xs.size)
    (h1 : ∀ x ∈ xs.toList, Sees p w a.tmps s x) (hsz : a.tmps.size = s.σ.length) (hz : Zp p w) (hr : ∀ x ∈ eats L S o, Rt p w (a.eval x.1) x.2) (hd : Apart ((eats L S o).map fun x => a.eval x.1)) : OpGoal P L S q o a p w s' := by
  simp only [Option.bind_eq_some_iff, Option.map_eq_some_iff] at hs
  obtain ⟨vs, hvs, r, hcall, rfl⟩ := hs
  obtain ⟨⟨_, fn, f1, f2, f3⟩, hc⟩ := hC f vs r hcall
  have hreps := argsV_ok (a := a) _ _ _ hvs h1
  have heats : eats L S o = (xs.toList.zip (S.sg f).takes).filterMap fun xk => xk.2.map fun k => (xk.1, k) := by simp [eats, hop]
  have htk : ∀ (i k : Nat) (v : Value), (S.sg f).takes[i]? = some (some k) → (xs.toList.map a.eval)[i]? = some v → ∃ x ∈ eats L S o, x.2 = k ∧ a.eval x.1 = v := fun i k v hk hv => by
    rw [List.getElem?_map] at hv
    simp only [Option.map_eq_some_iff] at hv
    obtain ⟨x, hx, rfl⟩ := hv
    refine ⟨(x, k), ?_, rfl, rfl⟩
    rw [heats, List.mem_filterMap]
    exact ⟨(x, some k), get_mem_zip hx hk, rfl⟩
  have heat : ∀ b, (∃ (i k : Nat) (v : Value), (S.sg f).takes[i]? = some (some k) ∧ (xs.toList.map a.eval)[i]? = some v ∧ blkOf v = some b) → eatB L S o a b := by
    rintro b ⟨i, k, v, hk, hv, hb⟩
    obtain ⟨x, hx, _, rfl⟩ := htk i k v hk hv
    exact ⟨x, hx, hb⟩
  have hcalls := hc p w (xs.toList.map a.eval) hreps hz (fun i k hk => by
    have hi : i < (S.sg f).takes.length := (List.getElem?_eq_some_iff.1 hk).1
    have hx : (xs.toList.map a.eval)[i]? = some ((xs.toList.map a.eval)[i]'(by simp; omega)) := List.getElem?_eq_getElem _
    obtain ⟨x, hxe, hk', he⟩ := htk i k _ hk hx
    exact ⟨_, hx, by rw [← he, ← hk']; exact hr x hxe⟩) (by
    have : ((xs.toList.map a.eval).zip (S.sg f).takes).filterMap (fun xk => xk.2.map fun _ => xk.1) = (eats L S o).map fun x => a.eval x.1 := by
      rw [heats, List.zip_map_left, List.filterMap_map, List.map_filterMap]
      congr 1
      funext xk
      obtain ⟨x, k⟩ := xk
      cases k <;> rfl
    rw [this]
    exact hd)
  have hargs : xs.map a.eval = (xs.toList.map a.eval).toArray := by
    apply Array.ext'
    simp
  refine does_call (f := f) (args := xs.map a.eval) ?_ ?_
  · have f3' : ¬ fn.name = "runtime.NumGoroutine" := by simpa using f3
    have hne : fn.body ≠ none := by cases h : fn.body <;> simp [h] at f2 ⊢
    simp [execOp, hop, resolve, invoke, Act.eval, Deferred.ofValue, callFunc, f1, f3', hne]
  · rw [hargs]
    refine hcalls.mono ?_
    rintro e w' ⟨v, rfl, p', hsr, hnb, hnu, hev, hz', hg, hap⟩
    refine ⟨v, rfl, p', hev.weaken (fun b _ hb => heat b hb), hz', slot_value hsz hsr, bx_put hnb, kind_put hnu, ?_, ?_, by simp [moved, hop]⟩
    · intro e he
      rw [show fresh L S o = (S.sg f).gives by simp [fresh, hop]] at he
      obtain ⟨u, h1, h2, h3⟩ := hg e he
      exact ⟨u, h1, h2, fun b hb => (h3 b hb).imp id (heat b)⟩
    · rw [show fresh L S o = (S.sg f).gives by simp [fresh, hop]]
      exact hap
end
end Go.Proofs.Ytbodfaghedolbaa

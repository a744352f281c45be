/- Generic texts and models for the proofs of this seat: part 13. -/
import Derived.Test.YtbodfaghedolbaaS12
set_option linter.unusedVariables false
set_option linter.unusedSimpArgs false
namespace Go.Proofs.Ytbodfaghedolbaa
open Go Go.RowKit
section
variable {P : Program} {L : Lay} {S : Sig} {call : Orc} {p p' : Stb} {w w' : World} {a : Act} {s s' : VS} {q : SPe} {o : Oper} {st st' : Stt} {Own : Nat → Prop} {base : Nat}
theorem fillL_left : ∀ (xs a b : List AC) (j : Nat), j + xs.length ≤ a.length → fillL (a ++ b) j xs = fillL a j xs ++ b
  | [], _, _, _, _ => rfl
  | x :: xs, a, b, j, h => by
    simp only [List.length_cons] at h
    rw [fillL, fillL, List.set_append_left _ _ (by omega)]
    exact fillL_left xs _ b (j + 1) (by rw [List.length_set]; omega)
theorem fillL_right : ∀ (xs a b : List AC) (m : Nat), fillL (a ++ b) (a.length + m) xs = a ++ fillL b m xs
  | [], _, _, _ => rfl
  | x :: xs, a, b, m => by
    rw [fillL, fillL, List.set_append_right _ _ (by omega), Nat.add_sub_cancel_left, Nat.add_assoc]
    exact fillL_right xs a _ (m + 1)
theorem flatten_fill {k : Nat} {xs : List AC} {j : Nat} (hj : j + xs.length ≤ k) : ∀ (rows : List (List AC)) (n : Nat), (∀ r ∈ rows, r.length = k) → n < rows.length → (rows.set n (fillL (rows.getD n []) j xs)).flatten = fillL rows.flatten (n * k + j) xs
  | [], _, _, h => by simp at h
  | r :: rows, 0, hr, _ => by
    have := hr r List.mem_cons_self
    simp only [List.getD_cons_zero, List.set_cons_zero, List.flatten_cons, Nat.zero_mul, Nat.zero_add]
    rw [fillL_left _ _ _ _ (by omega)]
  | r :: rows, n + 1, hr, h => by
    have hl := hr r List.mem_cons_self
    simp only [List.getD_cons_succ, List.set_cons_succ, List.flatten_cons]
    rw [flatten_fill hj rows n (fun y hy => hr y (List.mem_cons_of_mem _ hy)) (by simpa using h), Nat.succ_mul, ← hl, show n * r.length + r.length + j = r.length + (n * r.length + j) by omega, fillL_right]
theorem step_storeA (hL : LayOk P L) (hI : Inv st p w a.tmps s Own) {t : Nat} {x v : Operand} (hop : o.op = .store t x v) (hdn : o.dst = none) (hs : vopA L call o s = some s') : Does P o a w fun v w' => ∃ p', Inv st p' w' (a.put o.dst v).tmps s' Own ∧ Evo Own p w p' w' := by
  obtain ⟨val, hR⟩ := hI.rooms
  simp only [vopA, hop, Option.bind_eq_some_iff] at hs
  obtain ⟨i, hi, r, hr, xv, hxv, hs⟩ := hs
  split at hs
  case h_2 => cases hs
  rename_i d k n j
  split at hs
  case h_2 => cases hs
  rename_i k' rows hd0
  split at hs
  case isFalse => cases hs
  rename_i hc
  obtain ⟨rfl, hn, hj, hsz⟩ := hc
  cases hs
  obtain ⟨b, o', len, cap, hm, hx⟩ := ptrO_rep (p := p) (w := w) (a := a) hr (fun t _ => hI.slots t)
  have hsr := (hI.slots d).1
  rw [hd0] at hsr
  obtain ⟨hk, hrows, hh⟩ := hsr
  rcases hh with ⟨_, rfl⟩ | ⟨b', o2, cap', arr, T, us, hsl, hcap, hb, hus, hrep, hcell⟩
  · simp at hn
  rw [hsl] at hm
  cases hm
  have hv := svOf_rep (p := p) (w := w) (a := a) hxv (fun t _ => hI.slots t)
  obtain ⟨inf, z, h1, h2, _, _, _, _⟩ := (hL t i hi).info
  have hvc := hv.cells
  have hlen := hvc.length
  have hle : n * k + k ≤ rows.length * k := by rw [← Nat.succ_mul]; exact Nat.mul_le_mul_right _ hn
  have hle2 : rows.length * k ≤ cap * k := Nat.mul_le_mul_right _ hcap.2.1
  have hcl : (a.eval v).cells.toList.length = i.size := by rw [hlen, hsz]
  obtain ⟨w', arr', r1, r2, r3, r4, r5, r6, r7, r8, r9, r10⟩ := run_store_cells (P := P) (b := b) (T := T) (a.eval v).cells.toList 0 (o' + n * k + j) arr w hb (by omega) (RepL.oneCell hvc)
  have hrun : (Instr.storeAt t (.pointer (some ⟨b, o' + n * k + j, none⟩)) (a.eval v)).run P w = .ok () w' := by
    have hsz' : (a.eval v).cells.size = inf.size := by rw [h2, ← hcl]; simp
    simp [Instr.storeAt, Instr.sureAddr, storeVar, sizeOf, typeInfo, h1, hsz', r1]
  have hblk : blkOf (a.tmps.getD d undef) = some b := by rw [hsl]; rfl
  obtain ⟨hp0, hown, hlt, hnb, hna⟩ := hI.arr d k rows b hd0 hblk
  have hev : Evo (· = b) p w p w' := evo_block hp0 r6 r7 r8 r9 r10
  have hdlt : d < s.σ.length := by
    rcases Nat.lt_or_ge d s.σ.length with h | h
    · exact h
    · unfold VS.get at hd0
      rw [List.getD, List.getElem?_eq_none h] at hd0
      cases hd0
  generalize hN : AV.arr k (rows.set n (fillL (rows.getD n []) j xv.cells)) = N
  have hget : ∀ y, y ≠ d → VS.get { s with σ := s.σ.set d N } y = s.get y := fun y hy => by
    simp only [VS.get, List.getD, List.getElem?_set_ne (Ne.symm hy)]
  have hgetd : VS.get { s with σ := s.σ.set d N } d = N := by
    simp only [VS.get, List.getD, List.getElem?_set_self hdlt, Option.getD_some]
  have hnew : SR p w' (a.tmps.getD d undef) N := by
    rw [← hN]
    refine ⟨hk, fun y hy => ?_, .inr ⟨b, o', cap, arr', T, fillG us (n * k + j) (a.eval v).cells.toList, by rw [hsl]; simp, ⟨hcap.1, by simpa using hcap.2.1, by rw [r3]; exact hcap.2.2⟩, r2, by rw [fillG_length, hus]; simp, ?_, fun y u hy => ?_⟩⟩
    · rcases List.mem_or_eq_of_mem_set hy with hy | rfl
      · exact hrows y hy
      · rw [fillL_length]
        have hg : rows.getD n [] = rows[n] := by simp [List.getD, List.getElem?_eq_getElem hn]
        rw [hg]
        exact hrows _ (List.getElem_mem hn)
    · rw [flatten_fill (by rw [hsz]; exact hj) rows n hrows hn]
      refine RepL.evo hev ?_
      exact hrep.fill _ hvc
    · rw [fillG_get _ _ _ _ (by omega)] at hy
      split at hy
      · rename_i hin
        have := r4 (y - (n * k + j)) (by omega)
        rw [← hy, ← this]
        congr 1
        omega
      · rename_i hout
        rw [r5 _ (by omega)]
        exact hcell y u hy
  have hgbox : ∀ y cs, VS.get { s with σ := s.σ.set d N } y = .box cs → y ≠ d ∧ s.get y = .box cs := fun y cs hy => by
    by_cases hyd : y = d
    · subst hyd; rw [hgetd, ← hN] at hy; cases hy
    · rw [hget y hyd] at hy; exact ⟨hyd, hy⟩
  have hgal : ∀ y e, VS.get { s with σ := s.σ.set d N } y = .al e → y ≠ d ∧ s.get y = .al e := fun y e hy => by
    by_cases hyd : y = d
    · subst hyd; rw [hgetd, ← hN] at hy; cases hy
    · rw [hget y hyd] at hy; exact ⟨hyd, hy⟩
  have hgarr : ∀ y kk rr, VS.get { s with σ := s.σ.set d N } y = .arr kk rr → ∃ rr', s.get y = .arr kk rr' := fun y kk rr hy => by
    by_cases hyd : y = d
    · subst hyd; rw [hgetd, ← hN] at hy; cases hy; exact ⟨rows, hd0⟩
    · rw [hget y hyd] at hy; exact ⟨rr, hy⟩
  have hBbox : ∀ b' y cs, b' = b → s.get y = .box cs → a.tmps.getD y undef ≠ .pointer (some ⟨b', 0, none⟩) := fun b' y cs hbb hy => by rw [hbb]; exact hnb y cs hy
  refine does_skip (w' := w') (by simp [execOp, hop, hx, hrun]) ⟨p, ?_, hev.weaken (fun x _ h => by rw [h]; exact hown)⟩
  rw [hdn]
  show Inv st p w' a.tmps _ Own
  refine ⟨by rw [hI.size]; simp, by rw [hI.len]; simp, fun y hy => ⟨(hI.nbk y hy).1, fun cs hcs => (hI.nbk y hy).2 cs (hgbox y cs hcs).2⟩, hI.sonce, fun y => ?_, ⟨fun x hx => hI.zp.1 x (by omega), fun x hx => hI.zp.2 x (by omega)⟩, hI.once, hI.spe, fun x hx => hI.own x (by omega), fun y cs hy => ?_, fun y y' cs1 cs2 bb hne hy hy' hb1 => ?_, fun y kk rr bb hy hbb => ?_, fun y e kk rr hy he => ?_, ?_, val, ?_⟩
  · obtain ⟨g1, g2⟩ := hI.slots y
    constructor
    · by_cases hyd : y = d
      · subst hyd; rw [hgetd]; exact hnew
      · rw [hget y hyd]
        exact sr_frame hev (fun cs hcs b'' hb'' he => hBbox b'' y cs he hcs hb'') (fun kk rr hkr b'' hb'' he => hyd (hna y kk rr hkr (by rw [hb'', he]))) g1
    · intro r hr'
      have := g2 r hr'
      cases r with
      | ref cs' => exact PRef.evo hev this
      | box d' off' => exact this
      | el d' k n j => exact this
  · obtain ⟨b2, x1, x2, x3, x4⟩ := hI.box y cs (hgbox y cs hy).2
    exact ⟨b2, x1, x2, x3, by omega⟩
  · exact hI.boxd y y' cs1 cs2 bb hne (hgbox y cs1 hy).2 (hgbox y' cs2 hy').2 hb1
  · obtain ⟨rr', hy⟩ := hgarr y kk rr hy
    obtain ⟨x1, x2, x3, x4, x5⟩ := hI.arr y kk rr' bb hy hbb
    refine ⟨x1, x2, by omega, fun z cs hz => x4 z cs (hgbox z cs hz).2, fun z k2 r2' hz hzb => ?_⟩
    obtain ⟨r3', hz⟩ := hgarr z k2 r2' hz
    exact x5 z k2 r3' hz hzb
  · obtain ⟨rr', he⟩ := hgarr e kk rr he
    exact hI.al y e kk rr' (hgal y e hy).2 he
  · refine ⟨fun y e hy => hI.mks.1 y e (hgal y e hy).2, fun y kk rr hy => ?_⟩
    obtain ⟨rr', hy⟩ := hgarr y kk rr hy
    exact hI.mks.2 y kk rr' hy
  · refine ⟨fun z id hm => ?_, fun id kk hm => ?_, fun id kk bb hm hbb => ?_, hR.apart, fun z id kk y k' rr b' hm hal hy hyb hb' => ?_⟩
    · obtain ⟨h1, h2⟩ := hR.place z id hm
      refine ⟨cell_frame hI hev (fun b' cs hbb hz => hBbox b' z.1 cs hbb hz) h2 h1, ?_⟩
      by_cases hzd : z.1 = d
      · rw [hzd, hgetd, ← hN]; intro h; cases h
      · rw [hget _ hzd]; exact h2
    · rcases hR.alive id kk hm with e | ⟨b2, off, len, cap2, arr2, T2, e, h1, h2, h3, h4⟩
      · exact .inl e
      · by_cases hbb : b2 = b
        · subst hbb
          rw [hb] at h1
          cases h1
          exact .inr ⟨b2, off, len, cap2, arr', T, e, r2, h2, by rw [r3]; exact h3, h4⟩
        · exact .inr ⟨b2, off, len, cap2, arr2, T2, e, by rw [r7 b2 hbb]; exact h1, h2, h3, h4⟩
    · obtain ⟨x1, x2⟩ := hR.own id kk bb hm hbb
      exact ⟨x1, fun y cs hy => x2 y cs (hgbox y cs hy).2⟩
    · obtain ⟨rr', hy⟩ := hgarr y k' rr hy
      obtain ⟨x1, x2, x3⟩ := hR.row z id kk y k' rr' b' hm hal hy hyb hb'
      refine ⟨x1, x2.imp (fun e => e) fun h => ?_, x3⟩
      by_cases hzd : z.1 = d
      · rw [hzd, hd0] at h; cases h
      · rw [hget _ hzd]; exact h
theorem call_does (hC : CallOk P S call) {f : FuncId} {xs : Array Operand} {ts : Array TypeId} (hop : o.op = .call { callee := .value (.func f), args := xs, argTypes := ts }) {vs : List SV} {r : AV} (hcall : call f vs = some r) (htk : (S.sg f).takes = [])
    {p₁ : Stb} (hreps : RepSs p₁ w (xs.toList.map a.eval) vs) (hz : Zp p₁ w) {R : Value → World → Prop}
    (hR : ∀ v w' p', SR p' w' v r → Evo (fun _ => False) p₁ w p' w' → Zp p' w' → (∀ e ∈ (S.sg f).gives, ∃ u, cellOf w' v e.1 = some u ∧ Rt p' w' u e.2 ∧ ∀ b, blkOf u = some b → w.heap.size ≤ b) → R v w') : Does P o a w R := by
  obtain ⟨⟨_, fn, f1, f2, f3⟩, hc⟩ := hC f vs r hcall
  have hno : ∀ b, ¬ ∃ (i k : Nat) (v : Value), (S.sg f).takes[i]? = some (some k) ∧ (xs.toList.map a.eval)[i]? = some v ∧ blkOf v = some b := by
    rintro b ⟨i, k, v, hk, _⟩
    rw [htk] at hk
    simp at hk
  have hcalls := hc p₁ w (xs.toList.map a.eval) hreps hz (fun i k hk => by rw [htk] at hk; simp at hk) (fun i j u v b _ hi => by rw [htk] at hi; simp at hi)
  have hargs : xs.map a.eval = (xs.toList.map a.eval).toArray := by
    apply Array.ext'
    simp
  refine does_call (f := f) (args := xs.map a.eval) ?_ ?_
  · have f3' : ¬ fn.name = "runtime.NumGoroutine" := by simpa using f3
    have hne : fn.body ≠ none := by cases h : fn.body <;> simp [h] at f2 ⊢
    simp [execOp, hop, resolve, invoke, Act.eval, Deferred.ofValue, callFunc, f1, f3', hne]
  · rw [hargs]
    refine hcalls.mono ?_
    rintro e w' ⟨v, rfl, p', hsr, _, _, hev, hz', hg, _⟩
    refine ⟨v, rfl, hR v w' p' hsr (hev.weaken fun b _ hb => hno b hb) hz' fun e he => ?_⟩
    obtain ⟨u, g1, g2, g3⟩ := hg e he
    exact ⟨u, g1, g2, fun b hb => (g3 b hb).resolve_right (hno b)⟩
theorem a_thaw (hC : CallOk P S call) (hI : Inv st p w a.tmps s Own) {f : FuncId} {xs : Array Operand} {ts : Array TypeId} (hop : o.op = .call { callee := .value (.func f), args := xs, argTypes := ts }) (htk : (S.sg f).takes = []) {k : Nat} (hg : (S.sg f).gives = [(0, k)]) (hk : 0 < k)
    {vs : List SV} (hvs : argsV L s xs.toList ts.toList = some vs) {rows : List (List AC)} (hcall : call f vs = some (.v (.cell (.sl k rows)))) {d : Nat} (hd : o.dst = some d) (hlt : d < s.σ.length) (hhome : L.home (f + 1) o.dst = true) (hf : apR k rows = true) : AGoal P L S st o a p w s (s.put (some d) (.arr k rows)) := by
  have hreps := argsV_ok (p := p) (w := w) (a := a) _ _ _ hvs (fun x _ t _ => hI.slots t)
  have hput := put_frames (o := o) hI.once (.arr k rows)
  have hspe := spe_put (L := L) (o := o) hI.spe hI.sonce hI.once (.arr k rows) (by simp [hop]) (by simp [hop])
  have hfr : fresh L S o = [(0, k)] := by simp [fresh, hop, hg]
  have hmv : moved L st.spe o = [] := by simp [moved, hop]
  have heat : eats L S o = [] := by simp [eats, hop, htk]
  have hgd : (s.put (some d) (.arr k rows)).get d = .arr k rows := by rw [get_put, if_pos hlt]
  rw [hd] at hput hspe
  refine ⟨⟨heat, hput.1, hput.2, hspe⟩, call_does hC hop hcall htk hreps hI.zp fun v w' p' hsr hev hz' hgv => ?_⟩
  obtain ⟨u, hu, hrt, hnewb⟩ := hgv (0, k) (by rw [hg]; simp)
  have hrep : Rep p' w' v (.sl k rows) := hsr
  have hue : u = v := by
    rw [cellOf_SV (x := .cell _) hrep, hrep.cells] at hu
    simpa using hu.symm
  subst hue
  have hlow := loV_le p' u
  have hev' : Evo (fun _ => False) p w (loV p' u) w' := ⟨hev.os, hev.tape, hev.output, hev.size, hev.block,
    fun b hb => by
      rw [loV_f, if_neg (fun h => by have := hnewb b h; omega)]
      exact hev.keepP b hb,
    fun b hb hn => by
      rw [loV_f, if_neg (fun h => by have := hnewb b h; omega)]
      exact hev.same b hb hn, hev.stable, hev.okk, hev.uq⟩
  have hsr' : SR (loV p' u) w' u (.arr k rows) := arr_of_rep hrep hrt hk hf (fun b hb j hj => hev.uq b (hnewb b hb) (hrt.lt hb) _ _ hj (hrt.okAt hb)) _ rfl (fun b hb => by rw [loV_f, if_neg hb])
  have hpost := single_post (L := L) (S := S) (o := o) (a := a) (q := st.spe) (s' := s.put o.dst (.arr k rows)) (e0 := (0, k)) (hev'.weaken fun b _ hb => hb.elim) ⟨fun b hb => by
      have h1 := hz'.1 b hb
      exact Nat.le_zero.1 (Nat.le_trans (hlow b) (Nat.le_of_eq h1)), hz'.2⟩
    (slot_value hI.size hsr') (bx_put (by intro _ h; cases h)) (kind_put (by intro h; cases h)) hfr hmv (u := u) hu (hrt.lower hlow rfl) (fun b hb => .inl (hnewb b hb))
  rw [hd] at hpost
  refine ⟨_, hpost, fun d' k' rows' hd' h => ?_, fun d' e hd' h => ?_, fun d' hd' h => ?_⟩
  · rw [hd] at hd'; cases hd'
    rw [hgd] at h
    cases h
    exact ⟨by simpa [isMake, hop] using hhome, by rw [hfr]; simp, hmv, fun b hb => ⟨hnewb b hb, by rw [loV_f, if_pos hb], hrt.lt hb⟩⟩
  · rw [hd] at hd'; cases hd'; rw [hgd] at h; cases h
  · rw [hd] at hd'; cases hd'; rw [hgd] at h; cases h
def endV (v : Value) (k : Nat) : Nat := match v with
  | .slice (some ⟨_, o, _⟩) len _ => o + len * k
  | _ => 0
def TopOf (m : Array Value) (s : VS) (b n : Nat) : Prop := ∃ d k rows, s.get d = .arr k rows ∧ blkOf (m.getD d undef) = some b ∧ n = endV (m.getD d undef) k
open Classical in
noncomputable def raiseP (p : Stb) (m : Array Value) (s : VS) : Stb := ⟨fun b => if h : ∃ n, TopOf m s b n then h.choose else p b, p.ok⟩
open Classical in
noncomputable def dropP (p' : Stb) (m : Array Value) (s : VS) : Stb := ⟨fun b => if ∃ n, TopOf m s b n then 0 else p' b, p'.ok⟩
open Classical in
theorem raiseP_f (p : Stb) (m : Array Value) (s : VS) (b : Nat) : raiseP p m s b = if h : ∃ n, TopOf m s b n then h.choose else p b := rfl
open Classical in
theorem dropP_f (p : Stb) (m : Array Value) (s : VS) (b : Nat) : dropP p m s b = if ∃ n, TopOf m s b n then 0 else p b := rfl
theorem raise_at {m : Array Value} (hI : Inv st p w m s Own) {d k : Nat} {rows : List (List AC)} (hd : s.get d = .arr k rows) {b : Nat} (hb : blkOf (m.getD d undef) = some b) : raiseP p m s b = endV (m.getD d undef) k := by
  have h : ∃ n, TopOf m s b n := ⟨_, d, k, rows, hd, hb, rfl⟩
  rw [raiseP_f, dif_pos h]
  obtain ⟨d', k', rows', hd', hb', e⟩ := h.choose_spec
  have := (hI.arr d k rows b hd hb).2.2.2.2 d' k' rows' hd' hb'
  subst this
  rw [hd] at hd'
  cases hd'
  exact e
theorem raise_not {m : Array Value} {b : Nat} (h : ¬ ∃ n, TopOf m s b n) : raiseP p m s b = p b := by rw [raiseP_f, dif_neg h]
theorem top_lt {m : Array Value} (hI : Inv st p w m s Own) {b n : Nat} (h : TopOf m s b n) : p b = 0 ∧ Own b ∧ b < w.heap.size := by
  obtain ⟨d, k, rows, hd, hb, _⟩ := h
  obtain ⟨h1, h2, h3, _⟩ := hI.arr d k rows b hd hb
  exact ⟨h1, h2, h3⟩
theorem raise_evo {m : Array Value} (hI : Inv st p w m s Own) : Evo (fun b => ∃ n, TopOf m s b n) p w (raiseP p m s) w :=
  ⟨rfl, rfl, rfl, Nat.le_refl _, fun _ _ _ => rfl, fun b _ => by
    by_cases h : ∃ n, TopOf m s b n
    · obtain ⟨n, hn⟩ := h
      rw [(top_lt hI hn).1]
      exact Nat.zero_le _
    · rw [raise_not h]; exact Nat.le_refl _, fun b _ h => raise_not h, fun _ _ _ _ => rfl, fun _ _ => rfl, fun _ h1 h2 => absurd h1 (Nat.not_le.2 h2)⟩
theorem raise_zp {m : Array Value} (hI : Inv st p w m s Own) : Zp (raiseP p m s) w := ⟨fun b hb => by
  rw [raise_not]
  · exact hI.zp.1 b hb
  · rintro ⟨n, hn⟩
    have := (top_lt hI hn).2.2
    omega, hI.zp.2⟩
theorem arr_lend {m : Array Value} (hI : Inv st p w m s Own) {d k : Nat} {rows : List (List AC)} (hd : s.get d = .arr k rows) : Rep (raiseP p m s) w (m.getD d undef) (.sl k rows) := by
  have hsr := (hI.slots d).1
  rw [hd] at hsr
  obtain ⟨hk, hrows, hh⟩ := hsr
  rcases hh with ⟨e, rfl⟩ | ⟨b, o, cap, arr, T, us, e, hcap, hb, hus, hrep, hcell⟩
  · rw [e]; exact .nil _ _
  · have hblk : blkOf (m.getD d undef) = some b := by rw [e]; rfl
    have hra := raise_at hI hd hblk
    rw [e]
    refine rep_row (us := us) hk hrows (hI.arr d k rows b hd hblk).2.2.1 ?_ hcap.1.1 hcap.2.1 (hrep.evo (raise_evo hI)) (fun j u hj => by rw [cell_of_block hb]; exact hcell j u hj)
    rw [hra, e]
    exact Nat.le_refl _
theorem svA_rep (hI : Inv st p w a.tmps s Own) {t : Nat} {x : Operand} {v : SV} (h : svA L s t x = some v) : RepS (raiseP p a.tmps s) w (a.eval x) v := by
  unfold svA at h
  split at h
  · rename_i d k r hx
    cases h
    obtain ⟨hv, _⟩ := arr_val hI hx
    obtain ⟨_, _, hd, _⟩ := arrO_is hx
    rw [hv]
    exact arr_lend hI hd
  · exact (svOf_rep (p := p) (w := w) (a := a) h (fun t _ => hI.slots t)).evo (raise_evo hI)
theorem argsA_rep (hI : Inv st p w a.tmps s Own) : ∀ (xs : List Operand) (ts : List Nat) (vs : List SV), argsA L s xs ts = some vs → RepSs (raiseP p a.tmps s) w (xs.map a.eval) vs
  | [], [], _, h => by cases h; trivial
  | x :: xs, t :: ts, _, h => by
    simp only [argsA, Option.bind_eq_some_iff] at h
    obtain ⟨v, hv, h⟩ := h
    split at h
    case isFalse => cases h
    simp only [Option.map_eq_some_iff] at h
    obtain ⟨vs, h, rfl⟩ := h
    exact ⟨svA_rep hI hv, argsA_rep hI xs ts vs h⟩
  | [], _ :: _, _, h => by cases h
  | _ :: _, [], _, h => by cases h
theorem a_lend (hC : CallOk P S call) (hI : Inv st p w a.tmps s Own) {f : FuncId} {xs : Array Operand} {ts : Array TypeId} (hop : o.op = .call { callee := .value (.func f), args := xs, argTypes := ts }) (htk : (S.sg f).takes = []) (hg : (S.sg f).gives = [])
    {vs : List SV} (hvs : argsA L s xs.toList ts.toList = some vs) {r : AV} (hcall : call f vs = some r) (hf : flatAV r = true) : AGoal P L S st o a p w s (s.put o.dst r) := by
  have hreps := argsA_rep hI _ _ _ hvs
  have hput := put_frames (o := o) hI.once r
  have hspe := spe_put (L := L) (o := o) hI.spe hI.sonce hI.once r (by simp [hop]) (by simp [hop])
  have hfr : fresh L S o = [] := by simp [fresh, hop, hg]
  have hmv : moved L st.spe o = [] := by simp [moved, hop]
  have heat : eats L S o = [] := by simp [eats, hop, htk]
  have hrow : isRow r = false := by cases r <;> first | rfl | cases hf
  refine ⟨⟨heat, hput.1, hput.2, hspe⟩, call_does hC hop hcall htk hreps (raise_zp hI) fun v w' p' hsr hev hz' _ => ?_⟩
  have hdp : ∀ b, ¬ (∃ n, TopOf a.tmps s b n) → dropP p' a.tmps s b = p' b := fun b h => by rw [dropP_f, if_neg h]
  have hdz : ∀ b, (∃ n, TopOf a.tmps s b n) → dropP p' a.tmps s b = 0 := fun b h => by rw [dropP_f, if_pos h]
  have hev' : Evo (fun _ => False) p w (dropP p' a.tmps s) w' := ⟨hev.os, hev.tape, hev.output, hev.size, hev.block, fun b hb => by
      by_cases h : ∃ n, TopOf a.tmps s b n
      · obtain ⟨n, hn⟩ := h
        rw [(top_lt hI hn).1]
        exact Nat.zero_le _
      · rw [hdp b h, ← raise_not (p := p) h]
        exact hev.keepP b hb, fun b hb _ => by
      by_cases h : ∃ n, TopOf a.tmps s b n
      · rw [hdz b h]
        obtain ⟨n, hn⟩ := h
        exact (top_lt hI hn).1.symm
      · rw [hdp b h, ← raise_not (p := p) h]
        exact hev.same b hb (fun h => h), fun b o hb ho => hev.stable b o hb (Nat.lt_of_lt_of_le ho ((raise_evo hI).keepP b hb)), hev.okk, hev.uq⟩
  refine ⟨dropP p' a.tmps s, ⟨hev'.weaken fun b _ hb => hb.elim, ⟨fun b hb => ?_, hz'.2⟩, slot_value hI.size (hsr.flat hf _ _), bx_put (fun cs h => by rw [h] at hf; cases hf), kind_put (fun h => by rw [h] at hf; cases hf), by rw [hfr]; simp, by rw [hfr]; simp, by rw [hmv]; simp⟩, .plain (put_plain hrow) (by rw [hmv]; simp)⟩
  by_cases h : ∃ n, TopOf a.tmps s b n
  · exact hdz b h
  · rw [hdp b h]; exact hz'.1 b hb
end
end Go.Proofs.Ytbodfaghedolbaa

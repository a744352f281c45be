/- Words for copies of slices, element by element, as values' runs tell them. -/
import Derived.Test.YtoljlooeiljpfaaOc
import Derived.Test.YtoljlooeiljpfaaGa
namespace Go.Proofs.Ytoljlooeiljpfaa
open Go Go.RowKit
section
variable {P : Program} {p q : Nat → Nat} {w w' : World}
theorem rep_int {v : Value} {n : Int} (h : Rep p w v (.int n)) : v = .int .i64 n := by cases h; rfl
theorem rep_bool {v : Value} {n : Bool} (h : Rep p w v (.bool n)) : v = .bool n := by cases h; rfl
theorem rep_sl {v : Value} {k : Nat} {r : List (List AC)} (h : Rep p w v (.sl k r)) : ∃ A c, v = .slice A r.length c := by
  cases h with
  | nil a k => exact ⟨a, 0, rfl⟩
  | sl b o cap k rows f hk hrows hb hp hcap hc hr => exact ⟨_, cap, rfl⟩
theorem rep_at {A : Option Addr} {n c k : Nat} {rows : List (List AC)} (h : Rep p w (.slice A n c) (.sl k rows)) {i : Nat} (hi : i < rows.length) :
    ∃ b o us, A = some ⟨b, o, none⟩ ∧ b < w.heap.size ∧ us.length = k ∧ RepL p w us (rows.getD i []) ∧ ∀ (j : Nat) (u : Value), us[j]? = some u → w.cell? ⟨b, o + i * k + j, none⟩ = some u := by
  generalize hv : Value.slice A n c = v at h
  generalize hc : AC.sl k rows = ac at h
  cases h with
  | int n => cases hv
  | bool b => cases hv
  | nil a k' => cases hc; simp at hi
  | sl b o cap k' rows' f hk hrows hb hp hcap hcl hr =>
    cases hc
    cases hv
    have hm : rows.getD i [] ∈ rows := by simp [List.getD, List.getElem?_eq_getElem hi]
    have hl := hrows _ hm
    refine ⟨b, o, (List.range k).map (f i), rfl, hb, by simp, RepL.of (by rw [List.length_map, List.length_range, hl]) fun j v c hv hcj => ?_, fun j u hj => ?_⟩
    · have hj := (List.getElem?_eq_some_iff.1 hcj).1
      rw [List.getElem?_map, List.getElem?_range (by omega)] at hv
      simp at hv
      subst hv
      exact hr i j c hcj
    · have hjk : j < k := by simpa using (List.getElem?_eq_some_iff.1 hj).1
      rw [List.getElem?_map, List.getElem?_range hjk] at hj
      simp at hj
      subst hj
      exact hcl i j _ (List.getElem?_eq_getElem (by omega))
theorem agg_of {y : SV} (h : aggS y = true) : ∃ cs, y = .agg cs := by
  cases y with
  | cell c => cases h
  | agg cs => exact ⟨cs, rfl⟩
theorem cell_of {y : SV} (h : aggS y = false) : ∃ c, y = .cell c := by
  cases y with
  | cell c => exact ⟨c, rfl⟩
  | agg cs => cases h
theorem sh_int {z : Int} {s r : List AC} (h : shOk (.int z :: s) r = true) : ∃ n r', r = .int n :: r' ∧ shOk s r' = true := by
  match r, h with
  | .int n :: r', h => exact ⟨n, r', rfl, h⟩
theorem sh_bool {z : Bool} {s r : List AC} (h : shOk (.bool z :: s) r = true) : ∃ n r', r = .bool n :: r' ∧ shOk s r' = true := by
  match r, h with
  | .bool n :: r', h => exact ⟨n, r', rfl, h⟩
theorem sh_sl {k : Nat} {z : List (List AC)} {s r : List AC} (h : shOk (.sl k z :: s) r = true) : ∃ n r', r = .sl k n :: r' ∧ shOk s r' = true := by
  match r, h with
  | .sl k' n :: r', h =>
    simp only [shOk, Bool.and_eq_true, nbeq'] at h
    obtain ⟨rfl, h⟩ := h
    exact ⟨n, r', rfl, h⟩
theorem sh_nil {r : List AC} (h : shOk [] r = true) : r = [] := by
  match r, h with
  | [], _ => rfl
theorem shOk_len {s : List AC} : ∀ {r : List AC}, shOk s r = true → r.length = s.length := by
  induction s with
  | nil => intro r h; rw [sh_nil h]
  | cons x s ih =>
    intro r h
    cases x with
    | int z => obtain ⟨n, r', rfl, h⟩ := sh_int h; simp [ih h]
    | bool z => obtain ⟨n, r', rfl, h⟩ := sh_bool h; simp [ih h]
    | sl k z => obtain ⟨n, r', rfl, h2⟩ := sh_sl h; simp [ih h2]
theorem repL_cons {us : List Value} {c : AC} {cs : List AC} (h : RepL p w us (c :: cs)) : ∃ u us', us = u :: us' ∧ Rep p w u c ∧ RepL p w us' cs := by
  cases us with
  | nil => exact h.elim
  | cons u us => exact ⟨u, us, rfl, h.1, h.2⟩
theorem repL_nil {us : List Value} (h : RepL p w us []) : us = [] := by
  cases us with
  | nil => rfl
  | cons u us => exact h.elim
theorem lc_int {us : List Value} {n : Int} {cs : List AC} (h : RepL p w us (.int n :: cs)) : ∃ us', us = .int .i64 n :: us' ∧ RepL p w us' cs := by
  obtain ⟨u, us', rfl, h1, h2⟩ := repL_cons h
  exact ⟨us', by rw [rep_int h1], h2⟩
theorem lc_bool {us : List Value} {n : Bool} {cs : List AC} (h : RepL p w us (.bool n :: cs)) : ∃ us', us = .bool n :: us' ∧ RepL p w us' cs := by
  obtain ⟨u, us', rfl, h1, h2⟩ := repL_cons h
  exact ⟨us', by rw [rep_bool h1], h2⟩
theorem lc_sl {us : List Value} {k : Nat} {r : List (List AC)} {cs : List AC} (h : RepL p w us (.sl k r :: cs)) : ∃ A c us', us = .slice A r.length c :: us' ∧ RepL p w us' cs := by
  obtain ⟨u, us', rfl, h1, h2⟩ := repL_cons h
  obtain ⟨A, c, e⟩ := rep_sl h1
  exact ⟨A, c, us', by rw [e], h2⟩
theorem ld_int {us : List Value} {n : Int} {cs : List AC} (h : RepL p w us (.int n :: cs)) : ∃ us', us = .int .i64 n :: us' ∧ Rep p w (.int .i64 n) (.int n) ∧ RepL p w us' cs := by
  obtain ⟨us', e, h⟩ := lc_int h
  exact ⟨us', e, .int n, h⟩
theorem ld_bool {us : List Value} {n : Bool} {cs : List AC} (h : RepL p w us (.bool n :: cs)) : ∃ us', us = .bool n :: us' ∧ Rep p w (.bool n) (.bool n) ∧ RepL p w us' cs := by
  obtain ⟨us', e, h⟩ := lc_bool h
  exact ⟨us', e, .bool n, h⟩
theorem ld_sl {us : List Value} {k : Nat} {r : List (List AC)} {cs : List AC} (h : RepL p w us (.sl k r :: cs)) : ∃ A c us', us = .slice A r.length c :: us' ∧ Rep p w (.slice A r.length c) (.sl k r) ∧ RepL p w us' cs := by
  obtain ⟨u, us', rfl, h1, h2⟩ := repL_cons h
  obtain ⟨A, c, rfl⟩ := rep_sl h1
  exact ⟨A, c, us', rfl, h1, h2⟩
theorem cellsOf_succ (k m : Nat) (V : Nat → Nat → Value) (hk : 0 < k) : cellsOf k (m + 1) V = cellsOf k m V ++ (List.range k).map (V m) := by
  unfold cellsOf
  rw [Nat.succ_mul, List.range_add, List.map_append, List.map_map]
  congr 1
  refine List.map_congr_left fun j hj => ?_
  rw [List.mem_range] at hj
  simp only [Function.comp]
  rw [Nat.mul_comm m k, Nat.mul_add_div hk, Nat.div_eq_of_lt hj, Nat.add_zero, Nat.mul_add_mod, Nat.mod_eq_of_lt hj]
theorem cellsOf_congr {k m : Nat} {V V' : Nat → Nat → Value} (h : ∀ i j, i < m → V i j = V' i j) : cellsOf k m V = cellsOf k m V' := by
  unfold cellsOf
  refine List.map_congr_left fun x hx => ?_
  rw [List.mem_range] at hx
  refine h _ _ ?_
  have hk : 0 < k := by
    rcases Nat.eq_zero_or_pos k with e | e
    · subst e; omega
    · exact e
  exact (Nat.div_lt_iff_lt_mul hk).2 hx
theorem flat_succ {rs : List (List AC)} {k : Nat} (h : k < rs.length) : (rs.take (k + 1)).flatten = (rs.take k).flatten ++ rs.getD k [] := by
  rw [List.take_succ_eq_append_getElem h, List.flatten_append]
  simp [List.getD, h]
theorem evo_grown (hg : w.grownBy w' none) : Evo (fun _ => False) p w p w' :=
  ⟨hg.os, hg.tape, hg.output, hg.size, fun b hb _ => hg.block b hb (by simp), fun _ _ => Nat.le_refl _, fun _ _ _ => rfl, fun b o hb _ => World.cell?_of_block (w := w) (hg.block b hb (by simp))⟩
theorem evo_raise {n b : Nat} (h0 : p b = 0) : Evo (· = b) p w (upP p b n) w :=
  ⟨rfl, rfl, rfl, Nat.le_refl _, fun _ _ _ => rfl, fun x _ => (by
    unfold upP
    split
    · rename_i e; subst e; omega
    · exact Nat.le_refl _), fun x _ hx => upP_ne hx, fun _ _ _ _ => rfl⟩
/-- A row that is filled whole reads as its rows. -/
theorem fill_rep {g k n : Nat} {T : TypeId} {V : Nat → Nat → Value} {Z : Nat → Value} {rs : List (List AC)} (hF : Fill w g k n n T V Z) (hk : 0 < k) (hn : rs.length = n) (hrs : ∀ r ∈ rs, r.length = k) (hg : g < w.heap.size) (h0 : q g = 0) (hr : RepL q w (cellsOf k n V) rs.flatten) :
    Rep (upP q g (n * k)) w (.slice (some ⟨g, 0, none⟩) n n) (.sl k rs) := by
  obtain ⟨a, h1, h2⟩ := hF
  rw [part_done] at h2
  have := rep_row (p := upP q g (n * k)) (w := w) (b := g) (o := 0) (cap := n) (k := k) (rows := rs) (us := cellsOf k n V) hk hrs hg (by rw [hn]; simp [upP]) (by omega) (hr.evo (evo_raise h0)) (fun j u hj => by
    rw [cell_of_block h1, Nat.zero_add, ← hj, ← h2]
    simp)
  rw [hn] at this
  exact this
theorem ext_map {call : Orc} {m : MapE} {args : List SV} {r : AV} (h : extRun call (.map m) args = some r) :
    ∃ rows rs, args = [.cell (.sl m.sh.length rows)] ∧ rows.length ≤ 1048576 ∧ (∀ x ∈ rows, shOk m.sh x = true) ∧ rowsE call m rows = some rs ∧ r = .v (.cell (.sl m.sh'.length rs)) := by
  unfold extRun at h
  simp only at h
  split at h
  · rename_i k rows
    split at h
    · rename_i hc
      simp only [Option.map_eq_some_iff] at h
      obtain ⟨rs, h1, rfl⟩ := h
      obtain ⟨rfl, h2, h3⟩ := hc
      exact ⟨rows, rs, rfl, h2, fun x hx => List.all_eq_true.1 h3 x hx, h1, rfl⟩
    · cases h
  · cases h
theorem rowsE_get {call : Orc} {m : MapE} : ∀ {rows rs : List (List AC)}, rowsE call m rows = some rs → rs.length = rows.length ∧ ∀ i, i < rows.length → rowE call m (rows.getD i []) = some (rs.getD i [])
  | [], rs, h => by cases h; exact ⟨rfl, fun i hi => by simp at hi⟩
  | r :: rows, rs, h => by
    simp only [rowsE, Option.bind_eq_some_iff, Option.map_eq_some_iff] at h
    obtain ⟨x, h1, ys, h2, rfl⟩ := h
    obtain ⟨h3, h4⟩ := rowsE_get h2
    refine ⟨by simp [h3], fun i hi => ?_⟩
    cases i with
    | zero => simpa using h1
    | succ i => simpa using h4 i (by simpa using hi)
theorem rowE_call {call : Orc} {m : MapE} {g : Nat} (hg : m.g = some g) {r x : List AC} (h : rowE call m r = some x) : ∃ y, call g [mkS m.agg r] = some (.v y) ∧ shOk m.sh' y.cells = true ∧ aggS y = m.agg' ∧ x = y.cells := by
  unfold rowE at h
  rw [hg] at h
  simp only [Option.bind_eq_some_iff] at h
  obtain ⟨a, h1, h2⟩ := h
  split at h2
  · rename_i y
    split at h2
    · rename_i hc
      cases h2
      exact ⟨y, h1, hc.1, hc.2, rfl⟩
    · cases h2
  · cases h2
/-- What is asked of the walk over a copy. -/
theorem map_ok {S : Sig} {call : Orc} {m : MapE} {f : FuncId} {fn : Func} (hf : P.funcs[f]? = some fn) (h1 : fn.body.isSome = true) (h2 : (fn.name == "runtime.NumGoroutine") = false) (hsg : S.sg f = ⟨[], []⟩)
    (walk : ∀ (p : Nat → Nat) (w : World) (A : Option Addr) (c : Nat) (rows rs : List (List AC)), Rep p w (.slice A rows.length c) (.sl m.sh.length rows) → Zp p w → rows.length ≤ 1048576 → Hid (∀ i, i < rows.length → shOk m.sh (rows.getD i []) = true) →
      Hid (∀ i, i < rows.length → rowE call m (rows.getD i []) = some (rs.getD i [])) → rs.length = rows.length →
      Calls P f #[.slice A rows.length c] w fun e w' => ∃ v, e = .returned v ∧ ∃ p', Rep p' w' v (.sl m.sh'.length rs) ∧ Evo (fun _ => False) p w p' w' ∧ Zp p' w') : CallOk1 P S f (extRun call (.map m)) := by
  intro args r h
  obtain ⟨rows, rs, rfl, hl, hsh, hrs, rfl⟩ := ext_map h
  refine ⟨⟨rfl, fn, hf, h1, h2⟩, fun p w vals hreps hz _ _ => ?_⟩
  match vals, hreps with
  | [v], ⟨hrep, _⟩ =>
    have hrep : Rep p w v (.sl m.sh.length rows) := hrep
    obtain ⟨A, c, rfl⟩ := rep_sl hrep
    obtain ⟨k1, k2⟩ := rowsE_get hrs
    refine (walk p w A c rows rs hrep hz hl (fun i hi => hsh _ (by simp [List.getD, List.getElem?_eq_getElem hi])) k2 k1).mono ?_
    rintro e w' ⟨v, rfl, p', g1, g2, g3⟩
    rw [hsg]
    exact ⟨v, rfl, p', g1, fun cs => (by simp), (by simp), g2.weaken (fun b _ h => h.elim), g3, fun e he => (by cases he), fun e e' u u' b he => (by cases he)⟩
end
/-- One group of 6 cells more is stored. -/
theorem Fill.six {w : World} {g n m : Nat} {T : TypeId} {V : Nat → Nat → Value} {Z : Nat → Value} (h : Fill w g 6 n m T V Z) {u0 u1 u2 u3 u4 u5 : Value} (h0 : V m 0 = u0) (h1 : V m 1 = u1) (h2 : V m 2 = u2) (h3 : V m 3 = u3) (h4 : V m 4 = u4) (h5 : V m 5 = u5) :
    Fill ((((((w.setCell ⟨g, m * 6, none⟩ u0).setCell ⟨g, m * 6 + 1, none⟩ u1).setCell ⟨g, m * 6 + 2, none⟩ u2).setCell ⟨g, m * 6 + 3, none⟩ u3).setCell ⟨g, m * 6 + 4, none⟩ u4).setCell ⟨g, m * 6 + 5, none⟩ u5) g 6 n (m + 1) T V Z := by
  obtain ⟨a, e1, e2⟩ := h
  refine ⟨((((((a.setIfInBounds (m * 6) u0).setIfInBounds (m * 6 + 1) u1).setIfInBounds (m * 6 + 2) u2).setIfInBounds (m * 6 + 3) u3).setIfInBounds (m * 6 + 4) u4).setIfInBounds (m * 6 + 5) u5), (heap_setCell_same _ g _ _ T u5 (heap_setCell_same _ g _ _ T u4 (heap_setCell_same _ g _ _ T u3 (heap_setCell_same _ g _ _ T u2 (heap_setCell_same _ g _ _ T u1 (heap_setCell_same _ g _ _ T u0 e1)))))), ?_⟩
  rw [Array.toList_setIfInBounds, Array.toList_setIfInBounds, Array.toList_setIfInBounds, Array.toList_setIfInBounds, Array.toList_setIfInBounds, Array.toList_setIfInBounds, e2]
  have hlen : (part 6 n m V Z).length = n * 6 := length_part _ _ _ _ _
  apply List.ext_getElem?
  intro x
  by_cases hx : x < n * 6
  · have d1 : x / 6 < n := by omega
    have d2 : x % 6 < 6 := by omega
    have d3 : x / 6 * 6 + x % 6 = x := by omega
    have e1 := cellsOf_at (k := 6) (m := n) (i := x / 6) (j := x % 6) (fun i j => if i < m + 1 then V i j else Z j) d1 d2
    have e0 := cellsOf_at (k := 6) (m := n) (i := x / 6) (j := x % 6) (fun i j => if i < m then V i j else Z j) d1 d2
    rw [d3] at e1 e0
    unfold part at hlen ⊢
    rw [e1, List.getElem?_set, List.getElem?_set, List.getElem?_set, List.getElem?_set, List.getElem?_set, List.getElem?_set, List.length_set, List.length_set, List.length_set, List.length_set, List.length_set, hlen, e0]
    by_cases c5 : m * 6 + 5 = x
    · rw [if_pos c5, if_pos (by omega), show x / 6 = m by omega, show x % 6 = 5 by omega, if_pos (by omega), h5]
    · rw [if_neg c5]
      by_cases c4 : m * 6 + 4 = x
      · rw [if_pos c4, if_pos (by omega), show x / 6 = m by omega, show x % 6 = 4 by omega, if_pos (by omega), h4]
      · rw [if_neg c4]
        by_cases c3 : m * 6 + 3 = x
        · rw [if_pos c3, if_pos (by omega), show x / 6 = m by omega, show x % 6 = 3 by omega, if_pos (by omega), h3]
        · rw [if_neg c3]
          by_cases c2 : m * 6 + 2 = x
          · rw [if_pos c2, if_pos (by omega), show x / 6 = m by omega, show x % 6 = 2 by omega, if_pos (by omega), h2]
          · rw [if_neg c2]
            by_cases c1 : m * 6 + 1 = x
            · rw [if_pos c1, if_pos (by omega), show x / 6 = m by omega, show x % 6 = 1 by omega, if_pos (by omega), h1]
            · rw [if_neg c1]
              by_cases c0 : m * 6 = x
              · rw [if_pos c0, if_pos (by omega), show x / 6 = m by omega, show x % 6 = 0 by omega, if_pos (by omega), h0]
              · rw [if_neg c0]
                by_cases h3 : x / 6 < m
                · rw [if_pos h3, if_pos (by omega)]
                · rw [if_neg h3, if_neg (by omega)]
  · rw [List.getElem?_eq_none (by simp only [List.length_set, length_part]; omega), List.getElem?_eq_none (by rw [length_part]; omega)]
end Go.Proofs.Ytoljlooeiljpfaa

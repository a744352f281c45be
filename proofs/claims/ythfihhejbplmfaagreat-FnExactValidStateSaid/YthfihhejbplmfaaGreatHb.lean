/- Heaps, as a model; words, live cells, valid cells. How many fields point to each cell. -/
import Derived.Test.YthfihhejbplmfaaGreatPa
import Derived.Test.YthfihhejbplmfaaGreatLf
set_option linter.unusedVariables false
set_option linter.unusedSimpArgs false
namespace Go.Proofs.YthfihhejbplmfaaGreat
open Go
structure HM where
  c : Int
  t : Int
  fs : List Int
def cellC (m : HM) : List AC := [.int m.c, .int m.t, .sl 1 (intsC m.fs)]
def heapC (H : List HM) : List (List AC) := H.map cellC
def gH (H : List HM) (k : Nat) : HM := H.getD k ⟨0, 0, []⟩
structure HOk (H : List HM) : Prop where
  len : H.length ≤ 1048576
  tot : (H.flatMap fun m => m.fs).length ≤ 1048576
  all : ∀ m ∈ H, inI m.c ∧ inI m.t ∧ IntsOk m.fs
abbrev oB (b : Bool) : Option AV := some (.v (.cell (.bool b)))
abbrev oI (n : Int) : Option AV := some (.v (.cell (.int n)))
abbrev oS (l : List (List AC)) : Option AV := some (.v (.cell (.sl 1 l)))
theorem heapC_len (H : List HM) : (heapC H).length = H.length := by simp [heapC]
theorem heapC_get {H : List HM} {k : Nat} (h : k < H.length) : (heapC H).getD k [] = cellC (gH H k) := by simp [heapC, gH, List.getD, h]
theorem gH_mem {H : List HM} {k : Nat} (h : k < H.length) : gH H k ∈ H := by simp [gH, List.getD, h]
theorem gH_eq {H : List HM} {k : Nat} (h : k < H.length) : gH H k = H[k] := by simp [gH, List.getD, h]
theorem heap_of {rows : List (List AC)} (h : ∀ r ∈ rows, Fit .cell r) : ∃ H : List HM, rows = heapC H ∧ ∀ m ∈ H, inI m.c ∧ inI m.t ∧ IntsOk m.fs := by
  induction rows with
  | nil => exact ⟨[], rfl, fun m h => by cases h⟩
  | cons r rows ih =>
    obtain ⟨H, rfl, hH⟩ := ih fun x hx => h x (List.mem_cons_of_mem _ hx)
    have hr := h r List.mem_cons_self
    cases hr with
    | cell c t fs hc ht hf =>
      refine ⟨⟨c, t, fs⟩ :: H, rfl, fun m hm => ?_⟩
      rcases List.mem_cons.1 hm with rfl | hm
      · exact ⟨hc, ht, hf⟩
      · exact hH m hm
theorem heap_size (H : List HM) : rsS (heapC H) = (H.flatMap fun m => m.fs).length := by
  induction H with
  | nil => exact rsS_nil
  | cons m H ih =>
    show rsS (cellC m :: heapC H) = _
    rw [rsS_cons, ih, cellC, cS_int, cS_int, cS_sl, cS_nil, rsS_ints, intsC_len]
    simp
section
variable {ρ : Type} {r : ρ}
theorem atCellH {H : List HM} {k : Nat} (h : k < H.length) {K : Fn (Option ρ) [.int 0, .int 0, .sl 1 []]} (h2 : (K : Int → Int → List (List AC) → Option ρ) (gH H k).c (gH H k).t (intsC (gH H k).fs) = some r) : atR_ (heapC H) (k : Int) [.int 0, .int 0, .sl 1 []] K = some r :=
  atDecl (by rw [heapC_len]; exact h) (heapC_get h) h2
end
/-! Words. -/
def isInt (n : Int) : Bool := decide (-999 ≤ n) && decide (n ≤ 999)
def liveI (H : List HM) (i : Int) : Bool := decide (0 ≤ i) && decide (i < H.length) && decide (0 < (gH H i.toNat).c)
def liveW (H : List HM) (w : Int) : Bool := decide (1000 ≤ w) && liveI H (w - 1000)
def wordH (H : List HM) (w : Int) : Bool := isInt w || liveW H w
def cw (n : Int) : Int := if n < 1000 then -1 else n - 1000
theorem i_inIntsH (n : Int) : impl_inInts [.cell (.int n)] = oB (isInt n) := by
  unfold isInt
  by_cases h : -999 ≤ n
  · exact impl_inInts_le (bifT (decide_eq_true (by omega)) (by rw [decide_eq_true h]; rfl))
  · exact impl_inInts_le (bifF (decide_eq_false (by omega)) (by rw [decide_eq_false h]; rfl))
theorem i_cellOfWord {n : Int} (hn : inI n) : impl_cellOfWord [.cell (.int n)] = oI (cw n) := by
  unfold cw
  by_cases h : n < 1000
  · rw [if_pos h]
    exact impl_cellOfWord_le (bifT (decide_eq_true h) rfl)
  · rw [if_neg h]
    exact impl_cellOfWord_le (bifF (decide_eq_false h) (by rw [wr (by omega) (by have := hn.2; omega)]))
theorem i_isLive {H : List HM} (i : Int) : impl_isLive [.cell (.sl 3 (heapC H)), .cell (.int i)] = oB (liveI H i) := by
  unfold liveI
  by_cases h0 : 0 ≤ i
  · by_cases h1 : i < H.length
    · obtain ⟨k, rfl⟩ := Int.eq_ofNat_of_zero_le h0
      refine impl_isLive_le (bifT (decide_eq_true h0) (bifT (decide_eq_true (by rw [heapC_len]; exact h1)) (atCellH (by omega) ?_)))
      rw [decide_eq_true h0, decide_eq_true h1]
      rfl
    · refine impl_isLive_le (bifT (decide_eq_true h0) (bifF (decide_eq_false (by rw [heapC_len]; exact h1)) ?_))
      rw [decide_eq_true h0, decide_eq_false h1]
      rfl
  · refine impl_isLive_le (bifF (decide_eq_false h0) ?_)
    rw [decide_eq_false h0]
    rfl
theorem live_cw (H : List HM) (n : Int) : liveI H (cw n) = liveW H n := by
  unfold cw liveW
  by_cases h : n < 1000
  · rw [if_pos h, decide_eq_false (show ¬ 1000 ≤ n by omega)]
    rfl
  · rw [if_neg h, decide_eq_true (show 1000 ≤ n by omega)]
    rfl
theorem i_isWord {H : List HM} {n : Int} (hn : inI n) : impl_isWord [.cell (.sl 3 (heapC H)), .cell (.int n)] = oB (wordH H n) := by
  unfold wordH
  refine impl_isWord_le (callB (i_inIntsH n) ?_)
  rcases isInt n with _ | _
  · refine bifF rfl (callI (i_cellOfWord hn) (callB (i_isLive _) ?_))
    rw [live_cw]
    rfl
  · exact bifT rfl rfl
theorem s_inRangeH (n a b : Int) : spec_inRange [.cell (.int n), .cell (.int a), .cell (.int b)] = oB (decide (a ≤ n) && decide (n ≤ b)) := by
  by_cases h : a ≤ n
  · exact spec_inRange_le (bifT (decide_eq_true h) (by rw [decide_eq_true h]; rfl))
  · exact spec_inRange_le (bifF (decide_eq_false h) (by rw [decide_eq_false h]; rfl))
theorem s_isPointer (n : Int) : spec_isPointer [.cell (.int n)] = oB (decide (1000 ≤ n)) := spec_isPointer_le rfl
theorem s_isLive {H : List HM} (hl : H.length ≤ 1048576) {n : Int} (hn : inI n) : spec_isLive [.cell (.sl 3 (heapC H)), .cell (.int n)] = oB (liveW H n) := by
  have e : wrapI (((heapC H).length : Nat) - 1 : Int) = H.length - 1 := by rw [heapC_len]; exact wr (by omega) (by omega)
  obtain ⟨n1, n2⟩ := hn
  refine spec_isLive_le ?_
  rw [e]
  refine callB (s_inRangeH _ _ _) ?_
  by_cases hp : 1000 ≤ n
  · rw [wr (n := n - 1000) (by omega) (by omega)]
    unfold liveW liveI
    rw [decide_eq_true hp, decide_eq_true (show 0 ≤ n - 1000 by omega)]
    by_cases h1 : n - 1000 < H.length
    · rw [decide_eq_true h1, decide_eq_true (show n - 1000 ≤ (H.length : Int) - 1 by omega)]
      obtain ⟨k, hk⟩ := Int.eq_ofNat_of_zero_le (show 0 ≤ n - 1000 by omega)
      refine bifT rfl (callB (s_isPointer n) (bifT (decide_eq_true hp) ?_))
      rw [hk]
      refine atCellH (by omega) ?_
      rfl
    · rw [decide_eq_false h1, decide_eq_false (show ¬ n - 1000 ≤ (H.length : Int) - 1 by omega)]
      exact bifF rfl rfl
  · have hf : (decide (0 ≤ wrapI (n - 1000)) && decide (wrapI (n - 1000) ≤ (H.length : Int) - 1)) = false := by
      by_cases hb : -9223372036854775808 ≤ n - 1000
      · rw [wr hb (by omega), decide_eq_false (show ¬ 0 ≤ n - 1000 by omega)]
        rfl
      · have hw : wrapI (n - 1000) = n - 1000 + 18446744073709551616 := by
          unfold wrapI
          rw [IntKind.wrap_i64]
          omega
        rw [hw, decide_eq_false (show ¬ n - 1000 + 18446744073709551616 ≤ (H.length : Int) - 1 by omega), Bool.and_false]
    refine bifF hf ?_
    unfold liveW
    rw [decide_eq_false hp]
    rfl
theorem s_isWord {H : List HM} (hl : H.length ≤ 1048576) {n : Int} (hn : inI n) : spec_isWord [.cell (.sl 3 (heapC H)), .cell (.int n)] = oB (wordH H n) := by
  unfold wordH
  refine spec_isWord_le (callB (s_inRangeH _ _ _) ?_)
  rw [show (decide (-999 ≤ n) && decide (n ≤ 999)) = isInt n from rfl]
  rcases isInt n with _ | _
  · exact bifF rfl (callB (s_isLive hl hn) rfl)
  · exact bifT rfl rfl
/-! Lists of numbers. -/
theorem all_drop1 {α : Type} {xs : List α} {k : Nat} (h : k < xs.length) (f : α → Bool) : (xs.drop k).all f = (f xs[k] && (xs.drop (k + 1)).all f) := by
  rw [List.drop_eq_getElem_cons h, List.all_cons]
theorem i_areWords {H : List HM} {fs : List Int} (hf : IntsOk fs) : impl_areWords [.cell (.sl 3 (heapC H)), .cell (.sl 1 (intsC fs))] = oB (fs.all (wordH H)) := by
  have key : ∀ m k : Nat, k + m = fs.length → impl_areWords_L0 (heapC H) (intsC fs) (((intsC fs).length : Nat) : Int) (k : Int) = oB ((fs.drop k).all (wordH H)) := by
    intro m
    induction m with
    | zero =>
      intro k hk
      rw [List.drop_eq_nil_of_le (by omega)]
      exact impl_areWords_L0_le (bifF (decide_eq_false (by rw [intsC_len]; omega)) rfl)
    | succ m ih =>
      intro k hk
      have hlt : k < fs.length := by omega
      rw [all_drop1 hlt]
      refine impl_areWords_L0_le (bifT (decide_eq_true (by rw [intsC_len]; omega)) (atNum hlt (callB (i_isWord (hf.all _ (List.getElem_mem hlt))) ?_)))
      rcases wordH H fs[k] with _ | _
      · exact bifT rfl rfl
      · rw [wrk (by have := hf.len; omega)]
        exact bifF rfl (ih (k + 1) (by omega))
  exact impl_areWords_le (key fs.length 0 (by omega))
theorem i_hasZero (n : Int) : impl_hasInt [.cell (.sl 1 [[.int 0]]), .cell (.int n)] = oB (n == 0) := by
  have h0 : impl_hasInt_L0 n (intsC [0]) (((intsC [0]).length : Nat) : Int) (0 : Nat) = oB (n == 0) := by
    refine impl_hasInt_L0_le (bifT (decide_eq_true (by rw [intsC_len]; decide)) (atNum (by decide) ?_))
    by_cases h : n = 0
    · subst h
      exact bifT rfl rfl
    · refine bifF (by simpa using Ne.symm h) ?_
      rw [show wrapI (((0 : Nat) : Int) + 1) = ((1 : Nat) : Int) from wrk (by unfold maxI; omega), show (n == 0) = false by simpa using h]
      exact impl_hasInt_L0_le (bifF (decide_eq_false (by rw [intsC_len]; decide)) rfl)
  exact impl_hasInt_le h0
theorem i_allZero {fs : List Int} (hf : IntsOk fs) : impl_allIn [.cell (.sl 1 (intsC fs)), .cell (.sl 1 [[.int 0]])] = oB (fs.all (· == 0)) := by
  have key : ∀ m k : Nat, k + m = fs.length → impl_allIn_L0 [[.int 0]] (intsC fs) (((intsC fs).length : Nat) : Int) (k : Int) = oB ((fs.drop k).all (· == 0)) := by
    intro m
    induction m with
    | zero =>
      intro k hk
      rw [List.drop_eq_nil_of_le (by omega)]
      exact impl_allIn_L0_le (bifF (decide_eq_false (by rw [intsC_len]; omega)) rfl)
    | succ m ih =>
      intro k hk
      have hlt : k < fs.length := by omega
      rw [all_drop1 hlt]
      refine impl_allIn_L0_le (bifT (decide_eq_true (by rw [intsC_len]; omega)) (atNum hlt (callB (i_hasZero _) ?_)))
      rcases (fs[k] == 0) with _ | _
      · exact bifT rfl rfl
      · rw [wrk (by have := hf.len; omega)]
        exact bifF rfl (ih (k + 1) (by omega))
  exact impl_allIn_le (key fs.length 0 (by omega))
theorem s_allZero {fs : List Int} (hf : IntsOk fs) : spec_allZero [.cell (.sl 1 (intsC fs))] = oB (fs.all (· == 0)) := by
  have key : ∀ m k : Nat, k + m = fs.length → spec_allZero_L0 (intsC fs) (k : Int) = oB ((fs.drop k).all (· == 0)) := by
    intro m
    induction m with
    | zero =>
      intro k hk
      rw [List.drop_eq_nil_of_le (by omega)]
      exact spec_allZero_L0_le (bifF (decide_eq_false (by rw [intsC_len]; omega)) rfl)
    | succ m ih =>
      intro k hk
      have hlt : k < fs.length := by omega
      rw [all_drop1 hlt]
      refine spec_allZero_L0_le (bifT (decide_eq_true (by rw [intsC_len]; omega)) (atNum hlt ?_))
      by_cases h : fs[k] = 0
      · rw [h]
        refine bifF rfl ?_
        rw [wrk (by have := hf.len; omega)]
        exact ih (k + 1) (by omega)
      · refine bifT (by simpa using h) ?_
        rw [show (fs[k] == 0) = false by simpa using h]
        rfl
  exact spec_allZero_le (key fs.length 0 (by omega))
/-! Valid cells. -/
def vc (H : List HM) (m : HM) : Bool :=
  decide (m.fs.length ≤ 3) && (if m.c = 0 then m.t == 0 && (m.fs.length == 0) else if m.c = -1 then m.t == 0 && m.fs.all (· == 0) else
    decide (0 < m.c) && decide (m.c ≤ 999999) && decide (0 ≤ m.t) && decide (m.t ≤ 99) && m.fs.all (wordH H))
theorem len_eq0 (n : Nat) : ((n : Int) == 0) = (n == 0) := by
  cases n with
  | zero => rfl
  | succ n => rw [show (((n + 1 : Nat) : Int) == 0) = false by simp; omega]; rfl
theorem i_validCell {H : List HM} {m : HM} (hf : IntsOk m.fs) : impl_validCell [.cell (.sl 3 (heapC H)), .agg [.int m.c, .int m.t, .sl 1 (intsC m.fs)]] = oB (vc H m) := by
  unfold vc
  by_cases h3 : m.fs.length ≤ 3
  rotate_left
  · rw [decide_eq_false h3]
    exact impl_validCell_le (bifT (decide_eq_true (by rw [intsC_len]; omega)) rfl)
  rw [decide_eq_true h3, Bool.true_and]
  have l3 : decide ((((intsC m.fs).length : Nat) : Int) > 3) = false := decide_eq_false (by rw [intsC_len]; omega)
  by_cases h0 : m.c = 0
  · rw [if_pos h0]
    by_cases ht : m.t = 0
    · refine impl_validCell_le (bifF l3 (bifT (by simpa using h0) (bifT (by simpa using ht) ?_)))
      rw [intsC_len, len_eq0, show (m.t == 0) = true by simpa using ht]
      rfl
    · refine impl_validCell_le (bifF l3 (bifT (by simpa using h0) (bifF (by simpa using ht) ?_)))
      rw [show (m.t == 0) = false by simpa using ht]
      rfl
  rw [if_neg h0]
  by_cases h1 : m.c = -1
  · rw [if_pos h1]
    by_cases ht : m.t = 0
    · refine impl_validCell_le (bifF l3 (bifF (by simpa using h0) (bifT (by simpa using h1) (bifT (by simpa using ht) (callB (i_allZero hf) ?_)))))
      rw [show (m.t == 0) = true by simpa using ht]
      rfl
    · refine impl_validCell_le (bifF l3 (bifF (by simpa using h0) (bifT (by simpa using h1) (bifF (by simpa using ht) ?_))))
      rw [show (m.t == 0) = false by simpa using ht]
      rfl
  rw [if_neg h1]
  by_cases a : 0 < m.c
  rotate_left
  · rw [decide_eq_false a]
    exact impl_validCell_le (bifF l3 (bifF (by simpa using h0) (bifF (by simpa using h1) (bifF (decide_eq_false a) rfl))))
  rw [decide_eq_true a]
  by_cases b : m.c ≤ 999999
  rotate_left
  · rw [decide_eq_false b]
    exact impl_validCell_le (bifF l3 (bifF (by simpa using h0) (bifF (by simpa using h1) (bifT (decide_eq_true a) (bifF (decide_eq_false b) rfl)))))
  rw [decide_eq_true b]
  by_cases c : 0 ≤ m.t
  rotate_left
  · rw [decide_eq_false c]
    exact impl_validCell_le (bifF l3 (bifF (by simpa using h0) (bifF (by simpa using h1) (bifT (decide_eq_true a) (bifT (decide_eq_true b) (bifF (decide_eq_false c) rfl))))))
  rw [decide_eq_true c]
  by_cases d : m.t ≤ 99
  rotate_left
  · rw [decide_eq_false d]
    exact impl_validCell_le (bifF l3 (bifF (by simpa using h0) (bifF (by simpa using h1) (bifT (decide_eq_true a) (bifT (decide_eq_true b) (bifT (decide_eq_true c) (bifF (decide_eq_false d) rfl)))))))
  rw [decide_eq_true d]
  exact impl_validCell_le (bifF l3 (bifF (by simpa using h0) (bifF (by simpa using h1) (bifT (decide_eq_true a) (bifT (decide_eq_true b) (bifT (decide_eq_true c) (bifT (decide_eq_true d) (callB (i_areWords hf) rfl))))))))
theorem s_validCell {H : List HM} (hl : H.length ≤ 1048576) {m : HM} (hf : IntsOk m.fs) : spec_validCell [.cell (.sl 3 (heapC H)), .agg [.int m.c, .int m.t, .sl 1 (intsC m.fs)]] = oB (vc H m) := by
  unfold vc
  by_cases h3 : m.fs.length ≤ 3
  rotate_left
  · rw [decide_eq_false h3]
    exact spec_validCell_le (bifT (decide_eq_true (by rw [intsC_len]; omega)) rfl)
  rw [decide_eq_true h3, Bool.true_and]
  have l3 : decide ((((intsC m.fs).length : Nat) : Int) > 3) = false := decide_eq_false (by rw [intsC_len]; omega)
  by_cases h0 : m.c = 0
  · rw [if_pos h0]
    have hr : spec_inRange [.cell (.int m.c), .cell (.int (-1)), .cell (.int 999999)] = oB true := by rw [s_inRangeH, h0]; rfl
    have hlt : decide (m.c < 1) = true := decide_eq_true (by omega)
    by_cases ht : m.t = 0
    · rw [show (m.t == 0) = true by simpa using ht, Bool.true_and]
      rcases hz : m.fs.all (· == 0) with _ | _
      · refine spec_validCell_le (bifF l3 (callB hr (bifF rfl (bifT hlt (bifT (by simpa using ht) (callB ((s_allZero hf).trans (by rw [hz])) (bifF rfl ?_)))))))
        have : (m.fs.length == 0) = false := by
          rcases hq : m.fs with _ | ⟨x, xs⟩
          · rw [hq] at hz; cases hz
          · rfl
        rw [this]
      · refine spec_validCell_le (bifF l3 (callB hr (bifF rfl (bifT hlt (bifT (by simpa using ht) (callB ((s_allZero hf).trans (by rw [hz])) (bifT rfl (bifF (decide_eq_false (by omega)) ?_))))))))
        rw [intsC_len, len_eq0]
    · rw [show (m.t == 0) = false by simpa using ht]
      exact spec_validCell_le (bifF l3 (callB hr (bifF rfl (bifT hlt (bifF (by simpa using ht) rfl)))))
  rw [if_neg h0]
  by_cases h1 : m.c = -1
  · rw [if_pos h1]
    have hr : spec_inRange [.cell (.int m.c), .cell (.int (-1)), .cell (.int 999999)] = oB true := by rw [s_inRangeH, h1]; rfl
    have hlt : decide (m.c < 1) = true := decide_eq_true (by omega)
    by_cases ht : m.t = 0
    · rw [show (m.t == 0) = true by simpa using ht, Bool.true_and]
      refine spec_validCell_le (bifF l3 (callB hr (bifF rfl (bifT hlt (bifT (by simpa using ht) (callB (s_allZero hf) ?_))))))
      rcases m.fs.all (· == 0) with _ | _
      · exact bifF rfl rfl
      · exact bifT rfl (bifT (decide_eq_true (by omega)) rfl)
    · rw [show (m.t == 0) = false by simpa using ht]
      exact spec_validCell_le (bifF l3 (callB hr (bifF rfl (bifT hlt (bifF (by simpa using ht) rfl)))))
  rw [if_neg h1]
  have hr := s_inRangeH m.c (-1) 999999
  by_cases a : 0 < m.c ∧ m.c ≤ 999999
  rotate_left
  · have : (decide (-1 ≤ m.c) && decide (m.c ≤ 999999)) = false := by
      rw [Bool.and_eq_false_iff]
      by_cases h : -1 ≤ m.c
      · right; exact decide_eq_false (by omega)
      · left; exact decide_eq_false h
    rw [this] at hr
    have e : (decide (0 < m.c) && decide (m.c ≤ 999999)) = false := by
      rw [Bool.and_eq_false_iff]
      by_cases h : 0 < m.c
      · right; exact decide_eq_false (by omega)
      · left; exact decide_eq_false h
    rw [e]
    exact spec_validCell_le (bifF l3 (callB hr (bifT rfl rfl)))
  rw [decide_eq_true a.1, decide_eq_true a.2]
  rw [decide_eq_true (show -1 ≤ m.c by omega), decide_eq_true a.2] at hr
  have key : ∀ q k : Nat, k + q = m.fs.length → spec_validCell_L0 (heapC H) m.c m.t (intsC m.fs) (k : Int) = oB ((decide (0 ≤ m.t) && decide (m.t ≤ 99)) && (m.fs.drop k).all (wordH H)) := by
    intro q
    induction q with
    | zero =>
      intro k hk
      rw [List.drop_eq_nil_of_le (by omega)]
      refine spec_validCell_L0_le (bifF (decide_eq_false (by rw [intsC_len]; omega)) (callB (s_inRangeH _ _ _) ?_))
      rw [List.all_nil, Bool.and_true]
    | succ q ih =>
      intro k hk
      have hlt : k < m.fs.length := by omega
      rw [all_drop1 hlt]
      refine spec_validCell_L0_le (bifT (decide_eq_true (by rw [intsC_len]; omega)) (atNum hlt (callB (s_isWord hl (hf.all _ (List.getElem_mem hlt))) ?_)))
      rcases wordH H m.fs[k] with _ | _
      · exact bifT rfl (by simp)
      · rw [wrk (by have := hf.len; omega)]
        exact bifF rfl (ih (k + 1) (by omega))
  refine spec_validCell_le (bifF l3 (callB hr (bifF rfl (bifF (decide_eq_false (by omega)) ?_))))
  have := key m.fs.length 0 (by omega)
  rw [List.drop_zero] at this
  simpa using this
end Go.Proofs.YthfihhejbplmfaaGreat

set_option linter.unusedVariables false
set_option linter.unusedSimpArgs false
namespace Go.Proofs.YthfihhejbplmfaaGreat
open Go
def FOk (H : List HM) : Prop := ∀ m ∈ H, ∀ w ∈ m.fs, inI w ∧ (w < 1000 ∨ liveW H w = true)
theorem live_range {H : List HM} {w : Int} (h : liveW H w = true) : ∃ j : Nat, w = 1000 + (j : Int) ∧ j < H.length := by
  unfold liveW liveI at h
  simp only [Bool.and_eq_true, decide_eq_true_eq] at h
  obtain ⟨h0, ⟨h1, h2⟩, _⟩ := h
  exact ⟨(w - 1000).toNat, by omega, by omega⟩
theorem vc_fok {H : List HM} (hH : ∀ m ∈ H, IntsOk m.fs) (h : ∀ m ∈ H, vc H m = true) : FOk H := by
  intro m hm w hw
  refine ⟨(hH m hm).all w hw, ?_⟩
  have hv := h m hm
  unfold vc at hv
  simp only [Bool.and_eq_true] at hv
  obtain ⟨_, hv⟩ := hv
  split at hv
  · simp only [Bool.and_eq_true, beq_iff_eq] at hv
    rw [List.eq_nil_of_length_eq_zero hv.2] at hw
    cases hw
  · split at hv
    · simp only [Bool.and_eq_true, beq_iff_eq, List.all_eq_true] at hv
      have := hv.2 w hw
      left; omega
    · simp only [Bool.and_eq_true, decide_eq_true_eq, List.all_eq_true] at hv
      have := hv.2 w hw
      unfold wordH isInt at this
      simp only [Bool.or_eq_true, Bool.and_eq_true, decide_eq_true_eq] at this
      rcases this with h | h
      · left; omega
      · exact .inr h
def allF (H : List HM) : List Int := H.flatMap fun m => m.fs
def refsN (P : List Int) (n : Nat) : List Int := (List.range n).map fun i : Nat => ((P.count (1000 + (i : Int)) : Nat) : Int)
theorem refsN_len (P : List Int) (n : Nat) : (refsN P n).length = n := by simp [refsN]
theorem refsN_get {P : List Int} {n i : Nat} (h : i < (refsN P n).length) : (refsN P n)[i] = ((P.count (1000 + (i : Int)) : Nat) : Int) := by simp [refsN]
theorem refsN_hit (P : List Int) {n j : Nat} (h : j < n) : (refsN P n).set j (((P.count (1000 + (j : Int)) : Nat) : Int) + 1) = refsN (P ++ [1000 + (j : Int)]) n := by
  apply List.ext_getElem
  · rw [List.length_set, refsN_len, refsN_len]
  · intro i h1 h2
    rw [List.getElem_set, refsN_get h2, List.count_append]
    by_cases hij : j = i
    · subst hij
      rw [if_pos rfl, List.count_singleton_self]
      omega
    · have hz : List.count (1000 + (i : Int)) [1000 + (j : Int)] = 0 := List.count_eq_zero.2 (by simp; omega)
      rw [if_neg hij, refsN_get, hz]
      omega
theorem refsN_miss (P : List Int) {n : Nat} {w : Int} (h : w < 1000) : refsN (P ++ [w]) n = refsN P n := by
  apply List.ext_getElem
  · rw [refsN_len, refsN_len]
  · intro i h1 h2
    have hz : List.count (1000 + (i : Int)) [w] = 0 := List.count_eq_zero.2 (by simp; omega)
    rw [refsN_get h1, refsN_get h2, List.count_append, hz]
    omega
/-- The fields of the first cells. -/
def preF (H : List HM) (c : Nat) : List Int := allF (H.take c)
theorem preF_all (H : List HM) : preF H H.length = allF H := by unfold preF; rw [List.take_length]
theorem preF_succ {H : List HM} {c : Nat} (h : c < H.length) : preF H (c + 1) = preF H c ++ (gH H c).fs := by
  unfold preF allF
  rw [List.take_succ_eq_append_getElem h, List.flatMap_append, gH_eq h]
  simp
theorem preF_len (H : List HM) (c : Nat) : (preF H c).length ≤ (allF H).length := by
  have h : allF H = preF H c ++ allF (H.drop c) := by
    unfold preF allF
    rw [← List.flatMap_append, List.take_append_drop]
  rw [h, List.length_append]
  omega
theorem cnt_le {H : List HM} {c k : Nat} (h : c < H.length) (a : Int) : (preF H c ++ (gH H c).fs.take k).count a ≤ (allF H).length := by
  refine Nat.le_trans List.count_le_length ?_
  have h1 := preF_len H (c + 1)
  rw [preF_succ h, List.length_append] at h1
  rw [List.length_append, List.length_take]
  omega
theorem take_next {P fs : List Int} {k : Nat} (h : k < fs.length) : P ++ fs.take (k + 1) = (P ++ fs.take k) ++ [fs[k]] := by
  rw [List.append_assoc, List.take_succ_eq_append_getElem h]
theorem zeros_refs (n : Nat) : List.replicate n [AC.int 0] = intsC (refsN [] n) := by
  unfold intsC refsN
  rw [List.map_map]
  apply List.ext_getElem
  · simp
  · intro i h1 h2
    simp
/-- One field more. -/
theorem ref_step {H : List HM} (hf : FOk H) (ht : (allF H).length ≤ 1048576) {c k : Nat} (hc : c < H.length) (hk : k < (gH H c).fs.length) {w : Int} (hw : (gH H c).fs[k] = w) (hp : ¬ w < 1000) {K : List (List AC) → Option AV} {r : AV}
    (h : K (intsC (refsN (preF H c ++ (gH H c).fs.take (k + 1)) H.length)) = some r) :
    ∃ j : Nat, w = 1000 + (j : Int) ∧ idxR (intsC (refsN (preF H c ++ (gH H c).fs.take k) H.length)) (j : Int) (fun m => elR (intsC (refsN (preF H c ++ (gH H c).fs.take k) H.length)) m 0 1 [.int 0] fun n20 =>
      idxR (intsC (refsN (preF H c ++ (gH H c).fs.take k) H.length)) (j : Int) fun m21 => setR (intsC (refsN (preF H c ++ (gH H c).fs.take k) H.length)) m21 0 [.int (wrapI (n20 + 1))] K) = some r := by
  have hl := (hf _ (gH_mem hc) w (by rw [← hw]; exact List.getElem_mem hk)).2.resolve_left hp
  obtain ⟨j, hj, hjn⟩ := live_range hl
  have hjl : j < (refsN (preF H c ++ (gH H c).fs.take k) H.length).length := by rw [refsN_len]; exact hjn
  refine ⟨j, hj, elNum hjl ?_⟩
  rw [refsN_get hjl]
  have hb := cnt_le (k := k) hc (1000 + (j : Int))
  rw [wr (by omega) (by omega)]
  refine setNum hjl ?_
  rw [refsN_hit _ hjn, ← hj, ← hw, ← take_next hk]
  exact h
theorem i_allRefs {H : List HM} (hl : H.length ≤ 1048576) (hi : ∀ m ∈ H, IntsOk m.fs) (hf : FOk H) (ht : (allF H).length ≤ 1048576) : impl_allRefs [.cell (.sl 3 (heapC H))] = oS (intsC (refsN (allF H) H.length)) := by
  have key : ∀ m c : Nat, c + m = H.length → impl_allRefs_L0 (intsC (refsN (preF H c) H.length)) (heapC H) (((heapC H).length : Nat) : Int) (c : Int) = oS (intsC (refsN (allF H) H.length)) := by
    intro m
    induction m with
    | zero =>
      intro c hc
      rw [show c = H.length by omega, preF_all]
      exact impl_allRefs_L0_le (bifF (decide_eq_false (by rw [heapC_len]; omega)) rfl)
    | succ m ih =>
      intro c hc
      have hlt : c < H.length := by omega
      have hfs := hi _ (gH_mem hlt)
      refine impl_allRefs_L0_le (bifT (decide_eq_true (by rw [heapC_len]; omega)) (atCellH hlt ?_))
      have inner : ∀ q k : Nat, k + q = (gH H c).fs.length → impl_allRefs_L2 (intsC (refsN (preF H c ++ (gH H c).fs.take k) H.length)) (heapC H) (((heapC H).length : Nat) : Int) (c : Int) (intsC (gH H c).fs) (((intsC (gH H c).fs).length : Nat) : Int) (k : Int) = oS (intsC (refsN (allF H) H.length)) := by
        intro q
        induction q with
        | zero =>
          intro k hk
          refine impl_allRefs_L2_le (bifF (decide_eq_false (by rw [intsC_len]; omega)) ?_)
          rw [wrk (by unfold maxI; omega), show k = (gH H c).fs.length by omega, List.take_length, ← preF_succ hlt]
          exact ih (c + 1) (by omega)
        | succ q ihq =>
          intro k hk
          have hkl : k < (gH H c).fs.length := by omega
          have hin := (hf _ (gH_mem hlt) _ (List.getElem_mem hkl)).1
          have hnext := ihq (k + 1) (by omega)
          rw [← wrk (by have := hfs.len; omega)] at hnext
          refine impl_allRefs_L2_le (bifT (decide_eq_true (by rw [intsC_len]; omega)) (atNum hkl (callI (i_cellOfWord hin) ?_)))
          unfold cw
          by_cases hp : (gH H c).fs[k] < 1000
          · rw [if_pos hp]
            refine bifF rfl ?_
            rw [take_next hkl, refsN_miss _ hp] at hnext
            exact hnext
          · rw [if_neg hp]
            obtain ⟨j, hj, hr⟩ := ref_step hf ht hlt hkl rfl hp (K := fun l22 => impl_allRefs_L2 l22 (heapC H) (((heapC H).length : Nat) : Int) (c : Int) (intsC (gH H c).fs) (((intsC (gH H c).fs).length : Nat) : Int) (wrapI ((k : Int) + 1))) hnext
            rw [show (gH H c).fs[k] - 1000 = (j : Int) by omega]
            exact bifT (decide_eq_true (by omega)) hr
      have := inner (gH H c).fs.length 0 (by omega)
      rw [List.take_zero, List.append_nil] at this
      exact this
  refine impl_allRefs_le ?_
  rw [heapC_len]
  refine repTo (by omega) ?_
  rw [zeros_refs]
  have := key H.length 0 (by omega)
  rw [heapC_len] at this
  exact this
theorem s_refsOf {H : List HM} (hl : H.length ≤ 1048576) (hi : ∀ m ∈ H, IntsOk m.fs) (hf : FOk H) (ht : (allF H).length ≤ 1048576) : spec_refsOf [.cell (.sl 3 (heapC H))] = oS (intsC (refsN (allF H) H.length)) := by
  have key : ∀ m c : Nat, c + m = H.length → spec_refsOf_L0 (heapC H) (c : Int) (intsC (refsN (preF H c) H.length)) = oS (intsC (refsN (allF H) H.length)) := by
    intro m
    induction m with
    | zero =>
      intro c hc
      rw [show c = H.length by omega, preF_all]
      exact spec_refsOf_L0_le (bifF (decide_eq_false (by rw [heapC_len]; omega)) rfl)
    | succ m ih =>
      intro c hc
      have hlt : c < H.length := by omega
      have hfs := hi _ (gH_mem hlt)
      refine spec_refsOf_L0_le (bifT (decide_eq_true (by rw [heapC_len]; omega)) ?_)
      have inner : ∀ q k : Nat, k + q = (gH H c).fs.length → spec_refsOf_L2 (heapC H) (c : Int) (k : Int) (intsC (refsN (preF H c ++ (gH H c).fs.take k) H.length)) = oS (intsC (refsN (allF H) H.length)) := by
        intro q
        induction q with
        | zero =>
          intro k hk
          refine spec_refsOf_L2_le (atCellH hlt (bifF (decide_eq_false (by rw [intsC_len]; omega)) ?_))
          rw [wrk (by unfold maxI; omega), show k = (gH H c).fs.length by omega, List.take_length, ← preF_succ hlt]
          exact ih (c + 1) (by omega)
        | succ q ihq =>
          intro k hk
          have hkl : k < (gH H c).fs.length := by omega
          have hin := (hf _ (gH_mem hlt) _ (List.getElem_mem hkl)).1
          have hnext := ihq (k + 1) (by omega)
          rw [← wrk (by have := hfs.len; omega)] at hnext
          refine spec_refsOf_L2_le (atCellH hlt (bifT (decide_eq_true (by rw [intsC_len]; omega)) (atCellH hlt (atNum hkl (callB (s_isLive hl hin) ?_)))))
          by_cases hp : (gH H c).fs[k] < 1000
          · refine bifF (by unfold liveW; rw [decide_eq_false (by omega)]; rfl) ?_
            rw [take_next hkl, refsN_miss _ hp] at hnext
            exact hnext
          · obtain ⟨j, hj, hr⟩ := ref_step hf ht hlt hkl rfl hp (K := fun l25 => spec_refsOf_L2 (heapC H) (c : Int) (wrapI ((k : Int) + 1)) l25) hnext
            refine bifT ((hf _ (gH_mem hlt) _ (List.getElem_mem hkl)).2.resolve_left hp) (atCellH hlt (atNum hkl ?_))
            rw [wr (n := (gH H c).fs[k] - 1000) (by omega) (by have := hin.2; omega), show (gH H c).fs[k] - 1000 = (j : Int) by omega]
            exact hr
      have := inner (gH H c).fs.length 0 (by omega)
      rw [List.take_zero, List.append_nil] at this
      exact this
  refine spec_refsOf_le ?_
  rw [heapC_len]
  refine repTo (by omega) ?_
  rw [zeros_refs]
  exact key H.length 0 (by omega)
theorem i_copyIntsH {xs : List Int} (h : xs.length ≤ 1048576) : impl_copyInts [.cell (.sl 1 (intsC xs))] = oS (intsC xs) := by
  have key : ∀ m k : Nat, k + m = xs.length → impl_copyInts_L0 (intsC (xs.take k)) (intsC xs) (((intsC xs).length : Nat) : Int) (k : Int) = oS (intsC xs) := by
    intro m
    induction m with
    | zero =>
      intro k hk
      rw [show k = xs.length by omega, List.take_length]
      exact impl_copyInts_L0_le (bifF (decide_eq_false (by rw [intsC_len]; omega)) rfl)
    | succ m ih =>
      intro k hk
      have hlt : k < xs.length := by omega
      refine impl_copyInts_L0_le (bifT (decide_eq_true (by rw [intsC_len]; omega)) (atNum hlt (appTo (by rw [intsC_len, List.length_take]; simp; omega) ?_)))
      rw [wrk (by unfold maxI; omega), show intsC (xs.take k) ++ [[AC.int xs[k]]] = intsC (xs.take (k + 1)) by rw [List.take_succ_eq_append_getElem hlt, ← intsC_append]; rfl]
      exact ih (k + 1) (by omega)
  exact impl_copyInts_le (key xs.length 0 (by omega))
end Go.Proofs.YthfihhejbplmfaaGreat

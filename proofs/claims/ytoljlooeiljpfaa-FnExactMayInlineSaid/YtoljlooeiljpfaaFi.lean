/- What comes in at the types of the laws' arguments fits. MADE BY mkfit.py. -/
import Derived.Test.YtoljlooeiljpfaaPa
import Derived.Test.YtoljlooeiljpfaaProg
set_option linter.unusedVariables false
namespace Go.Proofs.Ytoljlooeiljpfaa
open Go
def plainTs : List TypeId := [3, 4, 22, 23, 25, 36, 38, 52, 66, 68, 71, 104]
theorem plain_ok : plainChk Try.prog plainTs = true := by kernel_rfl
section
variable {P : Program}
theorem wt_int {t : TypeId} (hu : P.underlying t = some (.int .i64)) {x : AC} (h : WT P t [x]) : ∃ n, x = .int n ∧ inI n := by
  cases h with
  | int h n h1 h2 => exact ⟨n, rfl, h1, h2⟩
  | bool h => rw [hu] at h; cases h
  | slice h => rw [hu] at h; cases h
  | struct h => rw [hu] at h; cases h
theorem wt_sl {t e : TypeId} (hu : P.underlying t = some (.slice e)) {k : Nat} (hk : P.cellsOf e = k) {x : AC} (h : WT P t [x]) : ∃ rows, x = .sl k rows ∧ rows.length ≤ maxI ∧ (∀ r ∈ rows, r.length = k) ∧ ∀ r ∈ rows, WT P e r := by
  subst hk
  cases h with
  | int h => rw [hu] at h; cases h
  | bool h => rw [hu] at h; cases h
  | slice h rows hm hr hw =>
    rw [hu] at h
    cases h
    exact ⟨rows, rfl, hm, hr, hw⟩
  | struct h => rw [hu] at h; cases h
theorem wt_len {t : TypeId} {fs : Array Field} (hu : P.underlying t = some (.struct fs)) {k : Nat} (hk : P.cellsOf t = k) {cs : List AC} (h : WT P t cs) : cs.length = k := by
  cases h with
  | int h => rw [hu] at h; cases h
  | bool h => rw [hu] at h; cases h
  | slice h => rw [hu] at h; cases h
  | struct h cs hl hf => rw [hl, hk]
theorem wt_field {t : TypeId} {fs : Array Field} (hu : P.underlying t = some (.struct fs)) {cs : List AC} (h : WT P t cs) (i : Nat) {f : Field} (hi : fs[i]? = some f) {tt o k : Nat} (h1 : f.type = tt) (h2 : f.offset = o) (h3 : P.cellsOf tt = k) : WT P tt ((cs.drop o).take k) := by
  subst h1 h2 h3
  cases h with
  | int h => rw [hu] at h; cases h
  | bool h => rw [hu] at h; cases h
  | slice h => rw [hu] at h; cases h
  | struct h cs hl hf =>
    rw [hu] at h
    cases h
    exact hf i f hi
end
theorem len1 {l : List AC} (h : l.length = 1) : ∃ a, l = [a] := by match l, h with | [a], _ => exact ⟨a, rfl⟩
theorem len2 {l : List AC} (h : l.length = 2) : ∃ a b, l = [a, b] := by match l, h with | [a, b], _ => exact ⟨a, b, rfl⟩
theorem len3 {l : List AC} (h : l.length = 3) : ∃ a b c, l = [a, b, c] := by match l, h with | [a, b, c], _ => exact ⟨a, b, c, rfl⟩
theorem len5 {l : List AC} (h : l.length = 5) : ∃ a b c d e, l = [a, b, c, d, e] := by match l, h with | [a, b, c, d, e], _ => exact ⟨a, b, c, d, e, rfl⟩
theorem len7 {l : List AC} (h : l.length = 7) : ∃ a b c d e f g, l = [a, b, c, d, e, f, g] := by match l, h with | [a, b, c, d, e, f, g], _ => exact ⟨a, b, c, d, e, f, g, rfl⟩
theorem len6 {l : List AC} (h : l.length = 6) : ∃ a b c d e f, l = [a, b, c, d, e, f] := by match l, h with | [a, b, c, d, e, f], _ => exact ⟨a, b, c, d, e, f, rfl⟩
theorem wt_int_3 {x : AC} (h : WT Try.prog 3 [x]) : ∃ n, x = .int n ∧ inI n := wt_int Try.underlying3 h
theorem wt_ints {x : AC} (h : WT Try.prog 52 [x]) : ∃ xs, x = .sl 1 (intsC xs) ∧ IntsOk xs := by
  obtain ⟨rows, rfl, hl, hr, hw⟩ := wt_sl (k := 1) Try.underlying52 (by kernel_rfl) h
  have key : ∀ rows : List (List AC), (∀ r ∈ rows, r.length = 1) → (∀ r ∈ rows, WT Try.prog 3 r) → ∃ xs, rows = intsC xs ∧ ∀ x ∈ xs, inI x := by
    intro rows
    induction rows with
    | nil => intro _ _; exact ⟨[], rfl, fun x h => by cases h⟩
    | cons r rows ih =>
      intro h1 h2
      obtain ⟨xs, rfl, hx⟩ := ih (fun r h => h1 r (List.mem_cons_of_mem _ h)) (fun r h => h2 r (List.mem_cons_of_mem _ h))
      obtain ⟨a, rfl⟩ := len1 (h1 r List.mem_cons_self)
      obtain ⟨n, rfl, hn⟩ := wt_int_3 (h2 _ List.mem_cons_self)
      refine ⟨n :: xs, rfl, fun x h => ?_⟩
      rcases List.mem_cons.1 h with rfl | h
      · exact hn
      · exact hx x h
  obtain ⟨xs, rfl, hx⟩ := key rows hr hw
  rw [intsC_len] at hl
  exact ⟨xs, rfl, hl, hx⟩
theorem fit_Block' {x : List AC} (h : Fit .block x) : ∃ (steps : List (List AC)) (r : Int), x = [.sl 5 steps, .int r] := by cases h; exact ⟨_, _, rfl⟩
theorem fit_Expr' {x : List AC} (h : Fit .expr x) : ∃ (o n : Int) (kids : List (List AC)), x = [.int o, .int n, .sl 3 kids] := by cases h; exact ⟨_, _, _, rfl⟩
def WtAll (n : Nat) : Prop := ∀ cs : List AC, SizeOf.sizeOf cs < n → (WT Try.prog 104 cs → Fit .con cs) ∧ (WT Try.prog 68 cs → Fit .decl cs) ∧ (WT Try.prog 38 cs → Fit .expr cs) ∧ (WT Try.prog 71 cs → Fit .func cs) ∧ (WT Try.prog 25 cs → Fit .prog cs)
theorem wt_Con {n : Nat} (ih : WtAll n) {cs : List AC} (hs : SizeOf.sizeOf cs < n + 1) (h : WT Try.prog 104 cs) : Fit .con cs := by
  have hu := Try.underlying104
  obtain ⟨a_, rfl⟩ := len1 (wt_len hu (by kernel_rfl) h)
  have g0 : WT Try.prog 52 [a_] := wt_field hu h 0 rfl (tt := 52) (o := 0) (k := 1) rfl rfl (by kernel_rfl)
  obtain ⟨fs, rfl, ifs⟩ := wt_ints g0
  exact .con fs ifs
theorem wt_Decl {n : Nat} (ih : WtAll n) {cs : List AC} (hs : SizeOf.sizeOf cs < n + 1) (h : WT Try.prog 68 cs) : Fit .decl cs := by
  have hu := Try.underlying68
  obtain ⟨a_, b_, c_, rfl⟩ := len3 (wt_len hu (by kernel_rfl) h)
  have g0 : WT Try.prog 3 [a_] := wt_field hu h 0 rfl (tt := 3) (o := 0) (k := 1) rfl rfl (by kernel_rfl)
  have g1 : WT Try.prog 3 [b_] := wt_field hu h 1 rfl (tt := 3) (o := 1) (k := 1) rfl rfl (by kernel_rfl)
  have g2 : WT Try.prog 66 [c_] := wt_field hu h 2 rfl (tt := 66) (o := 2) (k := 1) rfl rfl (by kernel_rfl)
  obtain ⟨f, rfl, iF⟩ := wt_int_3 g0
  obtain ⟨t, rfl, it⟩ := wt_int_3 g1
  obtain ⟨cons, rfl, lcons, _, wcons⟩ := wt_sl Try.underlying66 (k := 1) (by kernel_rfl) g2
  have fcons : ∀ r ∈ cons, Fit .con r := fun r hr => (ih r (by have := List.sizeOf_lt_of_mem hr; simp at hs; omega)).1 (wcons r hr)
  exact .decl f t cons iF it lcons fcons
theorem wt_Expr {n : Nat} (ih : WtAll n) {cs : List AC} (hs : SizeOf.sizeOf cs < n + 1) (h : WT Try.prog 38 cs) : Fit .expr cs := by
  have hu := Try.underlying38
  obtain ⟨a_, b_, c_, rfl⟩ := len3 (wt_len hu (by kernel_rfl) h)
  have g0 : WT Try.prog 3 [a_] := wt_field hu h 0 rfl (tt := 3) (o := 0) (k := 1) rfl rfl (by kernel_rfl)
  have g1 : WT Try.prog 3 [b_] := wt_field hu h 1 rfl (tt := 3) (o := 1) (k := 1) rfl rfl (by kernel_rfl)
  have g2 : WT Try.prog 36 [c_] := wt_field hu h 2 rfl (tt := 36) (o := 2) (k := 1) rfl rfl (by kernel_rfl)
  obtain ⟨o, rfl, io⟩ := wt_int_3 g0
  obtain ⟨n, rfl, in_⟩ := wt_int_3 g1
  obtain ⟨kids, rfl, lkids, _, wkids⟩ := wt_sl Try.underlying36 (k := 3) (by kernel_rfl) g2
  have fkids : ∀ r ∈ kids, Fit .expr r := fun r hr => (ih r (by have := List.sizeOf_lt_of_mem hr; simp at hs; omega)).2.2.1 (wkids r hr)
  exact .expr o n kids io in_ lkids fkids
theorem wt_Func {n : Nat} (ih : WtAll n) {cs : List AC} (hs : SizeOf.sizeOf cs < n + 1) (h : WT Try.prog 71 cs) : Fit .func cs := by
  have hu := Try.underlying71
  obtain ⟨a_, b_, c_, d_, e_, rfl⟩ := len5 (wt_len hu (by kernel_rfl) h)
  have g0 : WT Try.prog 52 [a_] := wt_field hu h 0 rfl (tt := 52) (o := 0) (k := 1) rfl rfl (by kernel_rfl)
  have g1 : WT Try.prog 3 [b_] := wt_field hu h 1 rfl (tt := 3) (o := 1) (k := 1) rfl rfl (by kernel_rfl)
  have g2 : WT Try.prog 38 [c_, d_, e_] := wt_field hu h 2 rfl (tt := 38) (o := 2) (k := 3) rfl rfl (by kernel_rfl)
  obtain ⟨ps, rfl, ips⟩ := wt_ints g0
  obtain ⟨r, rfl, ir⟩ := wt_int_3 g1
  have fb : Fit .expr [c_, d_, e_] := (ih [c_, d_, e_] (by simp at hs ⊢; omega)).2.2.1 g2
  obtain ⟨o, n, kids, e⟩ := fit_Expr' fb
  cases e
  exact .func ps r o n kids ips ir fb
theorem wt_Program {n : Nat} (ih : WtAll n) {cs : List AC} (hs : SizeOf.sizeOf cs < n + 1) (h : WT Try.prog 25 cs) : Fit .prog cs := by
  have hu := Try.underlying25
  obtain ⟨a_, b_, rfl⟩ := len2 (wt_len hu (by kernel_rfl) h)
  have g0 : WT Try.prog 22 [a_] := wt_field hu h 0 rfl (tt := 22) (o := 0) (k := 1) rfl rfl (by kernel_rfl)
  have g1 : WT Try.prog 23 [b_] := wt_field hu h 1 rfl (tt := 23) (o := 1) (k := 1) rfl rfl (by kernel_rfl)
  obtain ⟨ds, rfl, lds, _, wds⟩ := wt_sl Try.underlying22 (k := 3) (by kernel_rfl) g0
  obtain ⟨fs, rfl, lfs, _, wfs⟩ := wt_sl Try.underlying23 (k := 5) (by kernel_rfl) g1
  have fds : ∀ r ∈ ds, Fit .decl r := fun r hr => (ih r (by have := List.sizeOf_lt_of_mem hr; simp at hs; omega)).2.1 (wds r hr)
  have ffs : ∀ r ∈ fs, Fit .func r := fun r hr => (ih r (by have := List.sizeOf_lt_of_mem hr; simp at hs; omega)).2.2.2.1 (wfs r hr)
  exact .prog ds fs lds lfs fds ffs
theorem wt_all : ∀ n, WtAll n
  | 0 => fun cs h => absurd h (Nat.not_lt_zero _)
  | n + 1 => fun cs h => ⟨wt_Con (wt_all n) h, wt_Decl (wt_all n) h, wt_Expr (wt_all n) h, wt_Func (wt_all n) h, wt_Program (wt_all n) h⟩
theorem fits_Con {cs : List AC} (h : WT Try.prog 104 cs) : Fit .con cs := (wt_all (SizeOf.sizeOf cs + 1) cs (Nat.lt_succ_self _)).1 h
theorem fits_Decl {cs : List AC} (h : WT Try.prog 68 cs) : Fit .decl cs := (wt_all (SizeOf.sizeOf cs + 1) cs (Nat.lt_succ_self _)).2.1 h
theorem fits_Expr {cs : List AC} (h : WT Try.prog 38 cs) : Fit .expr cs := (wt_all (SizeOf.sizeOf cs + 1) cs (Nat.lt_succ_self _)).2.2.1 h
theorem fits_Func {cs : List AC} (h : WT Try.prog 71 cs) : Fit .func cs := (wt_all (SizeOf.sizeOf cs + 1) cs (Nat.lt_succ_self _)).2.2.2.1 h
theorem fits_Program {cs : List AC} (h : WT Try.prog 25 cs) : Fit .prog cs := (wt_all (SizeOf.sizeOf cs + 1) cs (Nat.lt_succ_self _)).2.2.2.2 h
theorem fits_ConS {x : AC} (h : WT Try.prog 66 [x]) : ∃ rows, x = .sl 1 rows ∧ rows.length ≤ maxI ∧ ∀ r ∈ rows, Fit .con r := by
  obtain ⟨rows, rfl, hl, _, hw⟩ := wt_sl Try.underlying66 (k := 1) (by kernel_rfl) h
  exact ⟨rows, rfl, hl, fun r hr => fits_Con (hw r hr)⟩
theorem fits_DeclS {x : AC} (h : WT Try.prog 22 [x]) : ∃ rows, x = .sl 3 rows ∧ rows.length ≤ maxI ∧ ∀ r ∈ rows, Fit .decl r := by
  obtain ⟨rows, rfl, hl, _, hw⟩ := wt_sl Try.underlying22 (k := 3) (by kernel_rfl) h
  exact ⟨rows, rfl, hl, fun r hr => fits_Decl (hw r hr)⟩
theorem fits_ExprS {x : AC} (h : WT Try.prog 36 [x]) : ∃ rows, x = .sl 3 rows ∧ rows.length ≤ maxI ∧ ∀ r ∈ rows, Fit .expr r := by
  obtain ⟨rows, rfl, hl, _, hw⟩ := wt_sl Try.underlying36 (k := 3) (by kernel_rfl) h
  exact ⟨rows, rfl, hl, fun r hr => fits_Expr (hw r hr)⟩
theorem fits_FuncS {x : AC} (h : WT Try.prog 23 [x]) : ∃ rows, x = .sl 5 rows ∧ rows.length ≤ maxI ∧ ∀ r ∈ rows, Fit .func r := by
  obtain ⟨rows, rfl, hl, _, hw⟩ := wt_sl Try.underlying23 (k := 5) (by kernel_rfl) h
  exact ⟨rows, rfl, hl, fun r hr => fits_Func (hw r hr)⟩
end Go.Proofs.Ytoljlooeiljpfaa

/- What comes in at the types of the laws' arguments fits. MADE BY mkfit.py. -/
import Derived.Test.YtnnalagflpmedaaPa
import Derived.Test.YtnnalagflpmedaaProg
set_option linter.unusedVariables false
namespace Go.Proofs.Ytnnalagflpmedaa
open Go
def plainTs : List TypeId := [3, 4, 22, 33, 35]
theorem plain_ok : plainChk Try.prog plainTs = true := by kernel_rfl
section
variable {P : Program}
theorem wt_int {t : TypeId} (hu : P.underlying t = some (.int .i64)) {x : AC} (h : WT P t [x]) : ∃ n, x = .int n ∧ inI n := by
  cases h with
  | int h n h1 h2 => exact ⟨n, rfl, h1, h2⟩
  | bool h => rw [hu] at h; cases h
  | slice h => rw [hu] at h; cases h
  | struct h => rw [hu] at h; cases h
theorem wt_sl {t e : TypeId} (hu : P.underlying t = some (.slice e)) {k : Nat} (hk : P.cellsOf e = k) {x : AC} (h : WT P t [x]) : ∃ rows, x = .sl k rows ∧ rows.length ≤ maxI ∧ (∀ r ∈ rows, r.length = k) ∧ ∀ r ∈ rows, WT P e r := by
  subst hk
  cases h with
  | int h => rw [hu] at h; cases h
  | bool h => rw [hu] at h; cases h
  | slice h rows hm hr hw =>
    rw [hu] at h
    cases h
    exact ⟨rows, rfl, hm, hr, hw⟩
  | struct h => rw [hu] at h; cases h
theorem wt_len {t : TypeId} {fs : Array Field} (hu : P.underlying t = some (.struct fs)) {k : Nat} (hk : P.cellsOf t = k) {cs : List AC} (h : WT P t cs) : cs.length = k := by
  cases h with
  | int h => rw [hu] at h; cases h
  | bool h => rw [hu] at h; cases h
  | slice h => rw [hu] at h; cases h
  | struct h cs hl hf => rw [hl, hk]
theorem wt_field {t : TypeId} {fs : Array Field} (hu : P.underlying t = some (.struct fs)) {cs : List AC} (h : WT P t cs) (i : Nat) {f : Field} (hi : fs[i]? = some f) {tt o k : Nat} (h1 : f.type = tt) (h2 : f.offset = o) (h3 : P.cellsOf tt = k) : WT P tt ((cs.drop o).take k) := by
  subst h1 h2 h3
  cases h with
  | int h => rw [hu] at h; cases h
  | bool h => rw [hu] at h; cases h
  | slice h => rw [hu] at h; cases h
  | struct h cs hl hf =>
    rw [hu] at h
    cases h
    exact hf i f hi
end
theorem len1 {l : List AC} (h : l.length = 1) : ∃ a, l = [a] := by match l, h with | [a], _ => exact ⟨a, rfl⟩
theorem len2 {l : List AC} (h : l.length = 2) : ∃ a b, l = [a, b] := by match l, h with | [a, b], _ => exact ⟨a, b, rfl⟩
theorem len3 {l : List AC} (h : l.length = 3) : ∃ a b c, l = [a, b, c] := by match l, h with | [a, b, c], _ => exact ⟨a, b, c, rfl⟩
theorem len5 {l : List AC} (h : l.length = 5) : ∃ a b c d e, l = [a, b, c, d, e] := by match l, h with | [a, b, c, d, e], _ => exact ⟨a, b, c, d, e, rfl⟩
theorem len6 {l : List AC} (h : l.length = 6) : ∃ a b c d e f, l = [a, b, c, d, e, f] := by match l, h with | [a, b, c, d, e, f], _ => exact ⟨a, b, c, d, e, f, rfl⟩
theorem wt_int_3 {x : AC} (h : WT Try.prog 3 [x]) : ∃ n, x = .int n ∧ inI n := wt_int Try.underlying3 h
theorem wt_ints {x : AC} (h : WT Try.prog 33 [x]) : ∃ xs, x = .sl 1 (intsC xs) ∧ IntsOk xs := by
  obtain ⟨rows, rfl, hl, hr, hw⟩ := wt_sl (k := 1) Try.underlying33 (by kernel_rfl) h
  have key : ∀ rows : List (List AC), (∀ r ∈ rows, r.length = 1) → (∀ r ∈ rows, WT Try.prog 3 r) → ∃ xs, rows = intsC xs ∧ ∀ x ∈ xs, inI x := by
    intro rows
    induction rows with
    | nil => intro _ _; exact ⟨[], rfl, fun x h => by cases h⟩
    | cons r rows ih =>
      intro h1 h2
      obtain ⟨xs, rfl, hx⟩ := ih (fun r h => h1 r (List.mem_cons_of_mem _ h)) (fun r h => h2 r (List.mem_cons_of_mem _ h))
      obtain ⟨a, rfl⟩ := len1 (h1 r List.mem_cons_self)
      obtain ⟨n, rfl, hn⟩ := wt_int_3 (h2 _ List.mem_cons_self)
      refine ⟨n :: xs, rfl, fun x h => ?_⟩
      rcases List.mem_cons.1 h with rfl | h
      · exact hn
      · exact hx x h
  obtain ⟨xs, rfl, hx⟩ := key rows hr hw
  rw [intsC_len] at hl
  exact ⟨xs, rfl, hl, hx⟩
theorem fit_Block' {x : List AC} (h : Fit .block x) : ∃ (steps : List (List AC)) (r : Int), x = [.sl 5 steps, .int r] := by cases h; exact ⟨_, _, rfl⟩
theorem fit_Expr' {x : List AC} (h : Fit .expr x) : ∃ (o n : Int) (kids : List (List AC)), x = [.int o, .int n, .sl 3 kids] := by cases h; exact ⟨_, _, _, rfl⟩
def WtAll (n : Nat) : Prop := ∀ cs : List AC, SizeOf.sizeOf cs < n → (WT Try.prog 35 cs → Fit .cell cs)
theorem wt_Cell {n : Nat} (ih : WtAll n) {cs : List AC} (hs : SizeOf.sizeOf cs < n + 1) (h : WT Try.prog 35 cs) : Fit .cell cs := by
  have hu := Try.underlying35
  obtain ⟨a_, b_, c_, rfl⟩ := len3 (wt_len hu (by kernel_rfl) h)
  have g0 : WT Try.prog 3 [a_] := wt_field hu h 0 rfl (tt := 3) (o := 0) (k := 1) rfl rfl (by kernel_rfl)
  have g1 : WT Try.prog 3 [b_] := wt_field hu h 1 rfl (tt := 3) (o := 1) (k := 1) rfl rfl (by kernel_rfl)
  have g2 : WT Try.prog 33 [c_] := wt_field hu h 2 rfl (tt := 33) (o := 2) (k := 1) rfl rfl (by kernel_rfl)
  obtain ⟨c, rfl, ic⟩ := wt_int_3 g0
  obtain ⟨t, rfl, it⟩ := wt_int_3 g1
  obtain ⟨fs, rfl, ifs⟩ := wt_ints g2
  exact .cell c t fs ic it ifs
theorem wt_all : ∀ n, WtAll n
  | 0 => fun cs h => absurd h (Nat.not_lt_zero _)
  | n + 1 => fun cs h => wt_Cell (wt_all n) h
theorem fits_Cell {cs : List AC} (h : WT Try.prog 35 cs) : Fit .cell cs := (wt_all (SizeOf.sizeOf cs + 1) cs (Nat.lt_succ_self _)) h
theorem fits_CellS {x : AC} (h : WT Try.prog 22 [x]) : ∃ rows, x = .sl 3 rows ∧ rows.length ≤ maxI ∧ ∀ r ∈ rows, Fit .cell r := by
  obtain ⟨rows, rfl, hl, _, hw⟩ := wt_sl Try.underlying22 (k := 3) (by kernel_rfl) h
  exact ⟨rows, rfl, hl, fun r hr => fits_Cell (hw r hr)⟩
end Go.Proofs.Ytnnalagflpmedaa

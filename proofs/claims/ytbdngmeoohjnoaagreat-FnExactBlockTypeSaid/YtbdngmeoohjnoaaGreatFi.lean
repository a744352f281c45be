/- What comes in at the types of the laws' arguments fits. MADE BY mkfit.py. -/
import Derived.Test.YtbdngmeoohjnoaaGreatPa
import Derived.Test.YtbdngmeoohjnoaaGreatProg
set_option linter.unusedVariables false
namespace Go.Proofs.YtbdngmeoohjnoaaGreat
open Go
def plainTs : List TypeId := [3, 4, 22, 23, 25, 26, 27, 29, 73, 75, 78, 80, 82, 133]
theorem plain_ok : plainChk Tryz.prog plainTs = true := by kernel_rfl
section
variable {P : Program}
theorem wt_int {t : TypeId} (hu : P.underlying t = some (.int .i64)) {x : AC} (h : WT P t [x]) : ∃ n, x = .int n ∧ inI n := by
  cases h with
  | int h n h1 h2 => exact ⟨n, rfl, h1, h2⟩
  | bool h => rw [hu] at h; cases h
  | slice h => rw [hu] at h; cases h
  | struct h => rw [hu] at h; cases h
theorem wt_sl {t e : TypeId} (hu : P.underlying t = some (.slice e)) {k : Nat} (hk : P.cellsOf e = k) {x : AC} (h : WT P t [x]) : ∃ rows, x = .sl k rows ∧ rows.length ≤ maxI ∧ (∀ r ∈ rows, r.length = k) ∧ ∀ r ∈ rows, WT P e r := by
  subst hk
  cases h with
  | int h => rw [hu] at h; cases h
  | bool h => rw [hu] at h; cases h
  | slice h rows hm hr hw =>
    rw [hu] at h
    cases h
    exact ⟨rows, rfl, hm, hr, hw⟩
  | struct h => rw [hu] at h; cases h
theorem wt_len {t : TypeId} {fs : Array Field} (hu : P.underlying t = some (.struct fs)) {k : Nat} (hk : P.cellsOf t = k) {cs : List AC} (h : WT P t cs) : cs.length = k := by
  cases h with
  | int h => rw [hu] at h; cases h
  | bool h => rw [hu] at h; cases h
  | slice h => rw [hu] at h; cases h
  | struct h cs hl hf => rw [hl, hk]
theorem wt_field {t : TypeId} {fs : Array Field} (hu : P.underlying t = some (.struct fs)) {cs : List AC} (h : WT P t cs) (i : Nat) {f : Field} (hi : fs[i]? = some f) {tt o k : Nat} (h1 : f.type = tt) (h2 : f.offset = o) (h3 : P.cellsOf tt = k) : WT P tt ((cs.drop o).take k) := by
  subst h1 h2 h3
  cases h with
  | int h => rw [hu] at h; cases h
  | bool h => rw [hu] at h; cases h
  | slice h => rw [hu] at h; cases h
  | struct h cs hl hf =>
    rw [hu] at h
    cases h
    exact hf i f hi
end
theorem len1 {l : List AC} (h : l.length = 1) : ∃ a, l = [a] := by match l, h with | [a], _ => exact ⟨a, rfl⟩
theorem len2 {l : List AC} (h : l.length = 2) : ∃ a b, l = [a, b] := by match l, h with | [a, b], _ => exact ⟨a, b, rfl⟩
theorem len3 {l : List AC} (h : l.length = 3) : ∃ a b c, l = [a, b, c] := by match l, h with | [a, b, c], _ => exact ⟨a, b, c, rfl⟩
theorem len5 {l : List AC} (h : l.length = 5) : ∃ a b c d e, l = [a, b, c, d, e] := by match l, h with | [a, b, c, d, e], _ => exact ⟨a, b, c, d, e, rfl⟩
theorem wt_int_3 {x : AC} (h : WT Tryz.prog 3 [x]) : ∃ n, x = .int n ∧ inI n := wt_int Tryz.underlying3 h
theorem wt_ints {x : AC} (h : WT Tryz.prog 26 [x]) : ∃ xs, x = .sl 1 (intsC xs) ∧ IntsOk xs := by
  obtain ⟨rows, rfl, hl, hr, hw⟩ := wt_sl (k := 1) Tryz.underlying26 (by kernel_rfl) h
  have key : ∀ rows : List (List AC), (∀ r ∈ rows, r.length = 1) → (∀ r ∈ rows, WT Tryz.prog 3 r) → ∃ xs, rows = intsC xs ∧ ∀ x ∈ xs, inI x := by
    intro rows
    induction rows with
    | nil => intro _ _; exact ⟨[], rfl, fun x h => by cases h⟩
    | cons r rows ih =>
      intro h1 h2
      obtain ⟨xs, rfl, hx⟩ := ih (fun r h => h1 r (List.mem_cons_of_mem _ h)) (fun r h => h2 r (List.mem_cons_of_mem _ h))
      obtain ⟨a, rfl⟩ := len1 (h1 r List.mem_cons_self)
      obtain ⟨n, rfl, hn⟩ := wt_int_3 (h2 _ List.mem_cons_self)
      refine ⟨n :: xs, rfl, fun x h => ?_⟩
      rcases List.mem_cons.1 h with rfl | h
      · exact hn
      · exact hx x h
  obtain ⟨xs, rfl, hx⟩ := key rows hr hw
  rw [intsC_len] at hl
  exact ⟨xs, rfl, hl, hx⟩
theorem fit_Block' {x : List AC} (h : Fit .block x) : ∃ (steps : List (List AC)) (r : Int), x = [.sl 5 steps, .int r] := by cases h; exact ⟨_, _, rfl⟩
theorem fit_Expr' {x : List AC} (h : Fit .expr x) : ∃ (o n : Int) (kids : List (List AC)), x = [.int o, .int n, .sl 3 kids] := by cases h; exact ⟨_, _, _, rfl⟩
def WtAll (n : Nat) : Prop := ∀ cs : List AC, SizeOf.sizeOf cs < n → (WT Tryz.prog 133 cs → Fit .con cs) ∧ (WT Tryz.prog 75 cs → Fit .decl cs) ∧ (WT Tryz.prog 82 cs → Fit .step cs) ∧ (WT Tryz.prog 29 cs → Fit .block cs) ∧ (WT Tryz.prog 78 cs → Fit .routine cs) ∧ (WT Tryz.prog 25 cs → Fit .normal cs)
theorem wt_Con {n : Nat} (ih : WtAll n) {cs : List AC} (hs : SizeOf.sizeOf cs < n + 1) (h : WT Tryz.prog 133 cs) : Fit .con cs := by
  have hu := Tryz.underlying133
  obtain ⟨a, rfl⟩ := len1 (wt_len hu (by kernel_rfl) h)
  have g0 : WT Tryz.prog 26 [a] := wt_field hu h 0 rfl (tt := 26) (o := 0) (k := 1) rfl rfl (by kernel_rfl)
  obtain ⟨fs, rfl, ifs⟩ := wt_ints g0
  exact .con fs ifs
theorem wt_Decl {n : Nat} (ih : WtAll n) {cs : List AC} (hs : SizeOf.sizeOf cs < n + 1) (h : WT Tryz.prog 75 cs) : Fit .decl cs := by
  have hu := Tryz.underlying75
  obtain ⟨a, b, c, rfl⟩ := len3 (wt_len hu (by kernel_rfl) h)
  have g0 : WT Tryz.prog 3 [a] := wt_field hu h 0 rfl (tt := 3) (o := 0) (k := 1) rfl rfl (by kernel_rfl)
  have g1 : WT Tryz.prog 3 [b] := wt_field hu h 1 rfl (tt := 3) (o := 1) (k := 1) rfl rfl (by kernel_rfl)
  have g2 : WT Tryz.prog 73 [c] := wt_field hu h 2 rfl (tt := 73) (o := 2) (k := 1) rfl rfl (by kernel_rfl)
  obtain ⟨f, rfl, iF⟩ := wt_int_3 g0
  obtain ⟨t, rfl, it⟩ := wt_int_3 g1
  obtain ⟨cons, rfl, lcons, _, wcons⟩ := wt_sl Tryz.underlying73 (k := 1) (by kernel_rfl) g2
  have fcons : ∀ r ∈ cons, Fit .con r := fun r hr => (ih r (by have := List.sizeOf_lt_of_mem hr; simp at hs; omega)).1 (wcons r hr)
  exact .decl f t cons iF it lcons fcons
theorem wt_Step {n : Nat} (ih : WtAll n) {cs : List AC} (hs : SizeOf.sizeOf cs < n + 1) (h : WT Tryz.prog 82 cs) : Fit .step cs := by
  have hu := Tryz.underlying82
  obtain ⟨a, b, c, d, e, rfl⟩ := len5 (wt_len hu (by kernel_rfl) h)
  have g0 : WT Tryz.prog 3 [a] := wt_field hu h 0 rfl (tt := 3) (o := 0) (k := 1) rfl rfl (by kernel_rfl)
  have g1 : WT Tryz.prog 3 [b] := wt_field hu h 1 rfl (tt := 3) (o := 1) (k := 1) rfl rfl (by kernel_rfl)
  have g2 : WT Tryz.prog 3 [c] := wt_field hu h 2 rfl (tt := 3) (o := 2) (k := 1) rfl rfl (by kernel_rfl)
  have g3 : WT Tryz.prog 26 [d] := wt_field hu h 3 rfl (tt := 26) (o := 3) (k := 1) rfl rfl (by kernel_rfl)
  have g4 : WT Tryz.prog 80 [e] := wt_field hu h 4 rfl (tt := 80) (o := 4) (k := 1) rfl rfl (by kernel_rfl)
  obtain ⟨o, rfl, io⟩ := wt_int_3 g0
  obtain ⟨n, rfl, in_⟩ := wt_int_3 g1
  obtain ⟨i, rfl, ii⟩ := wt_int_3 g2
  obtain ⟨args, rfl, iargs⟩ := wt_ints g3
  obtain ⟨kids, rfl, lkids, _, wkids⟩ := wt_sl Tryz.underlying80 (k := 2) (by kernel_rfl) g4
  have fkids : ∀ r ∈ kids, Fit .block r := fun r hr => (ih r (by have := List.sizeOf_lt_of_mem hr; simp at hs; omega)).2.2.2.1 (wkids r hr)
  exact .step o n i args kids io in_ ii iargs lkids fkids
theorem wt_Block {n : Nat} (ih : WtAll n) {cs : List AC} (hs : SizeOf.sizeOf cs < n + 1) (h : WT Tryz.prog 29 cs) : Fit .block cs := by
  have hu := Tryz.underlying29
  obtain ⟨a, b, rfl⟩ := len2 (wt_len hu (by kernel_rfl) h)
  have g0 : WT Tryz.prog 27 [a] := wt_field hu h 0 rfl (tt := 27) (o := 0) (k := 1) rfl rfl (by kernel_rfl)
  have g1 : WT Tryz.prog 3 [b] := wt_field hu h 1 rfl (tt := 3) (o := 1) (k := 1) rfl rfl (by kernel_rfl)
  obtain ⟨steps, rfl, lsteps, _, wsteps⟩ := wt_sl Tryz.underlying27 (k := 5) (by kernel_rfl) g0
  obtain ⟨r, rfl, ir⟩ := wt_int_3 g1
  have fsteps : ∀ r ∈ steps, Fit .step r := fun r hr => (ih r (by have := List.sizeOf_lt_of_mem hr; simp at hs; omega)).2.2.1 (wsteps r hr)
  exact .block steps r ir lsteps fsteps
theorem wt_Routine {n : Nat} (ih : WtAll n) {cs : List AC} (hs : SizeOf.sizeOf cs < n + 1) (h : WT Tryz.prog 78 cs) : Fit .routine cs := by
  have hu := Tryz.underlying78
  obtain ⟨a, b, c, d, e, rfl⟩ := len5 (wt_len hu (by kernel_rfl) h)
  have g0 : WT Tryz.prog 26 [a] := wt_field hu h 0 rfl (tt := 26) (o := 0) (k := 1) rfl rfl (by kernel_rfl)
  have g1 : WT Tryz.prog 26 [b] := wt_field hu h 1 rfl (tt := 26) (o := 1) (k := 1) rfl rfl (by kernel_rfl)
  have g2 : WT Tryz.prog 3 [c] := wt_field hu h 2 rfl (tt := 3) (o := 2) (k := 1) rfl rfl (by kernel_rfl)
  have g3 : WT Tryz.prog 29 [d, e] := wt_field hu h 3 rfl (tt := 29) (o := 3) (k := 2) rfl rfl (by kernel_rfl)
  obtain ⟨ps, rfl, ips⟩ := wt_ints g0
  obtain ⟨lent, rfl, ilent⟩ := wt_ints g1
  obtain ⟨r, rfl, ir⟩ := wt_int_3 g2
  have fb : Fit .block [d, e] := (ih [d, e] (by simp at hs ⊢; omega)).2.2.2.1 g3
  obtain ⟨steps, x, e⟩ := fit_Block' fb
  cases e
  exact .routine ps lent r steps x ips ilent ir fb
theorem wt_Normal {n : Nat} (ih : WtAll n) {cs : List AC} (hs : SizeOf.sizeOf cs < n + 1) (h : WT Tryz.prog 25 cs) : Fit .normal cs := by
  have hu := Tryz.underlying25
  obtain ⟨a, b, rfl⟩ := len2 (wt_len hu (by kernel_rfl) h)
  have g0 : WT Tryz.prog 22 [a] := wt_field hu h 0 rfl (tt := 22) (o := 0) (k := 1) rfl rfl (by kernel_rfl)
  have g1 : WT Tryz.prog 23 [b] := wt_field hu h 1 rfl (tt := 23) (o := 1) (k := 1) rfl rfl (by kernel_rfl)
  obtain ⟨ds, rfl, lds, _, wds⟩ := wt_sl Tryz.underlying22 (k := 3) (by kernel_rfl) g0
  obtain ⟨rs, rfl, lrs, _, wrs⟩ := wt_sl Tryz.underlying23 (k := 5) (by kernel_rfl) g1
  have fds : ∀ r ∈ ds, Fit .decl r := fun r hr => (ih r (by have := List.sizeOf_lt_of_mem hr; simp at hs; omega)).2.1 (wds r hr)
  have frs : ∀ r ∈ rs, Fit .routine r := fun r hr => (ih r (by have := List.sizeOf_lt_of_mem hr; simp at hs; omega)).2.2.2.2.1 (wrs r hr)
  exact .normal ds rs lds lrs fds frs
theorem wt_all : ∀ n, WtAll n
  | 0 => fun cs h => absurd h (Nat.not_lt_zero _)
  | n + 1 => fun cs h => ⟨wt_Con (wt_all n) h, wt_Decl (wt_all n) h, wt_Step (wt_all n) h, wt_Block (wt_all n) h, wt_Routine (wt_all n) h, wt_Normal (wt_all n) h⟩
theorem fits_Con {cs : List AC} (h : WT Tryz.prog 133 cs) : Fit .con cs := (wt_all (SizeOf.sizeOf cs + 1) cs (Nat.lt_succ_self _)).1 h
theorem fits_Decl {cs : List AC} (h : WT Tryz.prog 75 cs) : Fit .decl cs := (wt_all (SizeOf.sizeOf cs + 1) cs (Nat.lt_succ_self _)).2.1 h
theorem fits_Step {cs : List AC} (h : WT Tryz.prog 82 cs) : Fit .step cs := (wt_all (SizeOf.sizeOf cs + 1) cs (Nat.lt_succ_self _)).2.2.1 h
theorem fits_Block {cs : List AC} (h : WT Tryz.prog 29 cs) : Fit .block cs := (wt_all (SizeOf.sizeOf cs + 1) cs (Nat.lt_succ_self _)).2.2.2.1 h
theorem fits_Routine {cs : List AC} (h : WT Tryz.prog 78 cs) : Fit .routine cs := (wt_all (SizeOf.sizeOf cs + 1) cs (Nat.lt_succ_self _)).2.2.2.2.1 h
theorem fits_Normal {cs : List AC} (h : WT Tryz.prog 25 cs) : Fit .normal cs := (wt_all (SizeOf.sizeOf cs + 1) cs (Nat.lt_succ_self _)).2.2.2.2.2 h
end Go.Proofs.YtbdngmeoohjnoaaGreat

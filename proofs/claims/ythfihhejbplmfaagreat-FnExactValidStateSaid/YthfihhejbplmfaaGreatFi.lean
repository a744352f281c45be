/- What comes in at the types of the laws' arguments fits. MADE BY mkfit.py. -/
import Derived.Test.YthfihhejbplmfaaGreatPa
import Derived.Test.YthfihhejbplmfaaGreatProg
set_option linter.unusedVariables false
namespace Go.Proofs.YthfihhejbplmfaaGreat
open Go
def plainTs : List TypeId := [3, 4, 22, 23, 25, 26, 27, 28, 30, 66, 68, 70, 72, 75, 78, 140, 142]
theorem plain_ok : plainChk Tryz.prog plainTs = true := by kernel_rfl
section
variable {P : Program}
theorem wt_int {t : TypeId} (hu : P.underlying t = some (.int .i64)) {x : AC} (h : WT P t [x]) : ∃ n, x = .int n ∧ inI n := by
  cases h with
  | int h n h1 h2 => exact ⟨n, rfl, h1, h2⟩
  | bool h => rw [hu] at h; cases h
  | slice h => rw [hu] at h; cases h
  | struct h => rw [hu] at h; cases h
theorem wt_sl {t e : TypeId} (hu : P.underlying t = some (.slice e)) {k : Nat} (hk : P.cellsOf e = k) {x : AC} (h : WT P t [x]) : ∃ rows, x = .sl k rows ∧ rows.length ≤ maxI ∧ (∀ r ∈ rows, r.length = k) ∧ ∀ r ∈ rows, WT P e r := by
  subst hk
  cases h with
  | int h => rw [hu] at h; cases h
  | bool h => rw [hu] at h; cases h
  | slice h rows hm hr hw =>
    rw [hu] at h
    cases h
    exact ⟨rows, rfl, hm, hr, hw⟩
  | struct h => rw [hu] at h; cases h
theorem wt_len {t : TypeId} {fs : Array Field} (hu : P.underlying t = some (.struct fs)) {k : Nat} (hk : P.cellsOf t = k) {cs : List AC} (h : WT P t cs) : cs.length = k := by
  cases h with
  | int h => rw [hu] at h; cases h
  | bool h => rw [hu] at h; cases h
  | slice h => rw [hu] at h; cases h
  | struct h cs hl hf => rw [hl, hk]
theorem wt_field {t : TypeId} {fs : Array Field} (hu : P.underlying t = some (.struct fs)) {cs : List AC} (h : WT P t cs) (i : Nat) {f : Field} (hi : fs[i]? = some f) {tt o k : Nat} (h1 : f.type = tt) (h2 : f.offset = o) (h3 : P.cellsOf tt = k) : WT P tt ((cs.drop o).take k) := by
  subst h1 h2 h3
  cases h with
  | int h => rw [hu] at h; cases h
  | bool h => rw [hu] at h; cases h
  | slice h => rw [hu] at h; cases h
  | struct h cs hl hf =>
    rw [hu] at h
    cases h
    exact hf i f hi
end
theorem len1 {l : List AC} (h : l.length = 1) : ∃ a, l = [a] := by match l, h with | [a], _ => exact ⟨a, rfl⟩
theorem len2 {l : List AC} (h : l.length = 2) : ∃ a b, l = [a, b] := by match l, h with | [a, b], _ => exact ⟨a, b, rfl⟩
theorem len3 {l : List AC} (h : l.length = 3) : ∃ a b c, l = [a, b, c] := by match l, h with | [a, b, c], _ => exact ⟨a, b, c, rfl⟩
theorem len5 {l : List AC} (h : l.length = 5) : ∃ a b c d e, l = [a, b, c, d, e] := by match l, h with | [a, b, c, d, e], _ => exact ⟨a, b, c, d, e, rfl⟩
theorem len7 {l : List AC} (h : l.length = 7) : ∃ a b c d e f g, l = [a, b, c, d, e, f, g] := by match l, h with | [a, b, c, d, e, f, g], _ => exact ⟨a, b, c, d, e, f, g, rfl⟩
theorem len6 {l : List AC} (h : l.length = 6) : ∃ a b c d e f, l = [a, b, c, d, e, f] := by match l, h with | [a, b, c, d, e, f], _ => exact ⟨a, b, c, d, e, f, rfl⟩
theorem wt_int_3 {x : AC} (h : WT Tryz.prog 3 [x]) : ∃ n, x = .int n ∧ inI n := wt_int Tryz.underlying3 h
theorem wt_ints {x : AC} (h : WT Tryz.prog 26 [x]) : ∃ xs, x = .sl 1 (intsC xs) ∧ IntsOk xs := by
  obtain ⟨rows, rfl, hl, hr, hw⟩ := wt_sl (k := 1) Tryz.underlying26 (by kernel_rfl) h
  have key : ∀ rows : List (List AC), (∀ r ∈ rows, r.length = 1) → (∀ r ∈ rows, WT Tryz.prog 3 r) → ∃ xs, rows = intsC xs ∧ ∀ x ∈ xs, inI x := by
    intro rows
    induction rows with
    | nil => intro _ _; exact ⟨[], rfl, fun x h => by cases h⟩
    | cons r rows ih =>
      intro h1 h2
      obtain ⟨xs, rfl, hx⟩ := ih (fun r h => h1 r (List.mem_cons_of_mem _ h)) (fun r h => h2 r (List.mem_cons_of_mem _ h))
      obtain ⟨a, rfl⟩ := len1 (h1 r List.mem_cons_self)
      obtain ⟨n, rfl, hn⟩ := wt_int_3 (h2 _ List.mem_cons_self)
      refine ⟨n :: xs, rfl, fun x h => ?_⟩
      rcases List.mem_cons.1 h with rfl | h
      · exact hn
      · exact hx x h
  obtain ⟨xs, rfl, hx⟩ := key rows hr hw
  rw [intsC_len] at hl
  exact ⟨xs, rfl, hl, hx⟩
theorem fit_Block' {x : List AC} (h : Fit .block x) : ∃ (steps : List (List AC)) (r : Int), x = [.sl 5 steps, .int r] := by cases h; exact ⟨_, _, rfl⟩
theorem fit_Expr' {x : List AC} (h : Fit .expr x) : ∃ (o n : Int) (kids : List (List AC)), x = [.int o, .int n, .sl 3 kids] := by cases h; exact ⟨_, _, _, rfl⟩
def WtAll (n : Nat) : Prop := ∀ cs : List AC, SizeOf.sizeOf cs < n → (WT Tryz.prog 140 cs → Fit .con cs) ∧ (WT Tryz.prog 68 cs → Fit .decl cs) ∧ (WT Tryz.prog 75 cs → Fit .cell cs) ∧ (WT Tryz.prog 142 cs → Fit .instr cs) ∧ (WT Tryz.prog 72 cs → Fit .proc cs) ∧ (WT Tryz.prog 25 cs → Fit .image cs) ∧ (WT Tryz.prog 78 cs → Fit .frame cs) ∧ (WT Tryz.prog 30 cs → Fit .state cs)
theorem wt_Con {n : Nat} (ih : WtAll n) {cs : List AC} (hs : SizeOf.sizeOf cs < n + 1) (h : WT Tryz.prog 140 cs) : Fit .con cs := by
  have hu := Tryz.underlying140
  obtain ⟨a_, rfl⟩ := len1 (wt_len hu (by kernel_rfl) h)
  have g0 : WT Tryz.prog 26 [a_] := wt_field hu h 0 rfl (tt := 26) (o := 0) (k := 1) rfl rfl (by kernel_rfl)
  obtain ⟨fs, rfl, ifs⟩ := wt_ints g0
  exact .con fs ifs
theorem wt_Decl {n : Nat} (ih : WtAll n) {cs : List AC} (hs : SizeOf.sizeOf cs < n + 1) (h : WT Tryz.prog 68 cs) : Fit .decl cs := by
  have hu := Tryz.underlying68
  obtain ⟨a_, b_, c_, rfl⟩ := len3 (wt_len hu (by kernel_rfl) h)
  have g0 : WT Tryz.prog 3 [a_] := wt_field hu h 0 rfl (tt := 3) (o := 0) (k := 1) rfl rfl (by kernel_rfl)
  have g1 : WT Tryz.prog 3 [b_] := wt_field hu h 1 rfl (tt := 3) (o := 1) (k := 1) rfl rfl (by kernel_rfl)
  have g2 : WT Tryz.prog 66 [c_] := wt_field hu h 2 rfl (tt := 66) (o := 2) (k := 1) rfl rfl (by kernel_rfl)
  obtain ⟨f, rfl, iF⟩ := wt_int_3 g0
  obtain ⟨t, rfl, it⟩ := wt_int_3 g1
  obtain ⟨cons, rfl, lcons, _, wcons⟩ := wt_sl Tryz.underlying66 (k := 1) (by kernel_rfl) g2
  have fcons : ∀ r ∈ cons, Fit .con r := fun r hr => (ih r (by have := List.sizeOf_lt_of_mem hr; simp at hs; omega)).1 (wcons r hr)
  exact .decl f t cons iF it lcons fcons
theorem wt_Cell {n : Nat} (ih : WtAll n) {cs : List AC} (hs : SizeOf.sizeOf cs < n + 1) (h : WT Tryz.prog 75 cs) : Fit .cell cs := by
  have hu := Tryz.underlying75
  obtain ⟨a_, b_, c_, rfl⟩ := len3 (wt_len hu (by kernel_rfl) h)
  have g0 : WT Tryz.prog 3 [a_] := wt_field hu h 0 rfl (tt := 3) (o := 0) (k := 1) rfl rfl (by kernel_rfl)
  have g1 : WT Tryz.prog 3 [b_] := wt_field hu h 1 rfl (tt := 3) (o := 1) (k := 1) rfl rfl (by kernel_rfl)
  have g2 : WT Tryz.prog 26 [c_] := wt_field hu h 2 rfl (tt := 26) (o := 2) (k := 1) rfl rfl (by kernel_rfl)
  obtain ⟨c, rfl, ic⟩ := wt_int_3 g0
  obtain ⟨t, rfl, it⟩ := wt_int_3 g1
  obtain ⟨fs, rfl, ifs⟩ := wt_ints g2
  exact .cell c t fs ic it ifs
theorem wt_Instr {n : Nat} (ih : WtAll n) {cs : List AC} (hs : SizeOf.sizeOf cs < n + 1) (h : WT Tryz.prog 142 cs) : Fit .instr cs := by
  have hu := Tryz.underlying142
  obtain ⟨a_, b_, c_, d_, e_, f_, rfl⟩ := len6 (wt_len hu (by kernel_rfl) h)
  have g0 : WT Tryz.prog 3 [a_] := wt_field hu h 0 rfl (tt := 3) (o := 0) (k := 1) rfl rfl (by kernel_rfl)
  have g1 : WT Tryz.prog 3 [b_] := wt_field hu h 1 rfl (tt := 3) (o := 1) (k := 1) rfl rfl (by kernel_rfl)
  have g2 : WT Tryz.prog 3 [c_] := wt_field hu h 2 rfl (tt := 3) (o := 2) (k := 1) rfl rfl (by kernel_rfl)
  have g3 : WT Tryz.prog 3 [d_] := wt_field hu h 3 rfl (tt := 3) (o := 3) (k := 1) rfl rfl (by kernel_rfl)
  have g4 : WT Tryz.prog 26 [e_] := wt_field hu h 4 rfl (tt := 26) (o := 4) (k := 1) rfl rfl (by kernel_rfl)
  have g5 : WT Tryz.prog 26 [f_] := wt_field hu h 5 rfl (tt := 26) (o := 5) (k := 1) rfl rfl (by kernel_rfl)
  obtain ⟨o, rfl, io⟩ := wt_int_3 g0
  obtain ⟨d, rfl, id_⟩ := wt_int_3 g1
  obtain ⟨n, rfl, in_⟩ := wt_int_3 g2
  obtain ⟨i, rfl, ii⟩ := wt_int_3 g3
  obtain ⟨args, rfl, iargs⟩ := wt_ints g4
  obtain ⟨jumps, rfl, ijumps⟩ := wt_ints g5
  exact .instr o d n i args jumps io id_ in_ ii iargs ijumps
theorem wt_Proc {n : Nat} (ih : WtAll n) {cs : List AC} (hs : SizeOf.sizeOf cs < n + 1) (h : WT Tryz.prog 72 cs) : Fit .proc cs := by
  have hu := Tryz.underlying72
  obtain ⟨a_, b_, c_, d_, e_, rfl⟩ := len5 (wt_len hu (by kernel_rfl) h)
  have g0 : WT Tryz.prog 26 [a_] := wt_field hu h 0 rfl (tt := 26) (o := 0) (k := 1) rfl rfl (by kernel_rfl)
  have g1 : WT Tryz.prog 26 [b_] := wt_field hu h 1 rfl (tt := 26) (o := 1) (k := 1) rfl rfl (by kernel_rfl)
  have g2 : WT Tryz.prog 3 [c_] := wt_field hu h 2 rfl (tt := 3) (o := 2) (k := 1) rfl rfl (by kernel_rfl)
  have g3 : WT Tryz.prog 3 [d_] := wt_field hu h 3 rfl (tt := 3) (o := 3) (k := 1) rfl rfl (by kernel_rfl)
  have g4 : WT Tryz.prog 70 [e_] := wt_field hu h 4 rfl (tt := 70) (o := 4) (k := 1) rfl rfl (by kernel_rfl)
  obtain ⟨ps, rfl, ips⟩ := wt_ints g0
  obtain ⟨lent, rfl, ilent⟩ := wt_ints g1
  obtain ⟨r, rfl, ir⟩ := wt_int_3 g2
  obtain ⟨regs, rfl, iregs⟩ := wt_int_3 g3
  obtain ⟨code, rfl, lcode, _, wcode⟩ := wt_sl Tryz.underlying70 (k := 6) (by kernel_rfl) g4
  have fcode : ∀ r ∈ code, Fit .instr r := fun r hr => (ih r (by have := List.sizeOf_lt_of_mem hr; simp at hs; omega)).2.2.2.1 (wcode r hr)
  exact .proc ps lent r regs code ips ilent ir iregs lcode fcode
theorem wt_Image {n : Nat} (ih : WtAll n) {cs : List AC} (hs : SizeOf.sizeOf cs < n + 1) (h : WT Tryz.prog 25 cs) : Fit .image cs := by
  have hu := Tryz.underlying25
  obtain ⟨a_, b_, rfl⟩ := len2 (wt_len hu (by kernel_rfl) h)
  have g0 : WT Tryz.prog 22 [a_] := wt_field hu h 0 rfl (tt := 22) (o := 0) (k := 1) rfl rfl (by kernel_rfl)
  have g1 : WT Tryz.prog 23 [b_] := wt_field hu h 1 rfl (tt := 23) (o := 1) (k := 1) rfl rfl (by kernel_rfl)
  obtain ⟨ds, rfl, lds, _, wds⟩ := wt_sl Tryz.underlying22 (k := 3) (by kernel_rfl) g0
  obtain ⟨procs, rfl, lprocs, _, wprocs⟩ := wt_sl Tryz.underlying23 (k := 5) (by kernel_rfl) g1
  have fds : ∀ r ∈ ds, Fit .decl r := fun r hr => (ih r (by have := List.sizeOf_lt_of_mem hr; simp at hs; omega)).2.1 (wds r hr)
  have fprocs : ∀ r ∈ procs, Fit .proc r := fun r hr => (ih r (by have := List.sizeOf_lt_of_mem hr; simp at hs; omega)).2.2.2.2.1 (wprocs r hr)
  exact .image ds procs lds lprocs fds fprocs
theorem wt_Frame {n : Nat} (ih : WtAll n) {cs : List AC} (hs : SizeOf.sizeOf cs < n + 1) (h : WT Tryz.prog 78 cs) : Fit .frame cs := by
  have hu := Tryz.underlying78
  obtain ⟨a_, b_, c_, d_, e_, f_, rfl⟩ := len6 (wt_len hu (by kernel_rfl) h)
  have g0 : WT Tryz.prog 3 [a_] := wt_field hu h 0 rfl (tt := 3) (o := 0) (k := 1) rfl rfl (by kernel_rfl)
  have g1 : WT Tryz.prog 3 [b_] := wt_field hu h 1 rfl (tt := 3) (o := 1) (k := 1) rfl rfl (by kernel_rfl)
  have g2 : WT Tryz.prog 3 [c_] := wt_field hu h 2 rfl (tt := 3) (o := 2) (k := 1) rfl rfl (by kernel_rfl)
  have g3 : WT Tryz.prog 26 [d_] := wt_field hu h 3 rfl (tt := 26) (o := 3) (k := 1) rfl rfl (by kernel_rfl)
  have g4 : WT Tryz.prog 26 [e_] := wt_field hu h 4 rfl (tt := 26) (o := 4) (k := 1) rfl rfl (by kernel_rfl)
  have g5 : WT Tryz.prog 26 [f_] := wt_field hu h 5 rfl (tt := 26) (o := 5) (k := 1) rfl rfl (by kernel_rfl)
  obtain ⟨p, rfl, ip⟩ := wt_int_3 g0
  obtain ⟨a, rfl, ia⟩ := wt_int_3 g1
  obtain ⟨d, rfl, id_⟩ := wt_int_3 g2
  obtain ⟨regs, rfl, iregs⟩ := wt_ints g3
  obtain ⟨own, rfl, iown⟩ := wt_ints g4
  obtain ⟨held, rfl, iheld⟩ := wt_ints g5
  exact .frame p a d regs own held ip ia id_ iregs iown iheld
theorem wt_State {n : Nat} (ih : WtAll n) {cs : List AC} (hs : SizeOf.sizeOf cs < n + 1) (h : WT Tryz.prog 30 cs) : Fit .state cs := by
  have hu := Tryz.underlying30
  obtain ⟨a_, b_, c_, d_, e_, f_, g_, rfl⟩ := len7 (wt_len hu (by kernel_rfl) h)
  have g0 : WT Tryz.prog 3 [a_] := wt_field hu h 0 rfl (tt := 3) (o := 0) (k := 1) rfl rfl (by kernel_rfl)
  have g1 : WT Tryz.prog 3 [b_] := wt_field hu h 1 rfl (tt := 3) (o := 1) (k := 1) rfl rfl (by kernel_rfl)
  have g2 : WT Tryz.prog 3 [c_] := wt_field hu h 2 rfl (tt := 3) (o := 2) (k := 1) rfl rfl (by kernel_rfl)
  have g3 : WT Tryz.prog 3 [d_] := wt_field hu h 3 rfl (tt := 3) (o := 3) (k := 1) rfl rfl (by kernel_rfl)
  have g4 : WT Tryz.prog 26 [e_] := wt_field hu h 4 rfl (tt := 26) (o := 4) (k := 1) rfl rfl (by kernel_rfl)
  have g5 : WT Tryz.prog 27 [f_] := wt_field hu h 5 rfl (tt := 27) (o := 5) (k := 1) rfl rfl (by kernel_rfl)
  have g6 : WT Tryz.prog 28 [g_] := wt_field hu h 6 rfl (tt := 28) (o := 6) (k := 1) rfl rfl (by kernel_rfl)
  obtain ⟨s, rfl, is⟩ := wt_int_3 g0
  obtain ⟨v, rfl, iv⟩ := wt_int_3 g1
  obtain ⟨c, rfl, ic⟩ := wt_int_3 g2
  obtain ⟨m, rfl, im⟩ := wt_int_3 g3
  obtain ⟨out, rfl, iout⟩ := wt_ints g4
  obtain ⟨heap, rfl, lheap, _, wheap⟩ := wt_sl Tryz.underlying27 (k := 3) (by kernel_rfl) g5
  obtain ⟨frames, rfl, lframes, _, wframes⟩ := wt_sl Tryz.underlying28 (k := 6) (by kernel_rfl) g6
  have fheap : ∀ r ∈ heap, Fit .cell r := fun r hr => (ih r (by have := List.sizeOf_lt_of_mem hr; simp at hs; omega)).2.2.1 (wheap r hr)
  have fframes : ∀ r ∈ frames, Fit .frame r := fun r hr => (ih r (by have := List.sizeOf_lt_of_mem hr; simp at hs; omega)).2.2.2.2.2.2.1 (wframes r hr)
  exact .state s v c m out heap frames is iv ic im iout lheap lframes fheap fframes
theorem wt_all : ∀ n, WtAll n
  | 0 => fun cs h => absurd h (Nat.not_lt_zero _)
  | n + 1 => fun cs h => ⟨wt_Con (wt_all n) h, wt_Decl (wt_all n) h, wt_Cell (wt_all n) h, wt_Instr (wt_all n) h, wt_Proc (wt_all n) h, wt_Image (wt_all n) h, wt_Frame (wt_all n) h, wt_State (wt_all n) h⟩
theorem fits_Con {cs : List AC} (h : WT Tryz.prog 140 cs) : Fit .con cs := (wt_all (SizeOf.sizeOf cs + 1) cs (Nat.lt_succ_self _)).1 h
theorem fits_Decl {cs : List AC} (h : WT Tryz.prog 68 cs) : Fit .decl cs := (wt_all (SizeOf.sizeOf cs + 1) cs (Nat.lt_succ_self _)).2.1 h
theorem fits_Cell {cs : List AC} (h : WT Tryz.prog 75 cs) : Fit .cell cs := (wt_all (SizeOf.sizeOf cs + 1) cs (Nat.lt_succ_self _)).2.2.1 h
theorem fits_Instr {cs : List AC} (h : WT Tryz.prog 142 cs) : Fit .instr cs := (wt_all (SizeOf.sizeOf cs + 1) cs (Nat.lt_succ_self _)).2.2.2.1 h
theorem fits_Proc {cs : List AC} (h : WT Tryz.prog 72 cs) : Fit .proc cs := (wt_all (SizeOf.sizeOf cs + 1) cs (Nat.lt_succ_self _)).2.2.2.2.1 h
theorem fits_Image {cs : List AC} (h : WT Tryz.prog 25 cs) : Fit .image cs := (wt_all (SizeOf.sizeOf cs + 1) cs (Nat.lt_succ_self _)).2.2.2.2.2.1 h
theorem fits_Frame {cs : List AC} (h : WT Tryz.prog 78 cs) : Fit .frame cs := (wt_all (SizeOf.sizeOf cs + 1) cs (Nat.lt_succ_self _)).2.2.2.2.2.2.1 h
theorem fits_State {cs : List AC} (h : WT Tryz.prog 30 cs) : Fit .state cs := (wt_all (SizeOf.sizeOf cs + 1) cs (Nat.lt_succ_self _)).2.2.2.2.2.2.2 h
theorem fits_ConS {x : AC} (h : WT Tryz.prog 66 [x]) : ∃ rows, x = .sl 1 rows ∧ rows.length ≤ maxI ∧ ∀ r ∈ rows, Fit .con r := by
  obtain ⟨rows, rfl, hl, _, hw⟩ := wt_sl Tryz.underlying66 (k := 1) (by kernel_rfl) h
  exact ⟨rows, rfl, hl, fun r hr => fits_Con (hw r hr)⟩
theorem fits_DeclS {x : AC} (h : WT Tryz.prog 22 [x]) : ∃ rows, x = .sl 3 rows ∧ rows.length ≤ maxI ∧ ∀ r ∈ rows, Fit .decl r := by
  obtain ⟨rows, rfl, hl, _, hw⟩ := wt_sl Tryz.underlying22 (k := 3) (by kernel_rfl) h
  exact ⟨rows, rfl, hl, fun r hr => fits_Decl (hw r hr)⟩
theorem fits_CellS {x : AC} (h : WT Tryz.prog 27 [x]) : ∃ rows, x = .sl 3 rows ∧ rows.length ≤ maxI ∧ ∀ r ∈ rows, Fit .cell r := by
  obtain ⟨rows, rfl, hl, _, hw⟩ := wt_sl Tryz.underlying27 (k := 3) (by kernel_rfl) h
  exact ⟨rows, rfl, hl, fun r hr => fits_Cell (hw r hr)⟩
theorem fits_InstrS {x : AC} (h : WT Tryz.prog 70 [x]) : ∃ rows, x = .sl 6 rows ∧ rows.length ≤ maxI ∧ ∀ r ∈ rows, Fit .instr r := by
  obtain ⟨rows, rfl, hl, _, hw⟩ := wt_sl Tryz.underlying70 (k := 6) (by kernel_rfl) h
  exact ⟨rows, rfl, hl, fun r hr => fits_Instr (hw r hr)⟩
theorem fits_ProcS {x : AC} (h : WT Tryz.prog 23 [x]) : ∃ rows, x = .sl 5 rows ∧ rows.length ≤ maxI ∧ ∀ r ∈ rows, Fit .proc r := by
  obtain ⟨rows, rfl, hl, _, hw⟩ := wt_sl Tryz.underlying23 (k := 5) (by kernel_rfl) h
  exact ⟨rows, rfl, hl, fun r hr => fits_Proc (hw r hr)⟩
theorem fits_FrameS {x : AC} (h : WT Tryz.prog 28 [x]) : ∃ rows, x = .sl 6 rows ∧ rows.length ≤ maxI ∧ ∀ r ∈ rows, Fit .frame r := by
  obtain ⟨rows, rfl, hl, _, hw⟩ := wt_sl Tryz.underlying28 (k := 6) (by kernel_rfl) h
  exact ⟨rows, rfl, hl, fun r hr => fits_Frame (hw r hr)⟩
end Go.Proofs.YthfihhejbplmfaaGreat

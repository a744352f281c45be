/- Data that fit: measured, held against a copy, copied. MADE BY mkdata.py. -/
import Derived.Test.YthfihhejbplmfaaGreatPa
import Derived.Test.YthfihhejbplmfaaGreatLf
set_option linter.unusedVariables false
set_option linter.unusedSimpArgs false
namespace Go.Proofs.YthfihhejbplmfaaGreat
open Go
def SzP (f : List SV → Option AV) (cs : List AC) : Prop := ∀ left : Int, 0 ≤ left → left ≤ 1048576 → ∃ r, f [.agg cs, .cell (.int left)] = some (.v (.cell (.int r))) ∧ SzOk (cS cs) left r
def EqP (f : List SV → Option AV) (cs : List AC) : Prop := f [.agg cs, .agg cs] = some (.v (.cell (.bool true)))
def ToP (f : List SV → Option AV) (cs : List AC) : Prop := cS cs ≤ 1048576 → f [.agg cs] = some (.v (.agg cs))
theorem ext_id {call : Orc} {m : MapE} {k : Nat} {rows : List (List AC)} (hk : k = m.sh.length) (hk2 : m.sh'.length = k) (hl : rows.length ≤ 1048576) (hs : ∀ x ∈ rows, shOk m.sh x = true) (hr : ∀ x ∈ rows, rowE call m x = some x) : extRun call (.map m) [.cell (.sl k rows)] = some (.v (.cell (.sl k rows))) := by
  have key : ∀ rows : List (List AC), (∀ x ∈ rows, rowE call m x = some x) → rowsE call m rows = some rows := by
    intro rows
    induction rows with
    | nil => intro _; rfl
    | cons x rows ih =>
      intro h
      simp only [rowsE, h x List.mem_cons_self, Option.bind_some, ih (fun y hy => h y (List.mem_cons_of_mem _ hy)), Option.map_some]
  unfold extRun
  simp only
  rw [if_pos ⟨hk, hl, List.all_eq_true.2 hs⟩, key rows hr]
  simp only [Option.map_some, hk2]
theorem fit_Con {x : List AC} (h : Fit .con x) : ∃ (fs : List Int), x = [.sl 1 (intsC fs)] := by cases h; exact ⟨_, rfl⟩
theorem fit_Decl {x : List AC} (h : Fit .decl x) : ∃ (f : Int) (t : Int) (cons : List (List AC)), x = [.int f, .int t, .sl 1 cons] := by cases h; exact ⟨_, _, _, rfl⟩
theorem fit_Cell {x : List AC} (h : Fit .cell x) : ∃ (c : Int) (t : Int) (fs : List Int), x = [.int c, .int t, .sl 1 (intsC fs)] := by cases h; exact ⟨_, _, _, rfl⟩
theorem fit_Instr {x : List AC} (h : Fit .instr x) : ∃ (o : Int) (d : Int) (n : Int) (i : Int) (args : List Int) (jumps : List Int), x = [.int o, .int d, .int n, .int i, .sl 1 (intsC args), .sl 1 (intsC jumps)] := by cases h; exact ⟨_, _, _, _, _, _, rfl⟩
theorem fit_Proc {x : List AC} (h : Fit .proc x) : ∃ (ps : List Int) (lent : List Int) (r : Int) (regs : Int) (code : List (List AC)), x = [.sl 1 (intsC ps), .sl 1 (intsC lent), .int r, .int regs, .sl 6 code] := by cases h; exact ⟨_, _, _, _, _, rfl⟩
theorem fit_Frame {x : List AC} (h : Fit .frame x) : ∃ (p : Int) (a : Int) (d : Int) (regs : List Int) (own : List Int) (held : List Int), x = [.int p, .int a, .int d, .sl 1 (intsC regs), .sl 1 (intsC own), .sl 1 (intsC held)] := by cases h; exact ⟨_, _, _, _, _, _, rfl⟩
theorem sz_IntS (xs : List Int) (hx : xs.length ≤ maxI) (left : Int) (h0 : 0 ≤ left) (h1 : left ≤ 1048576) : ∃ r, laws_szIntS [.cell (.sl 1 (intsC xs)), .cell (.int left)] = some (.v (.cell (.int r))) ∧ SzOk xs.length left r := by
  have e : wrapI (left - (((intsC xs).length : Nat) : Int)) = left - xs.length := by rw [intsC_len]; exact wr (by unfold maxI at hx; omega) (by omega)
  by_cases h : (xs.length : Int) ≤ left
  · exact ⟨left - xs.length, laws_szIntS_le (bifF (by rw [e]; exact decide_eq_false (by omega)) (by rw [e])), .inl ⟨h, rfl⟩⟩
  · exact ⟨-1, laws_szIntS_le (bifT (by rw [e]; exact decide_eq_true (by omega)) rfl), .inr ⟨by omega, rfl⟩⟩
theorem eq_IntS (xs : List Int) (hx : xs.length ≤ maxI) : laws_eqIntS [.cell (.sl 1 (intsC xs)), .cell (.sl 1 (intsC xs))] = some (.v (.cell (.bool true))) := by
  have key : ∀ m k : Nat, k + m = xs.length → laws_eqIntS_L0 (intsC xs) (intsC xs) (k : Int) = some (.v (.cell (.bool true))) := by
    intro m
    induction m with
    | zero => intro k hk; exact laws_eqIntS_L0_le (bifF (decide_eq_false (by rw [intsC_len]; omega)) rfl)
    | succ m ih =>
      intro k hk
      refine laws_eqIntS_L0_le (bifT (decide_eq_true (by rw [intsC_len]; omega)) (atNum (by omega) (atNum (by omega) (bifF (by simp) ?_))))
      rw [wrk (by omega)]
      exact ih (k + 1) (by omega)
  exact laws_eqIntS_le (bifF (by simp) (key xs.length 0 (by omega)))
theorem to_IntS (xs : List Int) (hx : xs.length ≤ 1048576) : laws_toIntS [.cell (.sl 1 (intsC xs))] = some (.v (.cell (.sl 1 (intsC xs)))) := by
  refine V_ext (by kernel_rfl) rfl (ext_id rfl rfl (by rw [intsC_len]; exact hx) (fun x hx => ?_) (fun x _ => rfl))
  simp only [intsC, List.mem_map] at hx
  obtain ⟨n, _, rfl⟩ := hx
  rfl
theorem sz_ConS (rows : List (List AC)) (hl : rows.length ≤ maxI) (hf : ∀ x ∈ rows, Fit .con x) (h : ∀ x ∈ rows, SzP laws_szCon x) (left : Int) (h0 : 0 ≤ left) (h1 : left ≤ 1048576) :
    ∃ r, laws_szConS [.cell (.sl 1 rows), .cell (.int left)] = some (.v (.cell (.int r))) ∧ SzOk (rows.length + rsS rows) left r := by
  have key : ∀ m k : Nat, k + m = rows.length → ∀ left : Int, 0 ≤ left → left ≤ 1048576 → ∃ r, laws_szConS_L0 rows left (k : Int) = some (.v (.cell (.int r))) ∧ SzOk (rsS (rows.drop k)) left r := by
    intro m
    induction m with
    | zero =>
      intro k hk left h0 h1
      refine ⟨left, laws_szConS_L0_le (bifF (decide_eq_false (by omega)) rfl), .inl ?_⟩
      rw [List.drop_eq_nil_of_le (by omega), rsS_nil]
      exact ⟨by omega, by omega⟩
    | succ m ih =>
      intro k hk left h0 h1
      have hlt : k < rows.length := by omega
      obtain ⟨fs, e⟩ := fit_Con (hf _ (mem_getD hlt []))
      obtain ⟨r1, g1, g2⟩ := h _ (mem_getD hlt []) left h0 h1
      rw [e] at g1
      rw [rsS_drop hlt]
      rcases g2 with ⟨hle, rfl⟩ | ⟨hlt', rfl⟩
      · obtain ⟨r2, k1, k2⟩ := ih (k + 1) (by omega) (left - cS (rows.getD k [])) (by omega) (by omega)
        refine ⟨r2, laws_szConS_L0_le (bifT (decide_eq_true (by omega)) (atCon hlt e (callI g1 (bifF (decide_eq_false (by omega)) ?_)))), ?_⟩
        · rw [wrk (by omega)]; exact k1
        · unfold SzOk at k2 ⊢; omega
      · exact ⟨-1, laws_szConS_L0_le (bifT (decide_eq_true (by omega)) (atCon hlt e (callI g1 (bifT (decide_eq_true (by omega)) rfl)))), .inr ⟨by omega, rfl⟩⟩
  have e : wrapI (left - ((rows.length : Nat) : Int)) = left - rows.length := wr (by unfold maxI at hl; omega) (by omega)
  by_cases hle : (rows.length : Int) ≤ left
  · obtain ⟨r, g1, g2⟩ := key rows.length 0 (by omega) (left - rows.length) (by omega) (by omega)
    refine ⟨r, laws_szConS_le (bifF (by rw [e]; exact decide_eq_false (by omega)) (by rw [e]; exact g1)), ?_⟩
    rw [List.drop_zero] at g2
    unfold SzOk at g2 ⊢; omega
  · exact ⟨-1, laws_szConS_le (bifT (by rw [e]; exact decide_eq_true (by omega)) rfl), .inr ⟨by omega, rfl⟩⟩
theorem eq_ConS (rows : List (List AC)) (hl : rows.length ≤ maxI) (hf : ∀ x ∈ rows, Fit .con x) (h : ∀ x ∈ rows, EqP laws_eqCon x) : laws_eqConS [.cell (.sl 1 rows), .cell (.sl 1 rows)] = some (.v (.cell (.bool true))) := by
  have key : ∀ m k : Nat, k + m = rows.length → laws_eqConS_L0 rows rows (k : Int) = some (.v (.cell (.bool true))) := by
    intro m
    induction m with
    | zero => intro k hk; exact laws_eqConS_L0_le (bifF (decide_eq_false (by omega)) rfl)
    | succ m ih =>
      intro k hk
      have hlt : k < rows.length := by omega
      obtain ⟨fs, e⟩ := fit_Con (hf _ (mem_getD hlt []))
      have g : EqP laws_eqCon _ := h _ (mem_getD hlt [])
      rw [e] at g
      refine laws_eqConS_L0_le (bifT (decide_eq_true (by omega)) (atCon hlt e (atCon hlt e (callB g (bifF rfl ?_)))))
      rw [wrk (by omega)]
      exact ih (k + 1) (by omega)
  exact laws_eqConS_le (bifF (by simp) (key rows.length 0 (by omega)))
theorem to_ConS (rows : List (List AC)) (hl : rows.length ≤ 1048576) (hf : ∀ x ∈ rows, Fit .con x) (h : ∀ x ∈ rows, laws_toCon [.agg x] = some (.v (.agg x))) : laws_toConS [.cell (.sl 1 rows)] = some (.v (.cell (.sl 1 rows))) := by
  refine V_ext (by kernel_rfl) rfl (ext_id rfl rfl hl (fun x hx => ?_) (fun x hx => ?_))
  · obtain ⟨fs, rfl⟩ := fit_Con (hf x hx)
    rfl
  · have g := h x hx
    obtain ⟨fs, rfl⟩ := fit_Con (hf x hx)
    have g' : V Tryz.prog lay sig.has ext 100 [.agg _] = some (.v (.agg _)) := g
    unfold rowE
    simp only [mkS, if_true, g', Option.bind_some]
    rfl
theorem sz_DeclS (rows : List (List AC)) (hl : rows.length ≤ maxI) (hf : ∀ x ∈ rows, Fit .decl x) (h : ∀ x ∈ rows, SzP laws_szDecl x) (left : Int) (h0 : 0 ≤ left) (h1 : left ≤ 1048576) :
    ∃ r, laws_szDeclS [.cell (.sl 3 rows), .cell (.int left)] = some (.v (.cell (.int r))) ∧ SzOk (rows.length + rsS rows) left r := by
  have key : ∀ m k : Nat, k + m = rows.length → ∀ left : Int, 0 ≤ left → left ≤ 1048576 → ∃ r, laws_szDeclS_L0 rows left (k : Int) = some (.v (.cell (.int r))) ∧ SzOk (rsS (rows.drop k)) left r := by
    intro m
    induction m with
    | zero =>
      intro k hk left h0 h1
      refine ⟨left, laws_szDeclS_L0_le (bifF (decide_eq_false (by omega)) rfl), .inl ?_⟩
      rw [List.drop_eq_nil_of_le (by omega), rsS_nil]
      exact ⟨by omega, by omega⟩
    | succ m ih =>
      intro k hk left h0 h1
      have hlt : k < rows.length := by omega
      obtain ⟨f, t, cons, e⟩ := fit_Decl (hf _ (mem_getD hlt []))
      obtain ⟨r1, g1, g2⟩ := h _ (mem_getD hlt []) left h0 h1
      rw [e] at g1
      rw [rsS_drop hlt]
      rcases g2 with ⟨hle, rfl⟩ | ⟨hlt', rfl⟩
      · obtain ⟨r2, k1, k2⟩ := ih (k + 1) (by omega) (left - cS (rows.getD k [])) (by omega) (by omega)
        refine ⟨r2, laws_szDeclS_L0_le (bifT (decide_eq_true (by omega)) (atDecl hlt e (callI g1 (bifF (decide_eq_false (by omega)) ?_)))), ?_⟩
        · rw [wrk (by omega)]; exact k1
        · unfold SzOk at k2 ⊢; omega
      · exact ⟨-1, laws_szDeclS_L0_le (bifT (decide_eq_true (by omega)) (atDecl hlt e (callI g1 (bifT (decide_eq_true (by omega)) rfl)))), .inr ⟨by omega, rfl⟩⟩
  have e : wrapI (left - ((rows.length : Nat) : Int)) = left - rows.length := wr (by unfold maxI at hl; omega) (by omega)
  by_cases hle : (rows.length : Int) ≤ left
  · obtain ⟨r, g1, g2⟩ := key rows.length 0 (by omega) (left - rows.length) (by omega) (by omega)
    refine ⟨r, laws_szDeclS_le (bifF (by rw [e]; exact decide_eq_false (by omega)) (by rw [e]; exact g1)), ?_⟩
    rw [List.drop_zero] at g2
    unfold SzOk at g2 ⊢; omega
  · exact ⟨-1, laws_szDeclS_le (bifT (by rw [e]; exact decide_eq_true (by omega)) rfl), .inr ⟨by omega, rfl⟩⟩
theorem eq_DeclS (rows : List (List AC)) (hl : rows.length ≤ maxI) (hf : ∀ x ∈ rows, Fit .decl x) (h : ∀ x ∈ rows, EqP laws_eqDecl x) : laws_eqDeclS [.cell (.sl 3 rows), .cell (.sl 3 rows)] = some (.v (.cell (.bool true))) := by
  have key : ∀ m k : Nat, k + m = rows.length → laws_eqDeclS_L0 rows rows (k : Int) = some (.v (.cell (.bool true))) := by
    intro m
    induction m with
    | zero => intro k hk; exact laws_eqDeclS_L0_le (bifF (decide_eq_false (by omega)) rfl)
    | succ m ih =>
      intro k hk
      have hlt : k < rows.length := by omega
      obtain ⟨f, t, cons, e⟩ := fit_Decl (hf _ (mem_getD hlt []))
      have g : EqP laws_eqDecl _ := h _ (mem_getD hlt [])
      rw [e] at g
      refine laws_eqDeclS_L0_le (bifT (decide_eq_true (by omega)) (atDecl hlt e (atDecl hlt e (callB g (bifF rfl ?_)))))
      rw [wrk (by omega)]
      exact ih (k + 1) (by omega)
  exact laws_eqDeclS_le (bifF (by simp) (key rows.length 0 (by omega)))
theorem to_DeclS (rows : List (List AC)) (hl : rows.length ≤ 1048576) (hf : ∀ x ∈ rows, Fit .decl x) (h : ∀ x ∈ rows, laws_toDecl [.agg x] = some (.v (.agg x))) : laws_toDeclS [.cell (.sl 3 rows)] = some (.v (.cell (.sl 3 rows))) := by
  refine V_ext (by kernel_rfl) rfl (ext_id rfl rfl hl (fun x hx => ?_) (fun x hx => ?_))
  · obtain ⟨f, t, cons, rfl⟩ := fit_Decl (hf x hx)
    rfl
  · have g := h x hx
    obtain ⟨f, t, cons, rfl⟩ := fit_Decl (hf x hx)
    have g' : V Tryz.prog lay sig.has ext 44 [.agg _] = some (.v (.agg _)) := g
    unfold rowE
    simp only [mkS, if_true, g', Option.bind_some]
    rfl
theorem sz_CellS (rows : List (List AC)) (hl : rows.length ≤ maxI) (hf : ∀ x ∈ rows, Fit .cell x) (h : ∀ x ∈ rows, SzP laws_szCell x) (left : Int) (h0 : 0 ≤ left) (h1 : left ≤ 1048576) :
    ∃ r, laws_szCellS [.cell (.sl 3 rows), .cell (.int left)] = some (.v (.cell (.int r))) ∧ SzOk (rows.length + rsS rows) left r := by
  have key : ∀ m k : Nat, k + m = rows.length → ∀ left : Int, 0 ≤ left → left ≤ 1048576 → ∃ r, laws_szCellS_L0 rows left (k : Int) = some (.v (.cell (.int r))) ∧ SzOk (rsS (rows.drop k)) left r := by
    intro m
    induction m with
    | zero =>
      intro k hk left h0 h1
      refine ⟨left, laws_szCellS_L0_le (bifF (decide_eq_false (by omega)) rfl), .inl ?_⟩
      rw [List.drop_eq_nil_of_le (by omega), rsS_nil]
      exact ⟨by omega, by omega⟩
    | succ m ih =>
      intro k hk left h0 h1
      have hlt : k < rows.length := by omega
      obtain ⟨c, t, fs, e⟩ := fit_Cell (hf _ (mem_getD hlt []))
      obtain ⟨r1, g1, g2⟩ := h _ (mem_getD hlt []) left h0 h1
      rw [e] at g1
      rw [rsS_drop hlt]
      rcases g2 with ⟨hle, rfl⟩ | ⟨hlt', rfl⟩
      · obtain ⟨r2, k1, k2⟩ := ih (k + 1) (by omega) (left - cS (rows.getD k [])) (by omega) (by omega)
        refine ⟨r2, laws_szCellS_L0_le (bifT (decide_eq_true (by omega)) (atDecl hlt e (callI g1 (bifF (decide_eq_false (by omega)) ?_)))), ?_⟩
        · rw [wrk (by omega)]; exact k1
        · unfold SzOk at k2 ⊢; omega
      · exact ⟨-1, laws_szCellS_L0_le (bifT (decide_eq_true (by omega)) (atDecl hlt e (callI g1 (bifT (decide_eq_true (by omega)) rfl)))), .inr ⟨by omega, rfl⟩⟩
  have e : wrapI (left - ((rows.length : Nat) : Int)) = left - rows.length := wr (by unfold maxI at hl; omega) (by omega)
  by_cases hle : (rows.length : Int) ≤ left
  · obtain ⟨r, g1, g2⟩ := key rows.length 0 (by omega) (left - rows.length) (by omega) (by omega)
    refine ⟨r, laws_szCellS_le (bifF (by rw [e]; exact decide_eq_false (by omega)) (by rw [e]; exact g1)), ?_⟩
    rw [List.drop_zero] at g2
    unfold SzOk at g2 ⊢; omega
  · exact ⟨-1, laws_szCellS_le (bifT (by rw [e]; exact decide_eq_true (by omega)) rfl), .inr ⟨by omega, rfl⟩⟩
theorem eq_CellS (rows : List (List AC)) (hl : rows.length ≤ maxI) (hf : ∀ x ∈ rows, Fit .cell x) (h : ∀ x ∈ rows, EqP laws_eqCell x) : laws_eqCellS [.cell (.sl 3 rows), .cell (.sl 3 rows)] = some (.v (.cell (.bool true))) := by
  have key : ∀ m k : Nat, k + m = rows.length → laws_eqCellS_L0 rows rows (k : Int) = some (.v (.cell (.bool true))) := by
    intro m
    induction m with
    | zero => intro k hk; exact laws_eqCellS_L0_le (bifF (decide_eq_false (by omega)) rfl)
    | succ m ih =>
      intro k hk
      have hlt : k < rows.length := by omega
      obtain ⟨c, t, fs, e⟩ := fit_Cell (hf _ (mem_getD hlt []))
      have g : EqP laws_eqCell _ := h _ (mem_getD hlt [])
      rw [e] at g
      refine laws_eqCellS_L0_le (bifT (decide_eq_true (by omega)) (atDecl hlt e (atDecl hlt e (callB g (bifF rfl ?_)))))
      rw [wrk (by omega)]
      exact ih (k + 1) (by omega)
  exact laws_eqCellS_le (bifF (by simp) (key rows.length 0 (by omega)))
theorem to_CellS (rows : List (List AC)) (hl : rows.length ≤ 1048576) (hf : ∀ x ∈ rows, Fit .cell x) (h : ∀ x ∈ rows, laws_toCell [.agg x] = some (.v (.agg x))) : laws_toCellS [.cell (.sl 3 rows)] = some (.v (.cell (.sl 3 rows))) := by
  refine V_ext (by kernel_rfl) rfl (ext_id rfl rfl hl (fun x hx => ?_) (fun x hx => ?_))
  · obtain ⟨c, t, fs, rfl⟩ := fit_Cell (hf x hx)
    rfl
  · have g := h x hx
    obtain ⟨c, t, fs, rfl⟩ := fit_Cell (hf x hx)
    have g' : V Tryz.prog lay sig.has ext 46 [.agg _] = some (.v (.agg _)) := g
    unfold rowE
    simp only [mkS, if_true, g', Option.bind_some]
    rfl
theorem sz_InstrS (rows : List (List AC)) (hl : rows.length ≤ maxI) (hf : ∀ x ∈ rows, Fit .instr x) (h : ∀ x ∈ rows, SzP laws_szInstr x) (left : Int) (h0 : 0 ≤ left) (h1 : left ≤ 1048576) :
    ∃ r, laws_szInstrS [.cell (.sl 6 rows), .cell (.int left)] = some (.v (.cell (.int r))) ∧ SzOk (rows.length + rsS rows) left r := by
  have key : ∀ m k : Nat, k + m = rows.length → ∀ left : Int, 0 ≤ left → left ≤ 1048576 → ∃ r, laws_szInstrS_L0 rows left (k : Int) = some (.v (.cell (.int r))) ∧ SzOk (rsS (rows.drop k)) left r := by
    intro m
    induction m with
    | zero =>
      intro k hk left h0 h1
      refine ⟨left, laws_szInstrS_L0_le (bifF (decide_eq_false (by omega)) rfl), .inl ?_⟩
      rw [List.drop_eq_nil_of_le (by omega), rsS_nil]
      exact ⟨by omega, by omega⟩
    | succ m ih =>
      intro k hk left h0 h1
      have hlt : k < rows.length := by omega
      obtain ⟨o, d, n, i, args, jumps, e⟩ := fit_Instr (hf _ (mem_getD hlt []))
      obtain ⟨r1, g1, g2⟩ := h _ (mem_getD hlt []) left h0 h1
      rw [e] at g1
      rw [rsS_drop hlt]
      rcases g2 with ⟨hle, rfl⟩ | ⟨hlt', rfl⟩
      · obtain ⟨r2, k1, k2⟩ := ih (k + 1) (by omega) (left - cS (rows.getD k [])) (by omega) (by omega)
        refine ⟨r2, laws_szInstrS_L0_le (bifT (decide_eq_true (by omega)) (atInstr hlt e (callI g1 (bifF (decide_eq_false (by omega)) ?_)))), ?_⟩
        · rw [wrk (by omega)]; exact k1
        · unfold SzOk at k2 ⊢; omega
      · exact ⟨-1, laws_szInstrS_L0_le (bifT (decide_eq_true (by omega)) (atInstr hlt e (callI g1 (bifT (decide_eq_true (by omega)) rfl)))), .inr ⟨by omega, rfl⟩⟩
  have e : wrapI (left - ((rows.length : Nat) : Int)) = left - rows.length := wr (by unfold maxI at hl; omega) (by omega)
  by_cases hle : (rows.length : Int) ≤ left
  · obtain ⟨r, g1, g2⟩ := key rows.length 0 (by omega) (left - rows.length) (by omega) (by omega)
    refine ⟨r, laws_szInstrS_le (bifF (by rw [e]; exact decide_eq_false (by omega)) (by rw [e]; exact g1)), ?_⟩
    rw [List.drop_zero] at g2
    unfold SzOk at g2 ⊢; omega
  · exact ⟨-1, laws_szInstrS_le (bifT (by rw [e]; exact decide_eq_true (by omega)) rfl), .inr ⟨by omega, rfl⟩⟩
theorem eq_InstrS (rows : List (List AC)) (hl : rows.length ≤ maxI) (hf : ∀ x ∈ rows, Fit .instr x) (h : ∀ x ∈ rows, EqP laws_eqInstr x) : laws_eqInstrS [.cell (.sl 6 rows), .cell (.sl 6 rows)] = some (.v (.cell (.bool true))) := by
  have key : ∀ m k : Nat, k + m = rows.length → laws_eqInstrS_L0 rows rows (k : Int) = some (.v (.cell (.bool true))) := by
    intro m
    induction m with
    | zero => intro k hk; exact laws_eqInstrS_L0_le (bifF (decide_eq_false (by omega)) rfl)
    | succ m ih =>
      intro k hk
      have hlt : k < rows.length := by omega
      obtain ⟨o, d, n, i, args, jumps, e⟩ := fit_Instr (hf _ (mem_getD hlt []))
      have g : EqP laws_eqInstr _ := h _ (mem_getD hlt [])
      rw [e] at g
      refine laws_eqInstrS_L0_le (bifT (decide_eq_true (by omega)) (atInstr hlt e (atInstr hlt e (callB g (bifF rfl ?_)))))
      rw [wrk (by omega)]
      exact ih (k + 1) (by omega)
  exact laws_eqInstrS_le (bifF (by simp) (key rows.length 0 (by omega)))
theorem to_InstrS (rows : List (List AC)) (hl : rows.length ≤ 1048576) (hf : ∀ x ∈ rows, Fit .instr x) (h : ∀ x ∈ rows, laws_toInstr [.agg x] = some (.v (.agg x))) : laws_toInstrS [.cell (.sl 6 rows)] = some (.v (.cell (.sl 6 rows))) := by
  refine V_ext (by kernel_rfl) rfl (ext_id rfl rfl hl (fun x hx => ?_) (fun x hx => ?_))
  · obtain ⟨o, d, n, i, args, jumps, rfl⟩ := fit_Instr (hf x hx)
    rfl
  · have g := h x hx
    obtain ⟨o, d, n, i, args, jumps, rfl⟩ := fit_Instr (hf x hx)
    have g' : V Tryz.prog lay sig.has ext 101 [.agg _] = some (.v (.agg _)) := g
    unfold rowE
    simp only [mkS, if_true, g', Option.bind_some]
    rfl
theorem sz_ProcS (rows : List (List AC)) (hl : rows.length ≤ maxI) (hf : ∀ x ∈ rows, Fit .proc x) (h : ∀ x ∈ rows, SzP laws_szProc x) (left : Int) (h0 : 0 ≤ left) (h1 : left ≤ 1048576) :
    ∃ r, laws_szProcS [.cell (.sl 5 rows), .cell (.int left)] = some (.v (.cell (.int r))) ∧ SzOk (rows.length + rsS rows) left r := by
  have key : ∀ m k : Nat, k + m = rows.length → ∀ left : Int, 0 ≤ left → left ≤ 1048576 → ∃ r, laws_szProcS_L0 rows left (k : Int) = some (.v (.cell (.int r))) ∧ SzOk (rsS (rows.drop k)) left r := by
    intro m
    induction m with
    | zero =>
      intro k hk left h0 h1
      refine ⟨left, laws_szProcS_L0_le (bifF (decide_eq_false (by omega)) rfl), .inl ?_⟩
      rw [List.drop_eq_nil_of_le (by omega), rsS_nil]
      exact ⟨by omega, by omega⟩
    | succ m ih =>
      intro k hk left h0 h1
      have hlt : k < rows.length := by omega
      obtain ⟨ps, lent, r, regs, code, e⟩ := fit_Proc (hf _ (mem_getD hlt []))
      obtain ⟨r1, g1, g2⟩ := h _ (mem_getD hlt []) left h0 h1
      rw [e] at g1
      rw [rsS_drop hlt]
      rcases g2 with ⟨hle, rfl⟩ | ⟨hlt', rfl⟩
      · obtain ⟨r2, k1, k2⟩ := ih (k + 1) (by omega) (left - cS (rows.getD k [])) (by omega) (by omega)
        refine ⟨r2, laws_szProcS_L0_le (bifT (decide_eq_true (by omega)) (atProc hlt e (callI g1 (bifF (decide_eq_false (by omega)) ?_)))), ?_⟩
        · rw [wrk (by omega)]; exact k1
        · unfold SzOk at k2 ⊢; omega
      · exact ⟨-1, laws_szProcS_L0_le (bifT (decide_eq_true (by omega)) (atProc hlt e (callI g1 (bifT (decide_eq_true (by omega)) rfl)))), .inr ⟨by omega, rfl⟩⟩
  have e : wrapI (left - ((rows.length : Nat) : Int)) = left - rows.length := wr (by unfold maxI at hl; omega) (by omega)
  by_cases hle : (rows.length : Int) ≤ left
  · obtain ⟨r, g1, g2⟩ := key rows.length 0 (by omega) (left - rows.length) (by omega) (by omega)
    refine ⟨r, laws_szProcS_le (bifF (by rw [e]; exact decide_eq_false (by omega)) (by rw [e]; exact g1)), ?_⟩
    rw [List.drop_zero] at g2
    unfold SzOk at g2 ⊢; omega
  · exact ⟨-1, laws_szProcS_le (bifT (by rw [e]; exact decide_eq_true (by omega)) rfl), .inr ⟨by omega, rfl⟩⟩
theorem eq_ProcS (rows : List (List AC)) (hl : rows.length ≤ maxI) (hf : ∀ x ∈ rows, Fit .proc x) (h : ∀ x ∈ rows, EqP laws_eqProc x) : laws_eqProcS [.cell (.sl 5 rows), .cell (.sl 5 rows)] = some (.v (.cell (.bool true))) := by
  have key : ∀ m k : Nat, k + m = rows.length → laws_eqProcS_L0 rows rows (k : Int) = some (.v (.cell (.bool true))) := by
    intro m
    induction m with
    | zero => intro k hk; exact laws_eqProcS_L0_le (bifF (decide_eq_false (by omega)) rfl)
    | succ m ih =>
      intro k hk
      have hlt : k < rows.length := by omega
      obtain ⟨ps, lent, r, regs, code, e⟩ := fit_Proc (hf _ (mem_getD hlt []))
      have g : EqP laws_eqProc _ := h _ (mem_getD hlt [])
      rw [e] at g
      refine laws_eqProcS_L0_le (bifT (decide_eq_true (by omega)) (atProc hlt e (atProc hlt e (callB g (bifF rfl ?_)))))
      rw [wrk (by omega)]
      exact ih (k + 1) (by omega)
  exact laws_eqProcS_le (bifF (by simp) (key rows.length 0 (by omega)))
theorem to_ProcS (rows : List (List AC)) (hl : rows.length ≤ 1048576) (hf : ∀ x ∈ rows, Fit .proc x) (h : ∀ x ∈ rows, laws_toProc [.agg x] = some (.v (.agg x))) : laws_toProcS [.cell (.sl 5 rows)] = some (.v (.cell (.sl 5 rows))) := by
  refine V_ext (by kernel_rfl) rfl (ext_id rfl rfl hl (fun x hx => ?_) (fun x hx => ?_))
  · obtain ⟨ps, lent, r, regs, code, rfl⟩ := fit_Proc (hf x hx)
    rfl
  · have g := h x hx
    obtain ⟨ps, lent, r, regs, code, rfl⟩ := fit_Proc (hf x hx)
    have g' : V Tryz.prog lay sig.has ext 45 [.agg _] = some (.v (.agg _)) := g
    unfold rowE
    simp only [mkS, if_true, g', Option.bind_some]
    rfl
theorem sz_FrameS (rows : List (List AC)) (hl : rows.length ≤ maxI) (hf : ∀ x ∈ rows, Fit .frame x) (h : ∀ x ∈ rows, SzP laws_szFrame x) (left : Int) (h0 : 0 ≤ left) (h1 : left ≤ 1048576) :
    ∃ r, laws_szFrameS [.cell (.sl 6 rows), .cell (.int left)] = some (.v (.cell (.int r))) ∧ SzOk (rows.length + rsS rows) left r := by
  have key : ∀ m k : Nat, k + m = rows.length → ∀ left : Int, 0 ≤ left → left ≤ 1048576 → ∃ r, laws_szFrameS_L0 rows left (k : Int) = some (.v (.cell (.int r))) ∧ SzOk (rsS (rows.drop k)) left r := by
    intro m
    induction m with
    | zero =>
      intro k hk left h0 h1
      refine ⟨left, laws_szFrameS_L0_le (bifF (decide_eq_false (by omega)) rfl), .inl ?_⟩
      rw [List.drop_eq_nil_of_le (by omega), rsS_nil]
      exact ⟨by omega, by omega⟩
    | succ m ih =>
      intro k hk left h0 h1
      have hlt : k < rows.length := by omega
      obtain ⟨p, a, d, regs, own, held, e⟩ := fit_Frame (hf _ (mem_getD hlt []))
      obtain ⟨r1, g1, g2⟩ := h _ (mem_getD hlt []) left h0 h1
      rw [e] at g1
      rw [rsS_drop hlt]
      rcases g2 with ⟨hle, rfl⟩ | ⟨hlt', rfl⟩
      · obtain ⟨r2, k1, k2⟩ := ih (k + 1) (by omega) (left - cS (rows.getD k [])) (by omega) (by omega)
        refine ⟨r2, laws_szFrameS_L0_le (bifT (decide_eq_true (by omega)) (atFrame hlt e (callI g1 (bifF (decide_eq_false (by omega)) ?_)))), ?_⟩
        · rw [wrk (by omega)]; exact k1
        · unfold SzOk at k2 ⊢; omega
      · exact ⟨-1, laws_szFrameS_L0_le (bifT (decide_eq_true (by omega)) (atFrame hlt e (callI g1 (bifT (decide_eq_true (by omega)) rfl)))), .inr ⟨by omega, rfl⟩⟩
  have e : wrapI (left - ((rows.length : Nat) : Int)) = left - rows.length := wr (by unfold maxI at hl; omega) (by omega)
  by_cases hle : (rows.length : Int) ≤ left
  · obtain ⟨r, g1, g2⟩ := key rows.length 0 (by omega) (left - rows.length) (by omega) (by omega)
    refine ⟨r, laws_szFrameS_le (bifF (by rw [e]; exact decide_eq_false (by omega)) (by rw [e]; exact g1)), ?_⟩
    rw [List.drop_zero] at g2
    unfold SzOk at g2 ⊢; omega
  · exact ⟨-1, laws_szFrameS_le (bifT (by rw [e]; exact decide_eq_true (by omega)) rfl), .inr ⟨by omega, rfl⟩⟩
theorem eq_FrameS (rows : List (List AC)) (hl : rows.length ≤ maxI) (hf : ∀ x ∈ rows, Fit .frame x) (h : ∀ x ∈ rows, EqP laws_eqFrame x) : laws_eqFrameS [.cell (.sl 6 rows), .cell (.sl 6 rows)] = some (.v (.cell (.bool true))) := by
  have key : ∀ m k : Nat, k + m = rows.length → laws_eqFrameS_L0 rows rows (k : Int) = some (.v (.cell (.bool true))) := by
    intro m
    induction m with
    | zero => intro k hk; exact laws_eqFrameS_L0_le (bifF (decide_eq_false (by omega)) rfl)
    | succ m ih =>
      intro k hk
      have hlt : k < rows.length := by omega
      obtain ⟨p, a, d, regs, own, held, e⟩ := fit_Frame (hf _ (mem_getD hlt []))
      have g : EqP laws_eqFrame _ := h _ (mem_getD hlt [])
      rw [e] at g
      refine laws_eqFrameS_L0_le (bifT (decide_eq_true (by omega)) (atFrame hlt e (atFrame hlt e (callB g (bifF rfl ?_)))))
      rw [wrk (by omega)]
      exact ih (k + 1) (by omega)
  exact laws_eqFrameS_le (bifF (by simp) (key rows.length 0 (by omega)))
theorem to_FrameS (rows : List (List AC)) (hl : rows.length ≤ 1048576) (hf : ∀ x ∈ rows, Fit .frame x) (h : ∀ x ∈ rows, laws_toFrame [.agg x] = some (.v (.agg x))) : laws_toFrameS [.cell (.sl 6 rows)] = some (.v (.cell (.sl 6 rows))) := by
  refine V_ext (by kernel_rfl) rfl (ext_id rfl rfl hl (fun x hx => ?_) (fun x hx => ?_))
  · obtain ⟨p, a, d, regs, own, held, rfl⟩ := fit_Frame (hf x hx)
    rfl
  · have g := h x hx
    obtain ⟨p, a, d, regs, own, held, rfl⟩ := fit_Frame (hf x hx)
    have g' : V Tryz.prog lay sig.has ext 47 [.agg _] = some (.v (.agg _)) := g
    unfold rowE
    simp only [mkS, if_true, g', Option.bind_some]
    rfl
theorem sz_Con {fs : List Int} (hfs : fs.length ≤ maxI) : SzP laws_szCon [.sl 1 (intsC fs)] := by
  intro left h0 h1
  obtain ⟨r0, g0, s0⟩ := sz_IntS fs hfs left (by omega) (by omega)
  rcases s0 with ⟨c0, rfl⟩ | ⟨c0, rfl⟩
  case inr => exact ⟨-1, laws_szCon_le (callI g0 (bifT (decide_eq_true (by omega)) rfl)), .inr ⟨by simp only [cS_int, cS_sl, cS_nil, rsS_ints, intsC_len];  omega, rfl⟩⟩
  refine ⟨_, laws_szCon_le (callI g0 (bifF (decide_eq_false (by omega)) (rfl))), .inl ?_⟩
  simp only [cS_int, cS_sl, cS_nil, rsS_ints, intsC_len]
  constructor <;> omega
theorem eq_Con {fs : List Int} (hfs : fs.length ≤ maxI) : EqP laws_eqCon [.sl 1 (intsC fs)] := laws_eqCon_le (callB (eq_IntS fs hfs) (bifF rfl (rfl)))
theorem to_Con {fs : List Int} : ToP laws_toCon [.sl 1 (intsC fs)] := by
  intro hs
  simp only [cS_int, cS_sl, cS_nil, rsS_ints, intsC_len] at hs
  exact laws_toCon_le (callS (to_IntS fs (by omega)) (rfl))
theorem sz_Decl {f : Int} {t : Int} {cons : List (List AC)} (lcons : cons.length ≤ maxI) (fcons : ∀ x ∈ cons, Fit .con x) (hcons : ∀ x ∈ cons, SzP laws_szCon x) : SzP laws_szDecl [.int f, .int t, .sl 1 cons] := by
  intro left h0 h1
  obtain ⟨r0, g0, s0⟩ := sz_ConS cons lcons fcons hcons left (by omega) (by omega)
  rcases s0 with ⟨c0, rfl⟩ | ⟨c0, rfl⟩
  case inr => exact ⟨-1, laws_szDecl_le (callI g0 (bifT (decide_eq_true (by omega)) rfl)), .inr ⟨by simp only [cS_int, cS_sl, cS_nil, rsS_ints, intsC_len];  omega, rfl⟩⟩
  refine ⟨_, laws_szDecl_le (callI g0 (bifF (decide_eq_false (by omega)) (rfl))), .inl ?_⟩
  simp only [cS_int, cS_sl, cS_nil, rsS_ints, intsC_len]
  constructor <;> omega
theorem eq_Decl {f : Int} {t : Int} {cons : List (List AC)} (lcons : cons.length ≤ maxI) (fcons : ∀ x ∈ cons, Fit .con x) (hcons : ∀ x ∈ cons, EqP laws_eqCon x) : EqP laws_eqDecl [.int f, .int t, .sl 1 cons] := laws_eqDecl_le (bifF (by simp) (bifF (by simp) (callB (eq_ConS cons lcons fcons hcons) (bifF rfl (rfl)))))
theorem to_Decl {f : Int} {t : Int} {cons : List (List AC)} (fcons : ∀ x ∈ cons, Fit .con x) (hcons : ∀ x ∈ cons, ToP laws_toCon x) : ToP laws_toDecl [.int f, .int t, .sl 1 cons] := by
  intro hs
  simp only [cS_int, cS_sl, cS_nil, rsS_ints, intsC_len] at hs
  exact laws_toDecl_le (callS (to_ConS cons (by omega) fcons fun x hx => hcons x hx (by have := rsS_mem hx; omega)) (rfl))
theorem sz_Cell {c : Int} {t : Int} {fs : List Int} (hfs : fs.length ≤ maxI) : SzP laws_szCell [.int c, .int t, .sl 1 (intsC fs)] := by
  intro left h0 h1
  obtain ⟨r0, g0, s0⟩ := sz_IntS fs hfs left (by omega) (by omega)
  rcases s0 with ⟨c0, rfl⟩ | ⟨c0, rfl⟩
  case inr => exact ⟨-1, laws_szCell_le (callI g0 (bifT (decide_eq_true (by omega)) rfl)), .inr ⟨by simp only [cS_int, cS_sl, cS_nil, rsS_ints, intsC_len];  omega, rfl⟩⟩
  refine ⟨_, laws_szCell_le (callI g0 (bifF (decide_eq_false (by omega)) (rfl))), .inl ?_⟩
  simp only [cS_int, cS_sl, cS_nil, rsS_ints, intsC_len]
  constructor <;> omega
theorem eq_Cell {c : Int} {t : Int} {fs : List Int} (hfs : fs.length ≤ maxI) : EqP laws_eqCell [.int c, .int t, .sl 1 (intsC fs)] := laws_eqCell_le (bifF (by simp) (bifF (by simp) (callB (eq_IntS fs hfs) (bifF rfl (rfl)))))
theorem to_Cell {c : Int} {t : Int} {fs : List Int} : ToP laws_toCell [.int c, .int t, .sl 1 (intsC fs)] := by
  intro hs
  simp only [cS_int, cS_sl, cS_nil, rsS_ints, intsC_len] at hs
  exact laws_toCell_le (callS (to_IntS fs (by omega)) (rfl))
theorem sz_Instr {o : Int} {d : Int} {n : Int} {i : Int} {args : List Int} {jumps : List Int} (hargs : args.length ≤ maxI) (hjumps : jumps.length ≤ maxI) : SzP laws_szInstr [.int o, .int d, .int n, .int i, .sl 1 (intsC args), .sl 1 (intsC jumps)] := by
  intro left h0 h1
  obtain ⟨r0, g0, s0⟩ := sz_IntS args hargs left (by omega) (by omega)
  rcases s0 with ⟨c0, rfl⟩ | ⟨c0, rfl⟩
  case inr => exact ⟨-1, laws_szInstr_le (callI g0 (bifT (decide_eq_true (by omega)) rfl)), .inr ⟨by simp only [cS_int, cS_sl, cS_nil, rsS_ints, intsC_len];  omega, rfl⟩⟩
  obtain ⟨r1, g1, s1⟩ := sz_IntS jumps hjumps (left - (args.length : Nat)) (by omega) (by omega)
  rcases s1 with ⟨c1, rfl⟩ | ⟨c1, rfl⟩
  case inr => exact ⟨-1, laws_szInstr_le (callI g0 (bifF (decide_eq_false (by omega)) (callI g1 (bifT (decide_eq_true (by omega)) rfl)))), .inr ⟨by simp only [cS_int, cS_sl, cS_nil, rsS_ints, intsC_len];  omega, rfl⟩⟩
  refine ⟨_, laws_szInstr_le (callI g0 (bifF (decide_eq_false (by omega)) (callI g1 (bifF (decide_eq_false (by omega)) (rfl))))), .inl ?_⟩
  simp only [cS_int, cS_sl, cS_nil, rsS_ints, intsC_len]
  constructor <;> omega
theorem eq_Instr {o : Int} {d : Int} {n : Int} {i : Int} {args : List Int} {jumps : List Int} (hargs : args.length ≤ maxI) (hjumps : jumps.length ≤ maxI) : EqP laws_eqInstr [.int o, .int d, .int n, .int i, .sl 1 (intsC args), .sl 1 (intsC jumps)] := laws_eqInstr_le (bifF (by simp) (bifF (by simp) (bifF (by simp) (bifF (by simp) (callB (eq_IntS args hargs) (bifF rfl (callB (eq_IntS jumps hjumps) (bifF rfl (rfl)))))))))
theorem to_Instr {o : Int} {d : Int} {n : Int} {i : Int} {args : List Int} {jumps : List Int} : ToP laws_toInstr [.int o, .int d, .int n, .int i, .sl 1 (intsC args), .sl 1 (intsC jumps)] := by
  intro hs
  simp only [cS_int, cS_sl, cS_nil, rsS_ints, intsC_len] at hs
  exact laws_toInstr_le (callS (to_IntS args (by omega)) (callS (to_IntS jumps (by omega)) (rfl)))
theorem sz_Proc {ps : List Int} {lent : List Int} {r : Int} {regs : Int} {code : List (List AC)} (hps : ps.length ≤ maxI) (hlent : lent.length ≤ maxI) (lcode : code.length ≤ maxI) (fcode : ∀ x ∈ code, Fit .instr x) (hcode : ∀ x ∈ code, SzP laws_szInstr x) : SzP laws_szProc [.sl 1 (intsC ps), .sl 1 (intsC lent), .int r, .int regs, .sl 6 code] := by
  intro left h0 h1
  obtain ⟨r0, g0, s0⟩ := sz_IntS ps hps left (by omega) (by omega)
  rcases s0 with ⟨c0, rfl⟩ | ⟨c0, rfl⟩
  case inr => exact ⟨-1, laws_szProc_le (callI g0 (bifT (decide_eq_true (by omega)) rfl)), .inr ⟨by simp only [cS_int, cS_sl, cS_nil, rsS_ints, intsC_len];  omega, rfl⟩⟩
  obtain ⟨r1, g1, s1⟩ := sz_IntS lent hlent (left - (ps.length : Nat)) (by omega) (by omega)
  rcases s1 with ⟨c1, rfl⟩ | ⟨c1, rfl⟩
  case inr => exact ⟨-1, laws_szProc_le (callI g0 (bifF (decide_eq_false (by omega)) (callI g1 (bifT (decide_eq_true (by omega)) rfl)))), .inr ⟨by simp only [cS_int, cS_sl, cS_nil, rsS_ints, intsC_len];  omega, rfl⟩⟩
  obtain ⟨r2, g2, s2⟩ := sz_InstrS code lcode fcode hcode (left - (ps.length : Nat) - (lent.length : Nat)) (by omega) (by omega)
  rcases s2 with ⟨c2, rfl⟩ | ⟨c2, rfl⟩
  case inr => exact ⟨-1, laws_szProc_le (callI g0 (bifF (decide_eq_false (by omega)) (callI g1 (bifF (decide_eq_false (by omega)) (callI g2 (bifT (decide_eq_true (by omega)) rfl)))))), .inr ⟨by simp only [cS_int, cS_sl, cS_nil, rsS_ints, intsC_len];  omega, rfl⟩⟩
  refine ⟨_, laws_szProc_le (callI g0 (bifF (decide_eq_false (by omega)) (callI g1 (bifF (decide_eq_false (by omega)) (callI g2 (bifF (decide_eq_false (by omega)) (rfl))))))), .inl ?_⟩
  simp only [cS_int, cS_sl, cS_nil, rsS_ints, intsC_len]
  constructor <;> omega
theorem eq_Proc {ps : List Int} {lent : List Int} {r : Int} {regs : Int} {code : List (List AC)} (hps : ps.length ≤ maxI) (hlent : lent.length ≤ maxI) (lcode : code.length ≤ maxI) (fcode : ∀ x ∈ code, Fit .instr x) (hcode : ∀ x ∈ code, EqP laws_eqInstr x) : EqP laws_eqProc [.sl 1 (intsC ps), .sl 1 (intsC lent), .int r, .int regs, .sl 6 code] := laws_eqProc_le (callB (eq_IntS ps hps) (bifF rfl (callB (eq_IntS lent hlent) (bifF rfl (bifF (by simp) (bifF (by simp) (callB (eq_InstrS code lcode fcode hcode) (bifF rfl (rfl)))))))))
theorem to_Proc {ps : List Int} {lent : List Int} {r : Int} {regs : Int} {code : List (List AC)} (fcode : ∀ x ∈ code, Fit .instr x) (hcode : ∀ x ∈ code, ToP laws_toInstr x) : ToP laws_toProc [.sl 1 (intsC ps), .sl 1 (intsC lent), .int r, .int regs, .sl 6 code] := by
  intro hs
  simp only [cS_int, cS_sl, cS_nil, rsS_ints, intsC_len] at hs
  exact laws_toProc_le (callS (to_IntS ps (by omega)) (callS (to_IntS lent (by omega)) (callS (to_InstrS code (by omega) fcode fun x hx => hcode x hx (by have := rsS_mem hx; omega)) (rfl))))
theorem sz_Image {ds : List (List AC)} {procs : List (List AC)} (lds : ds.length ≤ maxI) (fds : ∀ x ∈ ds, Fit .decl x) (hds : ∀ x ∈ ds, SzP laws_szDecl x) (lprocs : procs.length ≤ maxI) (fprocs : ∀ x ∈ procs, Fit .proc x) (hprocs : ∀ x ∈ procs, SzP laws_szProc x) : SzP laws_szImage [.sl 3 ds, .sl 5 procs] := by
  intro left h0 h1
  obtain ⟨r0, g0, s0⟩ := sz_DeclS ds lds fds hds left (by omega) (by omega)
  rcases s0 with ⟨c0, rfl⟩ | ⟨c0, rfl⟩
  case inr => exact ⟨-1, laws_szImage_le (callI g0 (bifT (decide_eq_true (by omega)) rfl)), .inr ⟨by simp only [cS_int, cS_sl, cS_nil, rsS_ints, intsC_len];  omega, rfl⟩⟩
  obtain ⟨r1, g1, s1⟩ := sz_ProcS procs lprocs fprocs hprocs (left - (ds.length + rsS ds : Nat)) (by omega) (by omega)
  rcases s1 with ⟨c1, rfl⟩ | ⟨c1, rfl⟩
  case inr => exact ⟨-1, laws_szImage_le (callI g0 (bifF (decide_eq_false (by omega)) (callI g1 (bifT (decide_eq_true (by omega)) rfl)))), .inr ⟨by simp only [cS_int, cS_sl, cS_nil, rsS_ints, intsC_len];  omega, rfl⟩⟩
  refine ⟨_, laws_szImage_le (callI g0 (bifF (decide_eq_false (by omega)) (callI g1 (bifF (decide_eq_false (by omega)) (rfl))))), .inl ?_⟩
  simp only [cS_int, cS_sl, cS_nil, rsS_ints, intsC_len]
  constructor <;> omega
theorem eq_Image {ds : List (List AC)} {procs : List (List AC)} (lds : ds.length ≤ maxI) (fds : ∀ x ∈ ds, Fit .decl x) (hds : ∀ x ∈ ds, EqP laws_eqDecl x) (lprocs : procs.length ≤ maxI) (fprocs : ∀ x ∈ procs, Fit .proc x) (hprocs : ∀ x ∈ procs, EqP laws_eqProc x) : EqP laws_eqImage [.sl 3 ds, .sl 5 procs] := laws_eqImage_le (callB (eq_DeclS ds lds fds hds) (bifF rfl (callB (eq_ProcS procs lprocs fprocs hprocs) (bifF rfl (rfl)))))
theorem to_Image {ds : List (List AC)} {procs : List (List AC)} (fds : ∀ x ∈ ds, Fit .decl x) (hds : ∀ x ∈ ds, ToP laws_toDecl x) (fprocs : ∀ x ∈ procs, Fit .proc x) (hprocs : ∀ x ∈ procs, ToP laws_toProc x) : ToP laws_toImage [.sl 3 ds, .sl 5 procs] := by
  intro hs
  simp only [cS_int, cS_sl, cS_nil, rsS_ints, intsC_len] at hs
  exact laws_toImage_le (callS (to_DeclS ds (by omega) fds fun x hx => hds x hx (by have := rsS_mem hx; omega)) (callS (to_ProcS procs (by omega) fprocs fun x hx => hprocs x hx (by have := rsS_mem hx; omega)) (rfl)))
theorem sz_Frame {p : Int} {a : Int} {d : Int} {regs : List Int} {own : List Int} {held : List Int} (hregs : regs.length ≤ maxI) (hown : own.length ≤ maxI) (hheld : held.length ≤ maxI) : SzP laws_szFrame [.int p, .int a, .int d, .sl 1 (intsC regs), .sl 1 (intsC own), .sl 1 (intsC held)] := by
  intro left h0 h1
  obtain ⟨r0, g0, s0⟩ := sz_IntS regs hregs left (by omega) (by omega)
  rcases s0 with ⟨c0, rfl⟩ | ⟨c0, rfl⟩
  case inr => exact ⟨-1, laws_szFrame_le (callI g0 (bifT (decide_eq_true (by omega)) rfl)), .inr ⟨by simp only [cS_int, cS_sl, cS_nil, rsS_ints, intsC_len];  omega, rfl⟩⟩
  obtain ⟨r1, g1, s1⟩ := sz_IntS own hown (left - (regs.length : Nat)) (by omega) (by omega)
  rcases s1 with ⟨c1, rfl⟩ | ⟨c1, rfl⟩
  case inr => exact ⟨-1, laws_szFrame_le (callI g0 (bifF (decide_eq_false (by omega)) (callI g1 (bifT (decide_eq_true (by omega)) rfl)))), .inr ⟨by simp only [cS_int, cS_sl, cS_nil, rsS_ints, intsC_len];  omega, rfl⟩⟩
  obtain ⟨r2, g2, s2⟩ := sz_IntS held hheld (left - (regs.length : Nat) - (own.length : Nat)) (by omega) (by omega)
  rcases s2 with ⟨c2, rfl⟩ | ⟨c2, rfl⟩
  case inr => exact ⟨-1, laws_szFrame_le (callI g0 (bifF (decide_eq_false (by omega)) (callI g1 (bifF (decide_eq_false (by omega)) (callI g2 (bifT (decide_eq_true (by omega)) rfl)))))), .inr ⟨by simp only [cS_int, cS_sl, cS_nil, rsS_ints, intsC_len];  omega, rfl⟩⟩
  refine ⟨_, laws_szFrame_le (callI g0 (bifF (decide_eq_false (by omega)) (callI g1 (bifF (decide_eq_false (by omega)) (callI g2 (bifF (decide_eq_false (by omega)) (rfl))))))), .inl ?_⟩
  simp only [cS_int, cS_sl, cS_nil, rsS_ints, intsC_len]
  constructor <;> omega
theorem eq_Frame {p : Int} {a : Int} {d : Int} {regs : List Int} {own : List Int} {held : List Int} (hregs : regs.length ≤ maxI) (hown : own.length ≤ maxI) (hheld : held.length ≤ maxI) : EqP laws_eqFrame [.int p, .int a, .int d, .sl 1 (intsC regs), .sl 1 (intsC own), .sl 1 (intsC held)] := laws_eqFrame_le (bifF (by simp) (bifF (by simp) (bifF (by simp) (callB (eq_IntS regs hregs) (bifF rfl (callB (eq_IntS own hown) (bifF rfl (callB (eq_IntS held hheld) (bifF rfl (rfl))))))))))
theorem to_Frame {p : Int} {a : Int} {d : Int} {regs : List Int} {own : List Int} {held : List Int} : ToP laws_toFrame [.int p, .int a, .int d, .sl 1 (intsC regs), .sl 1 (intsC own), .sl 1 (intsC held)] := by
  intro hs
  simp only [cS_int, cS_sl, cS_nil, rsS_ints, intsC_len] at hs
  exact laws_toFrame_le (callS (to_IntS regs (by omega)) (callS (to_IntS own (by omega)) (callS (to_IntS held (by omega)) (rfl))))
theorem sz_State {s : Int} {v : Int} {c : Int} {m : Int} {out : List Int} {heap : List (List AC)} {frames : List (List AC)} (hout : out.length ≤ maxI) (lheap : heap.length ≤ maxI) (fheap : ∀ x ∈ heap, Fit .cell x) (hheap : ∀ x ∈ heap, SzP laws_szCell x) (lframes : frames.length ≤ maxI) (fframes : ∀ x ∈ frames, Fit .frame x) (hframes : ∀ x ∈ frames, SzP laws_szFrame x) : SzP laws_szState [.int s, .int v, .int c, .int m, .sl 1 (intsC out), .sl 3 heap, .sl 6 frames] := by
  intro left h0 h1
  obtain ⟨r0, g0, s0⟩ := sz_IntS out hout left (by omega) (by omega)
  rcases s0 with ⟨c0, rfl⟩ | ⟨c0, rfl⟩
  case inr => exact ⟨-1, laws_szState_le (callI g0 (bifT (decide_eq_true (by omega)) rfl)), .inr ⟨by simp only [cS_int, cS_sl, cS_nil, rsS_ints, intsC_len];  omega, rfl⟩⟩
  obtain ⟨r1, g1, s1⟩ := sz_CellS heap lheap fheap hheap (left - (out.length : Nat)) (by omega) (by omega)
  rcases s1 with ⟨c1, rfl⟩ | ⟨c1, rfl⟩
  case inr => exact ⟨-1, laws_szState_le (callI g0 (bifF (decide_eq_false (by omega)) (callI g1 (bifT (decide_eq_true (by omega)) rfl)))), .inr ⟨by simp only [cS_int, cS_sl, cS_nil, rsS_ints, intsC_len];  omega, rfl⟩⟩
  obtain ⟨r2, g2, s2⟩ := sz_FrameS frames lframes fframes hframes (left - (out.length : Nat) - (heap.length + rsS heap : Nat)) (by omega) (by omega)
  rcases s2 with ⟨c2, rfl⟩ | ⟨c2, rfl⟩
  case inr => exact ⟨-1, laws_szState_le (callI g0 (bifF (decide_eq_false (by omega)) (callI g1 (bifF (decide_eq_false (by omega)) (callI g2 (bifT (decide_eq_true (by omega)) rfl)))))), .inr ⟨by simp only [cS_int, cS_sl, cS_nil, rsS_ints, intsC_len];  omega, rfl⟩⟩
  refine ⟨_, laws_szState_le (callI g0 (bifF (decide_eq_false (by omega)) (callI g1 (bifF (decide_eq_false (by omega)) (callI g2 (bifF (decide_eq_false (by omega)) (rfl))))))), .inl ?_⟩
  simp only [cS_int, cS_sl, cS_nil, rsS_ints, intsC_len]
  constructor <;> omega
theorem eq_State {s : Int} {v : Int} {c : Int} {m : Int} {out : List Int} {heap : List (List AC)} {frames : List (List AC)} (hout : out.length ≤ maxI) (lheap : heap.length ≤ maxI) (fheap : ∀ x ∈ heap, Fit .cell x) (hheap : ∀ x ∈ heap, EqP laws_eqCell x) (lframes : frames.length ≤ maxI) (fframes : ∀ x ∈ frames, Fit .frame x) (hframes : ∀ x ∈ frames, EqP laws_eqFrame x) : EqP laws_eqState [.int s, .int v, .int c, .int m, .sl 1 (intsC out), .sl 3 heap, .sl 6 frames] := laws_eqState_le (bifF (by simp) (bifF (by simp) (bifF (by simp) (bifF (by simp) (callB (eq_IntS out hout) (bifF rfl (callB (eq_CellS heap lheap fheap hheap) (bifF rfl (callB (eq_FrameS frames lframes fframes hframes) (bifF rfl (rfl)))))))))))
theorem to_State {s : Int} {v : Int} {c : Int} {m : Int} {out : List Int} {heap : List (List AC)} {frames : List (List AC)} (fheap : ∀ x ∈ heap, Fit .cell x) (hheap : ∀ x ∈ heap, ToP laws_toCell x) (fframes : ∀ x ∈ frames, Fit .frame x) (hframes : ∀ x ∈ frames, ToP laws_toFrame x) : ToP laws_toState [.int s, .int v, .int c, .int m, .sl 1 (intsC out), .sl 3 heap, .sl 6 frames] := by
  intro hs
  simp only [cS_int, cS_sl, cS_nil, rsS_ints, intsC_len] at hs
  exact laws_toState_le (callS (to_IntS out (by omega)) (callS (to_CellS heap (by omega) fheap fun x hx => hheap x hx (by have := rsS_mem hx; omega)) (callS (to_FrameS frames (by omega) fframes fun x hx => hframes x hx (by have := rsS_mem hx; omega)) (rfl))))
theorem sz_fit : ∀ {t : Ty} {x : List AC}, Fit t x → (match t with
    | .con => SzP laws_szCon x
    | .decl => SzP laws_szDecl x
    | .cell => SzP laws_szCell x
    | .instr => SzP laws_szInstr x
    | .proc => SzP laws_szProc x
    | .image => SzP laws_szImage x
    | .frame => SzP laws_szFrame x
    | .state => SzP laws_szState x
    | _ => True) := by
  intro t x h
  induction h with
  | con fs h => exact sz_Con h.len
  | decl f t cons hf ht hl h ih => exact sz_Decl hl h ih
  | expr => trivial
  | func => trivial
  | prog => trivial
  | step => trivial
  | block => trivial
  | routine => trivial
  | normal => trivial
  | cell c t fs hc ht h => exact sz_Cell h.len
  | instr o d n i args jumps ho hd hn hi ha hj => exact sz_Instr ha.len hj.len
  | proc ps lent r regs code hp hl hr hg hc h ih => exact sz_Proc hp.len hl.len hc h ih
  | image ds procs hd hp h1 h2 ih1 ih2 => exact sz_Image hd h1 ih1 hp h2 ih2
  | frame p a d regs own held hp ha hd h1 h2 h3 => exact sz_Frame h1.len h2.len h3.len
  | state s v c m out heap frames hs hv hc hm ho hh hf h1 h2 ih1 ih2 => exact sz_State ho.len hh h1 ih1 hf h2 ih2
theorem eq_fit : ∀ {t : Ty} {x : List AC}, Fit t x → (match t with
    | .con => EqP laws_eqCon x
    | .decl => EqP laws_eqDecl x
    | .cell => EqP laws_eqCell x
    | .instr => EqP laws_eqInstr x
    | .proc => EqP laws_eqProc x
    | .image => EqP laws_eqImage x
    | .frame => EqP laws_eqFrame x
    | .state => EqP laws_eqState x
    | _ => True) := by
  intro t x h
  induction h with
  | con fs h => exact eq_Con h.len
  | decl f t cons hf ht hl h ih => exact eq_Decl hl h ih
  | expr => trivial
  | func => trivial
  | prog => trivial
  | step => trivial
  | block => trivial
  | routine => trivial
  | normal => trivial
  | cell c t fs hc ht h => exact eq_Cell h.len
  | instr o d n i args jumps ho hd hn hi ha hj => exact eq_Instr ha.len hj.len
  | proc ps lent r regs code hp hl hr hg hc h ih => exact eq_Proc hp.len hl.len hc h ih
  | image ds procs hd hp h1 h2 ih1 ih2 => exact eq_Image hd h1 ih1 hp h2 ih2
  | frame p a d regs own held hp ha hd h1 h2 h3 => exact eq_Frame h1.len h2.len h3.len
  | state s v c m out heap frames hs hv hc hm ho hh hf h1 h2 ih1 ih2 => exact eq_State ho.len hh h1 ih1 hf h2 ih2
theorem to_fit : ∀ {t : Ty} {x : List AC}, Fit t x → (match t with
    | .con => ToP laws_toCon x
    | .decl => ToP laws_toDecl x
    | .cell => ToP laws_toCell x
    | .instr => ToP laws_toInstr x
    | .proc => ToP laws_toProc x
    | .image => ToP laws_toImage x
    | .frame => ToP laws_toFrame x
    | .state => ToP laws_toState x
    | _ => True) := by
  intro t x h
  induction h with
  | con fs h => exact to_Con
  | decl f t cons hf ht hl h ih => exact to_Decl h ih
  | expr => trivial
  | func => trivial
  | prog => trivial
  | step => trivial
  | block => trivial
  | routine => trivial
  | normal => trivial
  | cell c t fs hc ht h => exact to_Cell
  | instr o d n i args jumps ho hd hn hi ha hj => exact to_Instr
  | proc ps lent r regs code hp hl hr hg hc h ih => exact to_Proc h ih
  | image ds procs hd hp h1 h2 ih1 ih2 => exact to_Image h1 ih1 h2 ih2
  | frame p a d regs own held hp ha hd h1 h2 h3 => exact to_Frame
  | state s v c m out heap frames hs hv hc hm ho hh hf h1 h2 ih1 ih2 => exact to_State h1 ih1 h2 ih2
end Go.Proofs.YthfihhejbplmfaaGreat

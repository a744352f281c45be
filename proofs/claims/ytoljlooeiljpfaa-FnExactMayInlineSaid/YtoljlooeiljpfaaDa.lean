/- Data that fit: measured, held against a copy, copied. MADE BY mkdata.py. -/
import Derived.Test.YtoljlooeiljpfaaPa
import Derived.Test.YtoljlooeiljpfaaLf
set_option linter.unusedVariables false
set_option linter.unusedSimpArgs false
namespace Go.Proofs.Ytoljlooeiljpfaa
open Go
def SzP (f : List SV → Option AV) (cs : List AC) : Prop := ∀ left : Int, 0 ≤ left → left ≤ 1048576 → ∃ r, f [.agg cs, .cell (.int left)] = some (.v (.cell (.int r))) ∧ SzOk (cS cs) left r
def EqP (f : List SV → Option AV) (cs : List AC) : Prop := f [.agg cs, .agg cs] = some (.v (.cell (.bool true)))
def ToP (f : List SV → Option AV) (cs : List AC) : Prop := cS cs ≤ 1048576 → f [.agg cs] = some (.v (.agg cs))
theorem ext_id {call : Orc} {m : MapE} {k : Nat} {rows : List (List AC)} (hk : k = m.sh.length) (hk2 : m.sh'.length = k) (hl : rows.length ≤ 1048576) (hs : ∀ x ∈ rows, shOk m.sh x = true) (hr : ∀ x ∈ rows, rowE call m x = some x) : extRun call (.map m) [.cell (.sl k rows)] = some (.v (.cell (.sl k rows))) := by
  have key : ∀ rows : List (List AC), (∀ x ∈ rows, rowE call m x = some x) → rowsE call m rows = some rows := by
    intro rows
    induction rows with
    | nil => intro _; rfl
    | cons x rows ih =>
      intro h
      simp only [rowsE, h x List.mem_cons_self, Option.bind_some, ih (fun y hy => h y (List.mem_cons_of_mem _ hy)), Option.map_some]
  unfold extRun
  simp only
  rw [if_pos ⟨hk, hl, List.all_eq_true.2 hs⟩, key rows hr]
  simp only [Option.map_some, hk2]
theorem fit_Con {x : List AC} (h : Fit .con x) : ∃ (fs : List Int), x = [.sl 1 (intsC fs)] := by cases h; exact ⟨_, rfl⟩
theorem fit_Decl {x : List AC} (h : Fit .decl x) : ∃ (f : Int) (t : Int) (cons : List (List AC)), x = [.int f, .int t, .sl 1 cons] := by cases h; exact ⟨_, _, _, rfl⟩
theorem fit_Expr {x : List AC} (h : Fit .expr x) : ∃ (o : Int) (n : Int) (kids : List (List AC)), x = [.int o, .int n, .sl 3 kids] := by cases h; exact ⟨_, _, _, rfl⟩
theorem fit_Func {x : List AC} (h : Fit .func x) : ∃ (ps : List Int) (r : Int) (bo : Int) (bn : Int) (bkids : List (List AC)), x = [.sl 1 (intsC ps), .int r, .int bo, .int bn, .sl 3 bkids] := by cases h; exact ⟨_, _, _, _, _, rfl⟩
theorem sz_IntS (xs : List Int) (hx : xs.length ≤ maxI) (left : Int) (h0 : 0 ≤ left) (h1 : left ≤ 1048576) : ∃ r, laws_szIntS [.cell (.sl 1 (intsC xs)), .cell (.int left)] = some (.v (.cell (.int r))) ∧ SzOk xs.length left r := by
  have e : wrapI (left - (((intsC xs).length : Nat) : Int)) = left - xs.length := by rw [intsC_len]; exact wr (by unfold maxI at hx; omega) (by omega)
  by_cases h : (xs.length : Int) ≤ left
  · exact ⟨left - xs.length, laws_szIntS_le (bifF (by rw [e]; exact decide_eq_false (by omega)) (by rw [e])), .inl ⟨h, rfl⟩⟩
  · exact ⟨-1, laws_szIntS_le (bifT (by rw [e]; exact decide_eq_true (by omega)) rfl), .inr ⟨by omega, rfl⟩⟩
theorem eq_IntS (xs : List Int) (hx : xs.length ≤ maxI) : laws_eqIntS [.cell (.sl 1 (intsC xs)), .cell (.sl 1 (intsC xs))] = some (.v (.cell (.bool true))) := by
  have key : ∀ m k : Nat, k + m = xs.length → laws_eqIntS_L0 (intsC xs) (intsC xs) (k : Int) = some (.v (.cell (.bool true))) := by
    intro m
    induction m with
    | zero => intro k hk; exact laws_eqIntS_L0_le (bifF (decide_eq_false (by rw [intsC_len]; omega)) rfl)
    | succ m ih =>
      intro k hk
      refine laws_eqIntS_L0_le (bifT (decide_eq_true (by rw [intsC_len]; omega)) (atNum (by omega) (atNum (by omega) (bifF (by simp) ?_))))
      rw [wrk (by omega)]
      exact ih (k + 1) (by omega)
  exact laws_eqIntS_le (bifF (by simp) (key xs.length 0 (by omega)))
theorem to_IntS (xs : List Int) (hx : xs.length ≤ 1048576) : laws_toIntS [.cell (.sl 1 (intsC xs))] = some (.v (.cell (.sl 1 (intsC xs)))) := by
  refine V_ext (by kernel_rfl) rfl (ext_id rfl rfl (by rw [intsC_len]; exact hx) (fun x hx => ?_) (fun x _ => rfl))
  simp only [intsC, List.mem_map] at hx
  obtain ⟨n, _, rfl⟩ := hx
  rfl
theorem sz_ConS (rows : List (List AC)) (hl : rows.length ≤ maxI) (hf : ∀ x ∈ rows, Fit .con x) (h : ∀ x ∈ rows, SzP laws_szCon x) (left : Int) (h0 : 0 ≤ left) (h1 : left ≤ 1048576) :
    ∃ r, laws_szConS [.cell (.sl 1 rows), .cell (.int left)] = some (.v (.cell (.int r))) ∧ SzOk (rows.length + rsS rows) left r := by
  have key : ∀ m k : Nat, k + m = rows.length → ∀ left : Int, 0 ≤ left → left ≤ 1048576 → ∃ r, laws_szConS_L0 rows left (k : Int) = some (.v (.cell (.int r))) ∧ SzOk (rsS (rows.drop k)) left r := by
    intro m
    induction m with
    | zero =>
      intro k hk left h0 h1
      refine ⟨left, laws_szConS_L0_le (bifF (decide_eq_false (by omega)) rfl), .inl ?_⟩
      rw [List.drop_eq_nil_of_le (by omega), rsS_nil]
      exact ⟨by omega, by omega⟩
    | succ m ih =>
      intro k hk left h0 h1
      have hlt : k < rows.length := by omega
      obtain ⟨fs, e⟩ := fit_Con (hf _ (mem_getD hlt []))
      obtain ⟨r1, g1, g2⟩ := h _ (mem_getD hlt []) left h0 h1
      rw [e] at g1
      rw [rsS_drop hlt]
      rcases g2 with ⟨hle, rfl⟩ | ⟨hlt', rfl⟩
      · obtain ⟨r2, k1, k2⟩ := ih (k + 1) (by omega) (left - cS (rows.getD k [])) (by omega) (by omega)
        refine ⟨r2, laws_szConS_L0_le (bifT (decide_eq_true (by omega)) (atCon hlt e (callI g1 (bifF (decide_eq_false (by omega)) ?_)))), ?_⟩
        · rw [wrk (by omega)]; exact k1
        · unfold SzOk at k2 ⊢; omega
      · exact ⟨-1, laws_szConS_L0_le (bifT (decide_eq_true (by omega)) (atCon hlt e (callI g1 (bifT (decide_eq_true (by omega)) rfl)))), .inr ⟨by omega, rfl⟩⟩
  have e : wrapI (left - ((rows.length : Nat) : Int)) = left - rows.length := wr (by unfold maxI at hl; omega) (by omega)
  by_cases hle : (rows.length : Int) ≤ left
  · obtain ⟨r, g1, g2⟩ := key rows.length 0 (by omega) (left - rows.length) (by omega) (by omega)
    refine ⟨r, laws_szConS_le (bifF (by rw [e]; exact decide_eq_false (by omega)) (by rw [e]; exact g1)), ?_⟩
    rw [List.drop_zero] at g2
    unfold SzOk at g2 ⊢; omega
  · exact ⟨-1, laws_szConS_le (bifT (by rw [e]; exact decide_eq_true (by omega)) rfl), .inr ⟨by omega, rfl⟩⟩
theorem eq_ConS (rows : List (List AC)) (hl : rows.length ≤ maxI) (hf : ∀ x ∈ rows, Fit .con x) (h : ∀ x ∈ rows, EqP laws_eqCon x) : laws_eqConS [.cell (.sl 1 rows), .cell (.sl 1 rows)] = some (.v (.cell (.bool true))) := by
  have key : ∀ m k : Nat, k + m = rows.length → laws_eqConS_L0 rows rows (k : Int) = some (.v (.cell (.bool true))) := by
    intro m
    induction m with
    | zero => intro k hk; exact laws_eqConS_L0_le (bifF (decide_eq_false (by omega)) rfl)
    | succ m ih =>
      intro k hk
      have hlt : k < rows.length := by omega
      obtain ⟨fs, e⟩ := fit_Con (hf _ (mem_getD hlt []))
      have g : EqP laws_eqCon _ := h _ (mem_getD hlt [])
      rw [e] at g
      refine laws_eqConS_L0_le (bifT (decide_eq_true (by omega)) (atCon hlt e (atCon hlt e (callB g (bifF rfl ?_)))))
      rw [wrk (by omega)]
      exact ih (k + 1) (by omega)
  exact laws_eqConS_le (bifF (by simp) (key rows.length 0 (by omega)))
theorem to_ConS (rows : List (List AC)) (hl : rows.length ≤ 1048576) (hf : ∀ x ∈ rows, Fit .con x) (h : ∀ x ∈ rows, laws_toCon [.agg x] = some (.v (.agg x))) : laws_toConS [.cell (.sl 1 rows)] = some (.v (.cell (.sl 1 rows))) := by
  refine V_ext (by kernel_rfl) rfl (ext_id rfl rfl hl (fun x hx => ?_) (fun x hx => ?_))
  · obtain ⟨fs, rfl⟩ := fit_Con (hf x hx)
    rfl
  · have g := h x hx
    obtain ⟨fs, rfl⟩ := fit_Con (hf x hx)
    have g' : V Try.prog lay sig.has ext 85 [.agg _] = some (.v (.agg _)) := g
    unfold rowE
    simp only [mkS, if_true, g', Option.bind_some]
    rfl
theorem sz_DeclS (rows : List (List AC)) (hl : rows.length ≤ maxI) (hf : ∀ x ∈ rows, Fit .decl x) (h : ∀ x ∈ rows, SzP laws_szDecl x) (left : Int) (h0 : 0 ≤ left) (h1 : left ≤ 1048576) :
    ∃ r, laws_szDeclS [.cell (.sl 3 rows), .cell (.int left)] = some (.v (.cell (.int r))) ∧ SzOk (rows.length + rsS rows) left r := by
  have key : ∀ m k : Nat, k + m = rows.length → ∀ left : Int, 0 ≤ left → left ≤ 1048576 → ∃ r, laws_szDeclS_L0 rows left (k : Int) = some (.v (.cell (.int r))) ∧ SzOk (rsS (rows.drop k)) left r := by
    intro m
    induction m with
    | zero =>
      intro k hk left h0 h1
      refine ⟨left, laws_szDeclS_L0_le (bifF (decide_eq_false (by omega)) rfl), .inl ?_⟩
      rw [List.drop_eq_nil_of_le (by omega), rsS_nil]
      exact ⟨by omega, by omega⟩
    | succ m ih =>
      intro k hk left h0 h1
      have hlt : k < rows.length := by omega
      obtain ⟨f, t, cons, e⟩ := fit_Decl (hf _ (mem_getD hlt []))
      obtain ⟨r1, g1, g2⟩ := h _ (mem_getD hlt []) left h0 h1
      rw [e] at g1
      rw [rsS_drop hlt]
      rcases g2 with ⟨hle, rfl⟩ | ⟨hlt', rfl⟩
      · obtain ⟨r2, k1, k2⟩ := ih (k + 1) (by omega) (left - cS (rows.getD k [])) (by omega) (by omega)
        refine ⟨r2, laws_szDeclS_L0_le (bifT (decide_eq_true (by omega)) (atDecl hlt e (callI g1 (bifF (decide_eq_false (by omega)) ?_)))), ?_⟩
        · rw [wrk (by omega)]; exact k1
        · unfold SzOk at k2 ⊢; omega
      · exact ⟨-1, laws_szDeclS_L0_le (bifT (decide_eq_true (by omega)) (atDecl hlt e (callI g1 (bifT (decide_eq_true (by omega)) rfl)))), .inr ⟨by omega, rfl⟩⟩
  have e : wrapI (left - ((rows.length : Nat) : Int)) = left - rows.length := wr (by unfold maxI at hl; omega) (by omega)
  by_cases hle : (rows.length : Int) ≤ left
  · obtain ⟨r, g1, g2⟩ := key rows.length 0 (by omega) (left - rows.length) (by omega) (by omega)
    refine ⟨r, laws_szDeclS_le (bifF (by rw [e]; exact decide_eq_false (by omega)) (by rw [e]; exact g1)), ?_⟩
    rw [List.drop_zero] at g2
    unfold SzOk at g2 ⊢; omega
  · exact ⟨-1, laws_szDeclS_le (bifT (by rw [e]; exact decide_eq_true (by omega)) rfl), .inr ⟨by omega, rfl⟩⟩
theorem eq_DeclS (rows : List (List AC)) (hl : rows.length ≤ maxI) (hf : ∀ x ∈ rows, Fit .decl x) (h : ∀ x ∈ rows, EqP laws_eqDecl x) : laws_eqDeclS [.cell (.sl 3 rows), .cell (.sl 3 rows)] = some (.v (.cell (.bool true))) := by
  have key : ∀ m k : Nat, k + m = rows.length → laws_eqDeclS_L0 rows rows (k : Int) = some (.v (.cell (.bool true))) := by
    intro m
    induction m with
    | zero => intro k hk; exact laws_eqDeclS_L0_le (bifF (decide_eq_false (by omega)) rfl)
    | succ m ih =>
      intro k hk
      have hlt : k < rows.length := by omega
      obtain ⟨f, t, cons, e⟩ := fit_Decl (hf _ (mem_getD hlt []))
      have g : EqP laws_eqDecl _ := h _ (mem_getD hlt [])
      rw [e] at g
      refine laws_eqDeclS_L0_le (bifT (decide_eq_true (by omega)) (atDecl hlt e (atDecl hlt e (callB g (bifF rfl ?_)))))
      rw [wrk (by omega)]
      exact ih (k + 1) (by omega)
  exact laws_eqDeclS_le (bifF (by simp) (key rows.length 0 (by omega)))
theorem to_DeclS (rows : List (List AC)) (hl : rows.length ≤ 1048576) (hf : ∀ x ∈ rows, Fit .decl x) (h : ∀ x ∈ rows, laws_toDecl [.agg x] = some (.v (.agg x))) : laws_toDeclS [.cell (.sl 3 rows)] = some (.v (.cell (.sl 3 rows))) := by
  refine V_ext (by kernel_rfl) rfl (ext_id rfl rfl hl (fun x hx => ?_) (fun x hx => ?_))
  · obtain ⟨f, t, cons, rfl⟩ := fit_Decl (hf x hx)
    rfl
  · have g := h x hx
    obtain ⟨f, t, cons, rfl⟩ := fit_Decl (hf x hx)
    have g' : V Try.prog lay sig.has ext 47 [.agg _] = some (.v (.agg _)) := g
    unfold rowE
    simp only [mkS, if_true, g', Option.bind_some]
    rfl
theorem sz_ExprS (rows : List (List AC)) (hl : rows.length ≤ maxI) (hf : ∀ x ∈ rows, Fit .expr x) (h : ∀ x ∈ rows, SzP laws_szExpr x) (left : Int) (h0 : 0 ≤ left) (h1 : left ≤ 1048576) :
    ∃ r, laws_szExprS [.cell (.sl 3 rows), .cell (.int left)] = some (.v (.cell (.int r))) ∧ SzOk (rows.length + rsS rows) left r := by
  have key : ∀ m k : Nat, k + m = rows.length → ∀ left : Int, 0 ≤ left → left ≤ 1048576 → ∃ r, laws_szExprS_L0 rows left (k : Int) = some (.v (.cell (.int r))) ∧ SzOk (rsS (rows.drop k)) left r := by
    intro m
    induction m with
    | zero =>
      intro k hk left h0 h1
      refine ⟨left, laws_szExprS_L0_le (bifF (decide_eq_false (by omega)) rfl), .inl ?_⟩
      rw [List.drop_eq_nil_of_le (by omega), rsS_nil]
      exact ⟨by omega, by omega⟩
    | succ m ih =>
      intro k hk left h0 h1
      have hlt : k < rows.length := by omega
      obtain ⟨o, n, kids, e⟩ := fit_Expr (hf _ (mem_getD hlt []))
      obtain ⟨r1, g1, g2⟩ := h _ (mem_getD hlt []) left h0 h1
      rw [e] at g1
      rw [rsS_drop hlt]
      rcases g2 with ⟨hle, rfl⟩ | ⟨hlt', rfl⟩
      · obtain ⟨r2, k1, k2⟩ := ih (k + 1) (by omega) (left - cS (rows.getD k [])) (by omega) (by omega)
        refine ⟨r2, laws_szExprS_L0_le (bifT (decide_eq_true (by omega)) (atExpr hlt e (callI g1 (bifF (decide_eq_false (by omega)) ?_)))), ?_⟩
        · rw [wrk (by omega)]; exact k1
        · unfold SzOk at k2 ⊢; omega
      · exact ⟨-1, laws_szExprS_L0_le (bifT (decide_eq_true (by omega)) (atExpr hlt e (callI g1 (bifT (decide_eq_true (by omega)) rfl)))), .inr ⟨by omega, rfl⟩⟩
  have e : wrapI (left - ((rows.length : Nat) : Int)) = left - rows.length := wr (by unfold maxI at hl; omega) (by omega)
  by_cases hle : (rows.length : Int) ≤ left
  · obtain ⟨r, g1, g2⟩ := key rows.length 0 (by omega) (left - rows.length) (by omega) (by omega)
    refine ⟨r, laws_szExprS_le (bifF (by rw [e]; exact decide_eq_false (by omega)) (by rw [e]; exact g1)), ?_⟩
    rw [List.drop_zero] at g2
    unfold SzOk at g2 ⊢; omega
  · exact ⟨-1, laws_szExprS_le (bifT (by rw [e]; exact decide_eq_true (by omega)) rfl), .inr ⟨by omega, rfl⟩⟩
theorem eq_ExprS (rows : List (List AC)) (hl : rows.length ≤ maxI) (hf : ∀ x ∈ rows, Fit .expr x) (h : ∀ x ∈ rows, EqP laws_eqExpr x) : laws_eqExprS [.cell (.sl 3 rows), .cell (.sl 3 rows)] = some (.v (.cell (.bool true))) := by
  have key : ∀ m k : Nat, k + m = rows.length → laws_eqExprS_L0 rows rows (k : Int) = some (.v (.cell (.bool true))) := by
    intro m
    induction m with
    | zero => intro k hk; exact laws_eqExprS_L0_le (bifF (decide_eq_false (by omega)) rfl)
    | succ m ih =>
      intro k hk
      have hlt : k < rows.length := by omega
      obtain ⟨o, n, kids, e⟩ := fit_Expr (hf _ (mem_getD hlt []))
      have g : EqP laws_eqExpr _ := h _ (mem_getD hlt [])
      rw [e] at g
      refine laws_eqExprS_L0_le (bifT (decide_eq_true (by omega)) (atExpr hlt e (atExpr hlt e (callB g (bifF rfl ?_)))))
      rw [wrk (by omega)]
      exact ih (k + 1) (by omega)
  exact laws_eqExprS_le (bifF (by simp) (key rows.length 0 (by omega)))
theorem to_ExprS (rows : List (List AC)) (hl : rows.length ≤ 1048576) (hf : ∀ x ∈ rows, Fit .expr x) (h : ∀ x ∈ rows, laws_toExpr [.agg x] = some (.v (.agg x))) : laws_toExprS [.cell (.sl 3 rows)] = some (.v (.cell (.sl 3 rows))) := by
  refine V_ext (by kernel_rfl) rfl (ext_id rfl rfl hl (fun x hx => ?_) (fun x hx => ?_))
  · obtain ⟨o, n, kids, rfl⟩ := fit_Expr (hf x hx)
    rfl
  · have g := h x hx
    obtain ⟨o, n, kids, rfl⟩ := fit_Expr (hf x hx)
    have g' : V Try.prog lay sig.has ext 15 [.agg _] = some (.v (.agg _)) := g
    unfold rowE
    simp only [mkS, if_true, g', Option.bind_some]
    rfl
theorem sz_FuncS (rows : List (List AC)) (hl : rows.length ≤ maxI) (hf : ∀ x ∈ rows, Fit .func x) (h : ∀ x ∈ rows, SzP laws_szFunc x) (left : Int) (h0 : 0 ≤ left) (h1 : left ≤ 1048576) :
    ∃ r, laws_szFuncS [.cell (.sl 5 rows), .cell (.int left)] = some (.v (.cell (.int r))) ∧ SzOk (rows.length + rsS rows) left r := by
  have key : ∀ m k : Nat, k + m = rows.length → ∀ left : Int, 0 ≤ left → left ≤ 1048576 → ∃ r, laws_szFuncS_L0 rows left (k : Int) = some (.v (.cell (.int r))) ∧ SzOk (rsS (rows.drop k)) left r := by
    intro m
    induction m with
    | zero =>
      intro k hk left h0 h1
      refine ⟨left, laws_szFuncS_L0_le (bifF (decide_eq_false (by omega)) rfl), .inl ?_⟩
      rw [List.drop_eq_nil_of_le (by omega), rsS_nil]
      exact ⟨by omega, by omega⟩
    | succ m ih =>
      intro k hk left h0 h1
      have hlt : k < rows.length := by omega
      obtain ⟨ps, r, bo, bn, bkids, e⟩ := fit_Func (hf _ (mem_getD hlt []))
      obtain ⟨r1, g1, g2⟩ := h _ (mem_getD hlt []) left h0 h1
      rw [e] at g1
      rw [rsS_drop hlt]
      rcases g2 with ⟨hle, rfl⟩ | ⟨hlt', rfl⟩
      · obtain ⟨r2, k1, k2⟩ := ih (k + 1) (by omega) (left - cS (rows.getD k [])) (by omega) (by omega)
        refine ⟨r2, laws_szFuncS_L0_le (bifT (decide_eq_true (by omega)) (atFunc hlt e (callI g1 (bifF (decide_eq_false (by omega)) ?_)))), ?_⟩
        · rw [wrk (by omega)]; exact k1
        · unfold SzOk at k2 ⊢; omega
      · exact ⟨-1, laws_szFuncS_L0_le (bifT (decide_eq_true (by omega)) (atFunc hlt e (callI g1 (bifT (decide_eq_true (by omega)) rfl)))), .inr ⟨by omega, rfl⟩⟩
  have e : wrapI (left - ((rows.length : Nat) : Int)) = left - rows.length := wr (by unfold maxI at hl; omega) (by omega)
  by_cases hle : (rows.length : Int) ≤ left
  · obtain ⟨r, g1, g2⟩ := key rows.length 0 (by omega) (left - rows.length) (by omega) (by omega)
    refine ⟨r, laws_szFuncS_le (bifF (by rw [e]; exact decide_eq_false (by omega)) (by rw [e]; exact g1)), ?_⟩
    rw [List.drop_zero] at g2
    unfold SzOk at g2 ⊢; omega
  · exact ⟨-1, laws_szFuncS_le (bifT (by rw [e]; exact decide_eq_true (by omega)) rfl), .inr ⟨by omega, rfl⟩⟩
theorem eq_FuncS (rows : List (List AC)) (hl : rows.length ≤ maxI) (hf : ∀ x ∈ rows, Fit .func x) (h : ∀ x ∈ rows, EqP laws_eqFunc x) : laws_eqFuncS [.cell (.sl 5 rows), .cell (.sl 5 rows)] = some (.v (.cell (.bool true))) := by
  have key : ∀ m k : Nat, k + m = rows.length → laws_eqFuncS_L0 rows rows (k : Int) = some (.v (.cell (.bool true))) := by
    intro m
    induction m with
    | zero => intro k hk; exact laws_eqFuncS_L0_le (bifF (decide_eq_false (by omega)) rfl)
    | succ m ih =>
      intro k hk
      have hlt : k < rows.length := by omega
      obtain ⟨ps, r, bo, bn, bkids, e⟩ := fit_Func (hf _ (mem_getD hlt []))
      have g : EqP laws_eqFunc _ := h _ (mem_getD hlt [])
      rw [e] at g
      refine laws_eqFuncS_L0_le (bifT (decide_eq_true (by omega)) (atFunc hlt e (atFunc hlt e (callB g (bifF rfl ?_)))))
      rw [wrk (by omega)]
      exact ih (k + 1) (by omega)
  exact laws_eqFuncS_le (bifF (by simp) (key rows.length 0 (by omega)))
theorem to_FuncS (rows : List (List AC)) (hl : rows.length ≤ 1048576) (hf : ∀ x ∈ rows, Fit .func x) (h : ∀ x ∈ rows, laws_toFunc [.agg x] = some (.v (.agg x))) : laws_toFuncS [.cell (.sl 5 rows)] = some (.v (.cell (.sl 5 rows))) := by
  refine V_ext (by kernel_rfl) rfl (ext_id rfl rfl hl (fun x hx => ?_) (fun x hx => ?_))
  · obtain ⟨ps, r, bo, bn, bkids, rfl⟩ := fit_Func (hf x hx)
    rfl
  · have g := h x hx
    obtain ⟨ps, r, bo, bn, bkids, rfl⟩ := fit_Func (hf x hx)
    have g' : V Try.prog lay sig.has ext 48 [.agg _] = some (.v (.agg _)) := g
    unfold rowE
    simp only [mkS, if_true, g', Option.bind_some]
    rfl
theorem sz_Con {fs : List Int} (hfs : fs.length ≤ maxI) : SzP laws_szCon [.sl 1 (intsC fs)] := by
  intro left h0 h1
  obtain ⟨r0, g0, s0⟩ := sz_IntS fs hfs left (by omega) (by omega)
  rcases s0 with ⟨c0, rfl⟩ | ⟨c0, rfl⟩
  case inr => exact ⟨-1, laws_szCon_le (callI g0 (bifT (decide_eq_true (by omega)) rfl)), .inr ⟨by simp only [cS_int, cS_sl, cS_nil, rsS_ints, intsC_len];  omega, rfl⟩⟩
  refine ⟨_, laws_szCon_le (callI g0 (bifF (decide_eq_false (by omega)) (rfl))), .inl ?_⟩
  simp only [cS_int, cS_sl, cS_nil, rsS_ints, intsC_len]
  constructor <;> omega
theorem eq_Con {fs : List Int} (hfs : fs.length ≤ maxI) : EqP laws_eqCon [.sl 1 (intsC fs)] := laws_eqCon_le (callB (eq_IntS fs hfs) (bifF rfl (rfl)))
theorem to_Con {fs : List Int} : ToP laws_toCon [.sl 1 (intsC fs)] := by
  intro hs
  simp only [cS_int, cS_sl, cS_nil, rsS_ints, intsC_len] at hs
  exact laws_toCon_le (callS (to_IntS fs (by omega)) (rfl))
theorem sz_Decl {f : Int} {t : Int} {cons : List (List AC)} (lcons : cons.length ≤ maxI) (fcons : ∀ x ∈ cons, Fit .con x) (hcons : ∀ x ∈ cons, SzP laws_szCon x) : SzP laws_szDecl [.int f, .int t, .sl 1 cons] := by
  intro left h0 h1
  obtain ⟨r0, g0, s0⟩ := sz_ConS cons lcons fcons hcons left (by omega) (by omega)
  rcases s0 with ⟨c0, rfl⟩ | ⟨c0, rfl⟩
  case inr => exact ⟨-1, laws_szDecl_le (callI g0 (bifT (decide_eq_true (by omega)) rfl)), .inr ⟨by simp only [cS_int, cS_sl, cS_nil, rsS_ints, intsC_len];  omega, rfl⟩⟩
  refine ⟨_, laws_szDecl_le (callI g0 (bifF (decide_eq_false (by omega)) (rfl))), .inl ?_⟩
  simp only [cS_int, cS_sl, cS_nil, rsS_ints, intsC_len]
  constructor <;> omega
theorem eq_Decl {f : Int} {t : Int} {cons : List (List AC)} (lcons : cons.length ≤ maxI) (fcons : ∀ x ∈ cons, Fit .con x) (hcons : ∀ x ∈ cons, EqP laws_eqCon x) : EqP laws_eqDecl [.int f, .int t, .sl 1 cons] := laws_eqDecl_le (bifF (by simp) (bifF (by simp) (callB (eq_ConS cons lcons fcons hcons) (bifF rfl (rfl)))))
theorem to_Decl {f : Int} {t : Int} {cons : List (List AC)} (fcons : ∀ x ∈ cons, Fit .con x) (hcons : ∀ x ∈ cons, ToP laws_toCon x) : ToP laws_toDecl [.int f, .int t, .sl 1 cons] := by
  intro hs
  simp only [cS_int, cS_sl, cS_nil, rsS_ints, intsC_len] at hs
  exact laws_toDecl_le (callS (to_ConS cons (by omega) fcons fun x hx => hcons x hx (by have := rsS_mem hx; omega)) (rfl))
theorem sz_Expr {o : Int} {n : Int} {kids : List (List AC)} (lkids : kids.length ≤ maxI) (fkids : ∀ x ∈ kids, Fit .expr x) (hkids : ∀ x ∈ kids, SzP laws_szExpr x) : SzP laws_szExpr [.int o, .int n, .sl 3 kids] := by
  intro left h0 h1
  obtain ⟨r0, g0, s0⟩ := sz_ExprS kids lkids fkids hkids left (by omega) (by omega)
  rcases s0 with ⟨c0, rfl⟩ | ⟨c0, rfl⟩
  case inr => exact ⟨-1, laws_szExpr_le (callI g0 (bifT (decide_eq_true (by omega)) rfl)), .inr ⟨by simp only [cS_int, cS_sl, cS_nil, rsS_ints, intsC_len];  omega, rfl⟩⟩
  refine ⟨_, laws_szExpr_le (callI g0 (bifF (decide_eq_false (by omega)) (rfl))), .inl ?_⟩
  simp only [cS_int, cS_sl, cS_nil, rsS_ints, intsC_len]
  constructor <;> omega
theorem eq_Expr {o : Int} {n : Int} {kids : List (List AC)} (lkids : kids.length ≤ maxI) (fkids : ∀ x ∈ kids, Fit .expr x) (hkids : ∀ x ∈ kids, EqP laws_eqExpr x) : EqP laws_eqExpr [.int o, .int n, .sl 3 kids] := laws_eqExpr_le (bifF (by simp) (bifF (by simp) (callB (eq_ExprS kids lkids fkids hkids) (bifF rfl (rfl)))))
theorem to_Expr {o : Int} {n : Int} {kids : List (List AC)} (fkids : ∀ x ∈ kids, Fit .expr x) (hkids : ∀ x ∈ kids, ToP laws_toExpr x) : ToP laws_toExpr [.int o, .int n, .sl 3 kids] := by
  intro hs
  simp only [cS_int, cS_sl, cS_nil, rsS_ints, intsC_len] at hs
  exact laws_toExpr_le (callS (to_ExprS kids (by omega) fkids fun x hx => hkids x hx (by have := rsS_mem hx; omega)) (rfl))
theorem sz_Func {ps : List Int} {r : Int} {bo : Int} {bn : Int} {bkids : List (List AC)} (hps : ps.length ≤ maxI) (hb : SzP laws_szExpr [.int bo, .int bn, .sl 3 bkids]) : SzP laws_szFunc [.sl 1 (intsC ps), .int r, .int bo, .int bn, .sl 3 bkids] := by
  intro left h0 h1
  obtain ⟨r0, g0, s0⟩ := sz_IntS ps hps left (by omega) (by omega)
  rcases s0 with ⟨c0, rfl⟩ | ⟨c0, rfl⟩
  case inr => exact ⟨-1, laws_szFunc_le (callI g0 (bifT (decide_eq_true (by omega)) rfl)), .inr ⟨by simp only [cS_int, cS_sl, cS_nil, rsS_ints, intsC_len];  omega, rfl⟩⟩
  obtain ⟨r1, g1, s1⟩ := hb (left - (ps.length : Nat)) (by omega) (by omega)
  rw [show cS [.int bo, .int bn, .sl 3 bkids] = (bkids.length + rsS bkids) by simp only [cS_int, cS_sl, cS_nil, rsS_ints, intsC_len]; omega] at s1
  rcases s1 with ⟨c1, rfl⟩ | ⟨c1, rfl⟩
  case inr => exact ⟨-1, laws_szFunc_le (callI g0 (bifF (decide_eq_false (by omega)) (callI g1 (bifT (decide_eq_true (by omega)) rfl)))), .inr ⟨by simp only [cS_int, cS_sl, cS_nil, rsS_ints, intsC_len];  omega, rfl⟩⟩
  refine ⟨_, laws_szFunc_le (callI g0 (bifF (decide_eq_false (by omega)) (callI g1 (bifF (decide_eq_false (by omega)) (rfl))))), .inl ?_⟩
  simp only [cS_int, cS_sl, cS_nil, rsS_ints, intsC_len]
  constructor <;> omega
theorem eq_Func {ps : List Int} {r : Int} {bo : Int} {bn : Int} {bkids : List (List AC)} (hps : ps.length ≤ maxI) (hb : EqP laws_eqExpr [.int bo, .int bn, .sl 3 bkids]) : EqP laws_eqFunc [.sl 1 (intsC ps), .int r, .int bo, .int bn, .sl 3 bkids] := laws_eqFunc_le (callB (eq_IntS ps hps) (bifF rfl (bifF (by simp) (callB hb (bifF rfl (rfl))))))
theorem to_Func {ps : List Int} {r : Int} {bo : Int} {bn : Int} {bkids : List (List AC)} (hb : ToP laws_toExpr [.int bo, .int bn, .sl 3 bkids]) : ToP laws_toFunc [.sl 1 (intsC ps), .int r, .int bo, .int bn, .sl 3 bkids] := by
  intro hs
  simp only [cS_int, cS_sl, cS_nil, rsS_ints, intsC_len] at hs
  exact laws_toFunc_le (callS (to_IntS ps (by omega)) (callExpr (hb (by simp only [cS_int, cS_sl, cS_nil, rsS_ints, intsC_len]; omega)) (rfl)))
theorem sz_Program {ds : List (List AC)} {fs : List (List AC)} (lds : ds.length ≤ maxI) (fds : ∀ x ∈ ds, Fit .decl x) (hds : ∀ x ∈ ds, SzP laws_szDecl x) (lfs : fs.length ≤ maxI) (ffs : ∀ x ∈ fs, Fit .func x) (hfs : ∀ x ∈ fs, SzP laws_szFunc x) : SzP laws_szProgram [.sl 3 ds, .sl 5 fs] := by
  intro left h0 h1
  obtain ⟨r0, g0, s0⟩ := sz_DeclS ds lds fds hds left (by omega) (by omega)
  rcases s0 with ⟨c0, rfl⟩ | ⟨c0, rfl⟩
  case inr => exact ⟨-1, laws_szProgram_le (callI g0 (bifT (decide_eq_true (by omega)) rfl)), .inr ⟨by simp only [cS_int, cS_sl, cS_nil, rsS_ints, intsC_len];  omega, rfl⟩⟩
  obtain ⟨r1, g1, s1⟩ := sz_FuncS fs lfs ffs hfs (left - (ds.length + rsS ds : Nat)) (by omega) (by omega)
  rcases s1 with ⟨c1, rfl⟩ | ⟨c1, rfl⟩
  case inr => exact ⟨-1, laws_szProgram_le (callI g0 (bifF (decide_eq_false (by omega)) (callI g1 (bifT (decide_eq_true (by omega)) rfl)))), .inr ⟨by simp only [cS_int, cS_sl, cS_nil, rsS_ints, intsC_len];  omega, rfl⟩⟩
  refine ⟨_, laws_szProgram_le (callI g0 (bifF (decide_eq_false (by omega)) (callI g1 (bifF (decide_eq_false (by omega)) (rfl))))), .inl ?_⟩
  simp only [cS_int, cS_sl, cS_nil, rsS_ints, intsC_len]
  constructor <;> omega
theorem eq_Program {ds : List (List AC)} {fs : List (List AC)} (lds : ds.length ≤ maxI) (fds : ∀ x ∈ ds, Fit .decl x) (hds : ∀ x ∈ ds, EqP laws_eqDecl x) (lfs : fs.length ≤ maxI) (ffs : ∀ x ∈ fs, Fit .func x) (hfs : ∀ x ∈ fs, EqP laws_eqFunc x) : EqP laws_eqProgram [.sl 3 ds, .sl 5 fs] := laws_eqProgram_le (callB (eq_DeclS ds lds fds hds) (bifF rfl (callB (eq_FuncS fs lfs ffs hfs) (bifF rfl (rfl)))))
theorem to_Program {ds : List (List AC)} {fs : List (List AC)} (fds : ∀ x ∈ ds, Fit .decl x) (hds : ∀ x ∈ ds, ToP laws_toDecl x) (ffs : ∀ x ∈ fs, Fit .func x) (hfs : ∀ x ∈ fs, ToP laws_toFunc x) : ToP laws_toProgram [.sl 3 ds, .sl 5 fs] := by
  intro hs
  simp only [cS_int, cS_sl, cS_nil, rsS_ints, intsC_len] at hs
  exact laws_toProgram_le (callS (to_DeclS ds (by omega) fds fun x hx => hds x hx (by have := rsS_mem hx; omega)) (callS (to_FuncS fs (by omega) ffs fun x hx => hfs x hx (by have := rsS_mem hx; omega)) (rfl)))
theorem sz_fit : ∀ {t : Ty} {x : List AC}, Fit t x → (match t with
    | .con => SzP laws_szCon x
    | .decl => SzP laws_szDecl x
    | .expr => SzP laws_szExpr x
    | .func => SzP laws_szFunc x
    | .prog => SzP laws_szProgram x
    | _ => True) := by
  intro t x h
  induction h with
  | con fs h => exact sz_Con h.len
  | decl f t cons hf ht hl h ih => exact sz_Decl hl h ih
  | expr o n kids ho hn hl h ih => exact sz_Expr hl h ih
  | func ps r o n kids hp hr h ih => exact sz_Func hp.len ih
  | prog ds fs hd hf h1 h2 ih1 ih2 => exact sz_Program hd h1 ih1 hf h2 ih2
  | step => trivial
  | block => trivial
  | routine => trivial
  | normal => trivial
  | cell => trivial
  | instr => trivial
  | proc => trivial
  | image => trivial
  | frame => trivial
  | state => trivial
theorem eq_fit : ∀ {t : Ty} {x : List AC}, Fit t x → (match t with
    | .con => EqP laws_eqCon x
    | .decl => EqP laws_eqDecl x
    | .expr => EqP laws_eqExpr x
    | .func => EqP laws_eqFunc x
    | .prog => EqP laws_eqProgram x
    | _ => True) := by
  intro t x h
  induction h with
  | con fs h => exact eq_Con h.len
  | decl f t cons hf ht hl h ih => exact eq_Decl hl h ih
  | expr o n kids ho hn hl h ih => exact eq_Expr hl h ih
  | func ps r o n kids hp hr h ih => exact eq_Func hp.len ih
  | prog ds fs hd hf h1 h2 ih1 ih2 => exact eq_Program hd h1 ih1 hf h2 ih2
  | step => trivial
  | block => trivial
  | routine => trivial
  | normal => trivial
  | cell => trivial
  | instr => trivial
  | proc => trivial
  | image => trivial
  | frame => trivial
  | state => trivial
theorem to_fit : ∀ {t : Ty} {x : List AC}, Fit t x → (match t with
    | .con => ToP laws_toCon x
    | .decl => ToP laws_toDecl x
    | .expr => ToP laws_toExpr x
    | .func => ToP laws_toFunc x
    | .prog => ToP laws_toProgram x
    | _ => True) := by
  intro t x h
  induction h with
  | con fs h => exact to_Con
  | decl f t cons hf ht hl h ih => exact to_Decl h ih
  | expr o n kids ho hn hl h ih => exact to_Expr h ih
  | func ps r o n kids hp hr h ih => exact to_Func ih
  | prog ds fs hd hf h1 h2 ih1 ih2 => exact to_Program h1 ih1 h2 ih2
  | step => trivial
  | block => trivial
  | routine => trivial
  | normal => trivial
  | cell => trivial
  | instr => trivial
  | proc => trivial
  | image => trivial
  | frame => trivial
  | state => trivial
end Go.Proofs.Ytoljlooeiljpfaa

/- Data that fit: measured, held against a copy, copied. MADE BY mkdata.py. -/
import Derived.Test.YtbdngmeoohjnoaaGreatPa
import Derived.Test.YtbdngmeoohjnoaaGreatLf
set_option linter.unusedVariables false
set_option linter.unusedSimpArgs false
namespace Go.Proofs.YtbdngmeoohjnoaaGreat
open Go
def SzP (f : List SV → Option AV) (cs : List AC) : Prop := ∀ left : Int, 0 ≤ left → left ≤ 1048576 → ∃ r, f [.agg cs, .cell (.int left)] = some (.v (.cell (.int r))) ∧ SzOk (cS cs) left r
def EqP (f : List SV → Option AV) (cs : List AC) : Prop := f [.agg cs, .agg cs] = some (.v (.cell (.bool true)))
def ToP (f : List SV → Option AV) (cs : List AC) : Prop := cS cs ≤ 1048576 → f [.agg cs] = some (.v (.agg cs))
theorem ext_id {call : Orc} {m : MapE} {k : Nat} {rows : List (List AC)} (hk : k = m.sh.length) (hk2 : m.sh'.length = k) (hl : rows.length ≤ 1048576) (hs : ∀ x ∈ rows, shOk m.sh x = true) (hr : ∀ x ∈ rows, rowE call m x = some x) : extRun call (.map m) [.cell (.sl k rows)] = some (.v (.cell (.sl k rows))) := by
  have key : ∀ rows : List (List AC), (∀ x ∈ rows, rowE call m x = some x) → rowsE call m rows = some rows := by
    intro rows
    induction rows with
    | nil => intro _; rfl
    | cons x rows ih =>
      intro h
      simp only [rowsE, h x List.mem_cons_self, Option.bind_some, ih (fun y hy => h y (List.mem_cons_of_mem _ hy)), Option.map_some]
  unfold extRun
  simp only
  rw [if_pos ⟨hk, hl, List.all_eq_true.2 hs⟩, key rows hr]
  simp only [Option.map_some, hk2]
theorem fit_Con {x : List AC} (h : Fit .con x) : ∃ (fs : List Int), x = [.sl 1 (intsC fs)] := by cases h; exact ⟨_, rfl⟩
theorem fit_Decl {x : List AC} (h : Fit .decl x) : ∃ (f : Int) (t : Int) (cons : List (List AC)), x = [.int f, .int t, .sl 1 cons] := by cases h; exact ⟨_, _, _, rfl⟩
theorem fit_Block {x : List AC} (h : Fit .block x) : ∃ (steps : List (List AC)) (r : Int), x = [.sl 5 steps, .int r] := by cases h; exact ⟨_, _, rfl⟩
theorem fit_Step {x : List AC} (h : Fit .step x) : ∃ (o : Int) (n : Int) (i : Int) (args : List Int) (kids : List (List AC)), x = [.int o, .int n, .int i, .sl 1 (intsC args), .sl 2 kids] := by cases h; exact ⟨_, _, _, _, _, rfl⟩
theorem fit_Routine {x : List AC} (h : Fit .routine x) : ∃ (ps : List Int) (lent : List Int) (r : Int) (bsteps : List (List AC)) (br : Int), x = [.sl 1 (intsC ps), .sl 1 (intsC lent), .int r, .sl 5 bsteps, .int br] := by cases h; exact ⟨_, _, _, _, _, rfl⟩
theorem sz_IntS (xs : List Int) (hx : xs.length ≤ maxI) (left : Int) (h0 : 0 ≤ left) (h1 : left ≤ 1048576) : ∃ r, laws_szIntS [.cell (.sl 1 (intsC xs)), .cell (.int left)] = some (.v (.cell (.int r))) ∧ SzOk xs.length left r := by
  have e : wrapI (left - (((intsC xs).length : Nat) : Int)) = left - xs.length := by rw [intsC_len]; exact wr (by unfold maxI at hx; omega) (by omega)
  by_cases h : (xs.length : Int) ≤ left
  · exact ⟨left - xs.length, laws_szIntS_le (bifF (by rw [e]; exact decide_eq_false (by omega)) (by rw [e])), .inl ⟨h, rfl⟩⟩
  · exact ⟨-1, laws_szIntS_le (bifT (by rw [e]; exact decide_eq_true (by omega)) rfl), .inr ⟨by omega, rfl⟩⟩
theorem eq_IntS (xs : List Int) (hx : xs.length ≤ maxI) : laws_eqIntS [.cell (.sl 1 (intsC xs)), .cell (.sl 1 (intsC xs))] = some (.v (.cell (.bool true))) := by
  have key : ∀ m k : Nat, k + m = xs.length → laws_eqIntS_L0 (intsC xs) (intsC xs) (k : Int) = some (.v (.cell (.bool true))) := by
    intro m
    induction m with
    | zero => intro k hk; exact laws_eqIntS_L0_le (bifF (decide_eq_false (by rw [intsC_len]; omega)) rfl)
    | succ m ih =>
      intro k hk
      refine laws_eqIntS_L0_le (bifT (decide_eq_true (by rw [intsC_len]; omega)) (atNum (by omega) (atNum (by omega) (bifF (by simp) ?_))))
      rw [wrk (by omega)]
      exact ih (k + 1) (by omega)
  exact laws_eqIntS_le (bifF (by simp) (key xs.length 0 (by omega)))
theorem to_IntS (xs : List Int) (hx : xs.length ≤ 1048576) : laws_toIntS [.cell (.sl 1 (intsC xs))] = some (.v (.cell (.sl 1 (intsC xs)))) := by
  refine V_ext (by kernel_rfl) rfl (ext_id rfl rfl (by rw [intsC_len]; exact hx) (fun x hx => ?_) (fun x _ => rfl))
  simp only [intsC, List.mem_map] at hx
  obtain ⟨n, _, rfl⟩ := hx
  rfl
theorem sz_ConS (rows : List (List AC)) (hl : rows.length ≤ maxI) (hf : ∀ x ∈ rows, Fit .con x) (h : ∀ x ∈ rows, SzP laws_szCon x) (left : Int) (h0 : 0 ≤ left) (h1 : left ≤ 1048576) :
    ∃ r, laws_szConS [.cell (.sl 1 rows), .cell (.int left)] = some (.v (.cell (.int r))) ∧ SzOk (rows.length + rsS rows) left r := by
  have key : ∀ m k : Nat, k + m = rows.length → ∀ left : Int, 0 ≤ left → left ≤ 1048576 → ∃ r, laws_szConS_L0 rows left (k : Int) = some (.v (.cell (.int r))) ∧ SzOk (rsS (rows.drop k)) left r := by
    intro m
    induction m with
    | zero =>
      intro k hk left h0 h1
      refine ⟨left, laws_szConS_L0_le (bifF (decide_eq_false (by omega)) rfl), .inl ?_⟩
      rw [List.drop_eq_nil_of_le (by omega), rsS_nil]
      exact ⟨by omega, by omega⟩
    | succ m ih =>
      intro k hk left h0 h1
      have hlt : k < rows.length := by omega
      obtain ⟨fs, e⟩ := fit_Con (hf _ (mem_getD hlt []))
      obtain ⟨r1, g1, g2⟩ := h _ (mem_getD hlt []) left h0 h1
      rw [e] at g1
      rw [rsS_drop hlt]
      rcases g2 with ⟨hle, rfl⟩ | ⟨hlt', rfl⟩
      · obtain ⟨r2, k1, k2⟩ := ih (k + 1) (by omega) (left - cS (rows.getD k [])) (by omega) (by omega)
        refine ⟨r2, laws_szConS_L0_le (bifT (decide_eq_true (by omega)) (atCon hlt e (callI g1 (bifF (decide_eq_false (by omega)) ?_)))), ?_⟩
        · rw [wrk (by omega)]; exact k1
        · unfold SzOk at k2 ⊢; omega
      · exact ⟨-1, laws_szConS_L0_le (bifT (decide_eq_true (by omega)) (atCon hlt e (callI g1 (bifT (decide_eq_true (by omega)) rfl)))), .inr ⟨by omega, rfl⟩⟩
  have e : wrapI (left - ((rows.length : Nat) : Int)) = left - rows.length := wr (by unfold maxI at hl; omega) (by omega)
  by_cases hle : (rows.length : Int) ≤ left
  · obtain ⟨r, g1, g2⟩ := key rows.length 0 (by omega) (left - rows.length) (by omega) (by omega)
    refine ⟨r, laws_szConS_le (bifF (by rw [e]; exact decide_eq_false (by omega)) (by rw [e]; exact g1)), ?_⟩
    rw [List.drop_zero] at g2
    unfold SzOk at g2 ⊢; omega
  · exact ⟨-1, laws_szConS_le (bifT (by rw [e]; exact decide_eq_true (by omega)) rfl), .inr ⟨by omega, rfl⟩⟩
theorem eq_ConS (rows : List (List AC)) (hl : rows.length ≤ maxI) (hf : ∀ x ∈ rows, Fit .con x) (h : ∀ x ∈ rows, EqP laws_eqCon x) : laws_eqConS [.cell (.sl 1 rows), .cell (.sl 1 rows)] = some (.v (.cell (.bool true))) := by
  have key : ∀ m k : Nat, k + m = rows.length → laws_eqConS_L0 rows rows (k : Int) = some (.v (.cell (.bool true))) := by
    intro m
    induction m with
    | zero => intro k hk; exact laws_eqConS_L0_le (bifF (decide_eq_false (by omega)) rfl)
    | succ m ih =>
      intro k hk
      have hlt : k < rows.length := by omega
      obtain ⟨fs, e⟩ := fit_Con (hf _ (mem_getD hlt []))
      have g : EqP laws_eqCon _ := h _ (mem_getD hlt [])
      rw [e] at g
      refine laws_eqConS_L0_le (bifT (decide_eq_true (by omega)) (atCon hlt e (atCon hlt e (callB g (bifF rfl ?_)))))
      rw [wrk (by omega)]
      exact ih (k + 1) (by omega)
  exact laws_eqConS_le (bifF (by simp) (key rows.length 0 (by omega)))
theorem to_ConS (rows : List (List AC)) (hl : rows.length ≤ 1048576) (hf : ∀ x ∈ rows, Fit .con x) (h : ∀ x ∈ rows, laws_toCon [.agg x] = some (.v (.agg x))) : laws_toConS [.cell (.sl 1 rows)] = some (.v (.cell (.sl 1 rows))) := by
  refine V_ext (by kernel_rfl) rfl (ext_id rfl rfl hl (fun x hx => ?_) (fun x hx => ?_))
  · obtain ⟨fs, rfl⟩ := fit_Con (hf x hx)
    rfl
  · have g := h x hx
    obtain ⟨fs, rfl⟩ := fit_Con (hf x hx)
    have g' : V Tryz.prog lay sig.has ext 113 [.agg _] = some (.v (.agg _)) := g
    unfold rowE
    simp only [mkS, if_true, g', Option.bind_some]
    rfl
theorem sz_DeclS (rows : List (List AC)) (hl : rows.length ≤ maxI) (hf : ∀ x ∈ rows, Fit .decl x) (h : ∀ x ∈ rows, SzP laws_szDecl x) (left : Int) (h0 : 0 ≤ left) (h1 : left ≤ 1048576) :
    ∃ r, laws_szDeclS [.cell (.sl 3 rows), .cell (.int left)] = some (.v (.cell (.int r))) ∧ SzOk (rows.length + rsS rows) left r := by
  have key : ∀ m k : Nat, k + m = rows.length → ∀ left : Int, 0 ≤ left → left ≤ 1048576 → ∃ r, laws_szDeclS_L0 rows left (k : Int) = some (.v (.cell (.int r))) ∧ SzOk (rsS (rows.drop k)) left r := by
    intro m
    induction m with
    | zero =>
      intro k hk left h0 h1
      refine ⟨left, laws_szDeclS_L0_le (bifF (decide_eq_false (by omega)) rfl), .inl ?_⟩
      rw [List.drop_eq_nil_of_le (by omega), rsS_nil]
      exact ⟨by omega, by omega⟩
    | succ m ih =>
      intro k hk left h0 h1
      have hlt : k < rows.length := by omega
      obtain ⟨f, t, cons, e⟩ := fit_Decl (hf _ (mem_getD hlt []))
      obtain ⟨r1, g1, g2⟩ := h _ (mem_getD hlt []) left h0 h1
      rw [e] at g1
      rw [rsS_drop hlt]
      rcases g2 with ⟨hle, rfl⟩ | ⟨hlt', rfl⟩
      · obtain ⟨r2, k1, k2⟩ := ih (k + 1) (by omega) (left - cS (rows.getD k [])) (by omega) (by omega)
        refine ⟨r2, laws_szDeclS_L0_le (bifT (decide_eq_true (by omega)) (atDecl hlt e (callI g1 (bifF (decide_eq_false (by omega)) ?_)))), ?_⟩
        · rw [wrk (by omega)]; exact k1
        · unfold SzOk at k2 ⊢; omega
      · exact ⟨-1, laws_szDeclS_L0_le (bifT (decide_eq_true (by omega)) (atDecl hlt e (callI g1 (bifT (decide_eq_true (by omega)) rfl)))), .inr ⟨by omega, rfl⟩⟩
  have e : wrapI (left - ((rows.length : Nat) : Int)) = left - rows.length := wr (by unfold maxI at hl; omega) (by omega)
  by_cases hle : (rows.length : Int) ≤ left
  · obtain ⟨r, g1, g2⟩ := key rows.length 0 (by omega) (left - rows.length) (by omega) (by omega)
    refine ⟨r, laws_szDeclS_le (bifF (by rw [e]; exact decide_eq_false (by omega)) (by rw [e]; exact g1)), ?_⟩
    rw [List.drop_zero] at g2
    unfold SzOk at g2 ⊢; omega
  · exact ⟨-1, laws_szDeclS_le (bifT (by rw [e]; exact decide_eq_true (by omega)) rfl), .inr ⟨by omega, rfl⟩⟩
theorem eq_DeclS (rows : List (List AC)) (hl : rows.length ≤ maxI) (hf : ∀ x ∈ rows, Fit .decl x) (h : ∀ x ∈ rows, EqP laws_eqDecl x) : laws_eqDeclS [.cell (.sl 3 rows), .cell (.sl 3 rows)] = some (.v (.cell (.bool true))) := by
  have key : ∀ m k : Nat, k + m = rows.length → laws_eqDeclS_L0 rows rows (k : Int) = some (.v (.cell (.bool true))) := by
    intro m
    induction m with
    | zero => intro k hk; exact laws_eqDeclS_L0_le (bifF (decide_eq_false (by omega)) rfl)
    | succ m ih =>
      intro k hk
      have hlt : k < rows.length := by omega
      obtain ⟨f, t, cons, e⟩ := fit_Decl (hf _ (mem_getD hlt []))
      have g : EqP laws_eqDecl _ := h _ (mem_getD hlt [])
      rw [e] at g
      refine laws_eqDeclS_L0_le (bifT (decide_eq_true (by omega)) (atDecl hlt e (atDecl hlt e (callB g (bifF rfl ?_)))))
      rw [wrk (by omega)]
      exact ih (k + 1) (by omega)
  exact laws_eqDeclS_le (bifF (by simp) (key rows.length 0 (by omega)))
theorem to_DeclS (rows : List (List AC)) (hl : rows.length ≤ 1048576) (hf : ∀ x ∈ rows, Fit .decl x) (h : ∀ x ∈ rows, laws_toDecl [.agg x] = some (.v (.agg x))) : laws_toDeclS [.cell (.sl 3 rows)] = some (.v (.cell (.sl 3 rows))) := by
  refine V_ext (by kernel_rfl) rfl (ext_id rfl rfl hl (fun x hx => ?_) (fun x hx => ?_))
  · obtain ⟨f, t, cons, rfl⟩ := fit_Decl (hf x hx)
    rfl
  · have g := h x hx
    obtain ⟨f, t, cons, rfl⟩ := fit_Decl (hf x hx)
    have g' : V Tryz.prog lay sig.has ext 61 [.agg _] = some (.v (.agg _)) := g
    unfold rowE
    simp only [mkS, if_true, g', Option.bind_some]
    rfl
theorem sz_BlockS (rows : List (List AC)) (hl : rows.length ≤ maxI) (hf : ∀ x ∈ rows, Fit .block x) (h : ∀ x ∈ rows, SzP laws_szBlock x) (left : Int) (h0 : 0 ≤ left) (h1 : left ≤ 1048576) :
    ∃ r, laws_szBlockS [.cell (.sl 2 rows), .cell (.int left)] = some (.v (.cell (.int r))) ∧ SzOk (rows.length + rsS rows) left r := by
  have key : ∀ m k : Nat, k + m = rows.length → ∀ left : Int, 0 ≤ left → left ≤ 1048576 → ∃ r, laws_szBlockS_L0 rows left (k : Int) = some (.v (.cell (.int r))) ∧ SzOk (rsS (rows.drop k)) left r := by
    intro m
    induction m with
    | zero =>
      intro k hk left h0 h1
      refine ⟨left, laws_szBlockS_L0_le (bifF (decide_eq_false (by omega)) rfl), .inl ?_⟩
      rw [List.drop_eq_nil_of_le (by omega), rsS_nil]
      exact ⟨by omega, by omega⟩
    | succ m ih =>
      intro k hk left h0 h1
      have hlt : k < rows.length := by omega
      obtain ⟨steps, r, e⟩ := fit_Block (hf _ (mem_getD hlt []))
      obtain ⟨r1, g1, g2⟩ := h _ (mem_getD hlt []) left h0 h1
      rw [e] at g1
      rw [rsS_drop hlt]
      rcases g2 with ⟨hle, rfl⟩ | ⟨hlt', rfl⟩
      · obtain ⟨r2, k1, k2⟩ := ih (k + 1) (by omega) (left - cS (rows.getD k [])) (by omega) (by omega)
        refine ⟨r2, laws_szBlockS_L0_le (bifT (decide_eq_true (by omega)) (atBlock hlt e (callI g1 (bifF (decide_eq_false (by omega)) ?_)))), ?_⟩
        · rw [wrk (by omega)]; exact k1
        · unfold SzOk at k2 ⊢; omega
      · exact ⟨-1, laws_szBlockS_L0_le (bifT (decide_eq_true (by omega)) (atBlock hlt e (callI g1 (bifT (decide_eq_true (by omega)) rfl)))), .inr ⟨by omega, rfl⟩⟩
  have e : wrapI (left - ((rows.length : Nat) : Int)) = left - rows.length := wr (by unfold maxI at hl; omega) (by omega)
  by_cases hle : (rows.length : Int) ≤ left
  · obtain ⟨r, g1, g2⟩ := key rows.length 0 (by omega) (left - rows.length) (by omega) (by omega)
    refine ⟨r, laws_szBlockS_le (bifF (by rw [e]; exact decide_eq_false (by omega)) (by rw [e]; exact g1)), ?_⟩
    rw [List.drop_zero] at g2
    unfold SzOk at g2 ⊢; omega
  · exact ⟨-1, laws_szBlockS_le (bifT (by rw [e]; exact decide_eq_true (by omega)) rfl), .inr ⟨by omega, rfl⟩⟩
theorem eq_BlockS (rows : List (List AC)) (hl : rows.length ≤ maxI) (hf : ∀ x ∈ rows, Fit .block x) (h : ∀ x ∈ rows, EqP laws_eqBlock x) : laws_eqBlockS [.cell (.sl 2 rows), .cell (.sl 2 rows)] = some (.v (.cell (.bool true))) := by
  have key : ∀ m k : Nat, k + m = rows.length → laws_eqBlockS_L0 rows rows (k : Int) = some (.v (.cell (.bool true))) := by
    intro m
    induction m with
    | zero => intro k hk; exact laws_eqBlockS_L0_le (bifF (decide_eq_false (by omega)) rfl)
    | succ m ih =>
      intro k hk
      have hlt : k < rows.length := by omega
      obtain ⟨steps, r, e⟩ := fit_Block (hf _ (mem_getD hlt []))
      have g : EqP laws_eqBlock _ := h _ (mem_getD hlt [])
      rw [e] at g
      refine laws_eqBlockS_L0_le (bifT (decide_eq_true (by omega)) (atBlock hlt e (atBlock hlt e (callB g (bifF rfl ?_)))))
      rw [wrk (by omega)]
      exact ih (k + 1) (by omega)
  exact laws_eqBlockS_le (bifF (by simp) (key rows.length 0 (by omega)))
theorem to_BlockS (rows : List (List AC)) (hl : rows.length ≤ 1048576) (hf : ∀ x ∈ rows, Fit .block x) (h : ∀ x ∈ rows, laws_toBlock [.agg x] = some (.v (.agg x))) : laws_toBlockS [.cell (.sl 2 rows)] = some (.v (.cell (.sl 2 rows))) := by
  refine V_ext (by kernel_rfl) rfl (ext_id rfl rfl hl (fun x hx => ?_) (fun x hx => ?_))
  · obtain ⟨steps, r, rfl⟩ := fit_Block (hf x hx)
    rfl
  · have g := h x hx
    obtain ⟨steps, r, rfl⟩ := fit_Block (hf x hx)
    have g' : V Tryz.prog lay sig.has ext 12 [.agg _] = some (.v (.agg _)) := g
    unfold rowE
    simp only [mkS, if_true, g', Option.bind_some]
    rfl
theorem sz_StepS (rows : List (List AC)) (hl : rows.length ≤ maxI) (hf : ∀ x ∈ rows, Fit .step x) (h : ∀ x ∈ rows, SzP laws_szStep x) (left : Int) (h0 : 0 ≤ left) (h1 : left ≤ 1048576) :
    ∃ r, laws_szStepS [.cell (.sl 5 rows), .cell (.int left)] = some (.v (.cell (.int r))) ∧ SzOk (rows.length + rsS rows) left r := by
  have key : ∀ m k : Nat, k + m = rows.length → ∀ left : Int, 0 ≤ left → left ≤ 1048576 → ∃ r, laws_szStepS_L0 rows left (k : Int) = some (.v (.cell (.int r))) ∧ SzOk (rsS (rows.drop k)) left r := by
    intro m
    induction m with
    | zero =>
      intro k hk left h0 h1
      refine ⟨left, laws_szStepS_L0_le (bifF (decide_eq_false (by omega)) rfl), .inl ?_⟩
      rw [List.drop_eq_nil_of_le (by omega), rsS_nil]
      exact ⟨by omega, by omega⟩
    | succ m ih =>
      intro k hk left h0 h1
      have hlt : k < rows.length := by omega
      obtain ⟨o, n, i, args, kids, e⟩ := fit_Step (hf _ (mem_getD hlt []))
      obtain ⟨r1, g1, g2⟩ := h _ (mem_getD hlt []) left h0 h1
      rw [e] at g1
      rw [rsS_drop hlt]
      rcases g2 with ⟨hle, rfl⟩ | ⟨hlt', rfl⟩
      · obtain ⟨r2, k1, k2⟩ := ih (k + 1) (by omega) (left - cS (rows.getD k [])) (by omega) (by omega)
        refine ⟨r2, laws_szStepS_L0_le (bifT (decide_eq_true (by omega)) (atStep hlt e (callI g1 (bifF (decide_eq_false (by omega)) ?_)))), ?_⟩
        · rw [wrk (by omega)]; exact k1
        · unfold SzOk at k2 ⊢; omega
      · exact ⟨-1, laws_szStepS_L0_le (bifT (decide_eq_true (by omega)) (atStep hlt e (callI g1 (bifT (decide_eq_true (by omega)) rfl)))), .inr ⟨by omega, rfl⟩⟩
  have e : wrapI (left - ((rows.length : Nat) : Int)) = left - rows.length := wr (by unfold maxI at hl; omega) (by omega)
  by_cases hle : (rows.length : Int) ≤ left
  · obtain ⟨r, g1, g2⟩ := key rows.length 0 (by omega) (left - rows.length) (by omega) (by omega)
    refine ⟨r, laws_szStepS_le (bifF (by rw [e]; exact decide_eq_false (by omega)) (by rw [e]; exact g1)), ?_⟩
    rw [List.drop_zero] at g2
    unfold SzOk at g2 ⊢; omega
  · exact ⟨-1, laws_szStepS_le (bifT (by rw [e]; exact decide_eq_true (by omega)) rfl), .inr ⟨by omega, rfl⟩⟩
theorem eq_StepS (rows : List (List AC)) (hl : rows.length ≤ maxI) (hf : ∀ x ∈ rows, Fit .step x) (h : ∀ x ∈ rows, EqP laws_eqStep x) : laws_eqStepS [.cell (.sl 5 rows), .cell (.sl 5 rows)] = some (.v (.cell (.bool true))) := by
  have key : ∀ m k : Nat, k + m = rows.length → laws_eqStepS_L0 rows rows (k : Int) = some (.v (.cell (.bool true))) := by
    intro m
    induction m with
    | zero => intro k hk; exact laws_eqStepS_L0_le (bifF (decide_eq_false (by omega)) rfl)
    | succ m ih =>
      intro k hk
      have hlt : k < rows.length := by omega
      obtain ⟨o, n, i, args, kids, e⟩ := fit_Step (hf _ (mem_getD hlt []))
      have g : EqP laws_eqStep _ := h _ (mem_getD hlt [])
      rw [e] at g
      refine laws_eqStepS_L0_le (bifT (decide_eq_true (by omega)) (atStep hlt e (atStep hlt e (callB g (bifF rfl ?_)))))
      rw [wrk (by omega)]
      exact ih (k + 1) (by omega)
  exact laws_eqStepS_le (bifF (by simp) (key rows.length 0 (by omega)))
theorem to_StepS (rows : List (List AC)) (hl : rows.length ≤ 1048576) (hf : ∀ x ∈ rows, Fit .step x) (h : ∀ x ∈ rows, laws_toStep [.agg x] = some (.v (.agg x))) : laws_toStepS [.cell (.sl 5 rows)] = some (.v (.cell (.sl 5 rows))) := by
  refine V_ext (by kernel_rfl) rfl (ext_id rfl rfl hl (fun x hx => ?_) (fun x hx => ?_))
  · obtain ⟨o, n, i, args, kids, rfl⟩ := fit_Step (hf x hx)
    rfl
  · have g := h x hx
    obtain ⟨o, n, i, args, kids, rfl⟩ := fit_Step (hf x hx)
    have g' : V Tryz.prog lay sig.has ext 63 [.agg _] = some (.v (.agg _)) := g
    unfold rowE
    simp only [mkS, if_true, g', Option.bind_some]
    rfl
theorem sz_RoutineS (rows : List (List AC)) (hl : rows.length ≤ maxI) (hf : ∀ x ∈ rows, Fit .routine x) (h : ∀ x ∈ rows, SzP laws_szRoutine x) (left : Int) (h0 : 0 ≤ left) (h1 : left ≤ 1048576) :
    ∃ r, laws_szRoutineS [.cell (.sl 5 rows), .cell (.int left)] = some (.v (.cell (.int r))) ∧ SzOk (rows.length + rsS rows) left r := by
  have key : ∀ m k : Nat, k + m = rows.length → ∀ left : Int, 0 ≤ left → left ≤ 1048576 → ∃ r, laws_szRoutineS_L0 rows left (k : Int) = some (.v (.cell (.int r))) ∧ SzOk (rsS (rows.drop k)) left r := by
    intro m
    induction m with
    | zero =>
      intro k hk left h0 h1
      refine ⟨left, laws_szRoutineS_L0_le (bifF (decide_eq_false (by omega)) rfl), .inl ?_⟩
      rw [List.drop_eq_nil_of_le (by omega), rsS_nil]
      exact ⟨by omega, by omega⟩
    | succ m ih =>
      intro k hk left h0 h1
      have hlt : k < rows.length := by omega
      obtain ⟨ps, lent, r, bsteps, br, e⟩ := fit_Routine (hf _ (mem_getD hlt []))
      obtain ⟨r1, g1, g2⟩ := h _ (mem_getD hlt []) left h0 h1
      rw [e] at g1
      rw [rsS_drop hlt]
      rcases g2 with ⟨hle, rfl⟩ | ⟨hlt', rfl⟩
      · obtain ⟨r2, k1, k2⟩ := ih (k + 1) (by omega) (left - cS (rows.getD k [])) (by omega) (by omega)
        refine ⟨r2, laws_szRoutineS_L0_le (bifT (decide_eq_true (by omega)) (atRoutine hlt e (callI g1 (bifF (decide_eq_false (by omega)) ?_)))), ?_⟩
        · rw [wrk (by omega)]; exact k1
        · unfold SzOk at k2 ⊢; omega
      · exact ⟨-1, laws_szRoutineS_L0_le (bifT (decide_eq_true (by omega)) (atRoutine hlt e (callI g1 (bifT (decide_eq_true (by omega)) rfl)))), .inr ⟨by omega, rfl⟩⟩
  have e : wrapI (left - ((rows.length : Nat) : Int)) = left - rows.length := wr (by unfold maxI at hl; omega) (by omega)
  by_cases hle : (rows.length : Int) ≤ left
  · obtain ⟨r, g1, g2⟩ := key rows.length 0 (by omega) (left - rows.length) (by omega) (by omega)
    refine ⟨r, laws_szRoutineS_le (bifF (by rw [e]; exact decide_eq_false (by omega)) (by rw [e]; exact g1)), ?_⟩
    rw [List.drop_zero] at g2
    unfold SzOk at g2 ⊢; omega
  · exact ⟨-1, laws_szRoutineS_le (bifT (by rw [e]; exact decide_eq_true (by omega)) rfl), .inr ⟨by omega, rfl⟩⟩
theorem eq_RoutineS (rows : List (List AC)) (hl : rows.length ≤ maxI) (hf : ∀ x ∈ rows, Fit .routine x) (h : ∀ x ∈ rows, EqP laws_eqRoutine x) : laws_eqRoutineS [.cell (.sl 5 rows), .cell (.sl 5 rows)] = some (.v (.cell (.bool true))) := by
  have key : ∀ m k : Nat, k + m = rows.length → laws_eqRoutineS_L0 rows rows (k : Int) = some (.v (.cell (.bool true))) := by
    intro m
    induction m with
    | zero => intro k hk; exact laws_eqRoutineS_L0_le (bifF (decide_eq_false (by omega)) rfl)
    | succ m ih =>
      intro k hk
      have hlt : k < rows.length := by omega
      obtain ⟨ps, lent, r, bsteps, br, e⟩ := fit_Routine (hf _ (mem_getD hlt []))
      have g : EqP laws_eqRoutine _ := h _ (mem_getD hlt [])
      rw [e] at g
      refine laws_eqRoutineS_L0_le (bifT (decide_eq_true (by omega)) (atRoutine hlt e (atRoutine hlt e (callB g (bifF rfl ?_)))))
      rw [wrk (by omega)]
      exact ih (k + 1) (by omega)
  exact laws_eqRoutineS_le (bifF (by simp) (key rows.length 0 (by omega)))
theorem to_RoutineS (rows : List (List AC)) (hl : rows.length ≤ 1048576) (hf : ∀ x ∈ rows, Fit .routine x) (h : ∀ x ∈ rows, laws_toRoutine [.agg x] = some (.v (.agg x))) : laws_toRoutineS [.cell (.sl 5 rows)] = some (.v (.cell (.sl 5 rows))) := by
  refine V_ext (by kernel_rfl) rfl (ext_id rfl rfl hl (fun x hx => ?_) (fun x hx => ?_))
  · obtain ⟨ps, lent, r, bsteps, br, rfl⟩ := fit_Routine (hf x hx)
    rfl
  · have g := h x hx
    obtain ⟨ps, lent, r, bsteps, br, rfl⟩ := fit_Routine (hf x hx)
    have g' : V Tryz.prog lay sig.has ext 62 [.agg _] = some (.v (.agg _)) := g
    unfold rowE
    simp only [mkS, if_true, g', Option.bind_some]
    rfl
theorem sz_Con {fs : List Int} (hfs : fs.length ≤ maxI) : SzP laws_szCon [.sl 1 (intsC fs)] := by
  intro left h0 h1
  obtain ⟨r0, g0, s0⟩ := sz_IntS fs hfs left (by omega) (by omega)
  rcases s0 with ⟨c0, rfl⟩ | ⟨c0, rfl⟩
  case inr => exact ⟨-1, laws_szCon_le (callI g0 (bifT (decide_eq_true (by omega)) rfl)), .inr ⟨by simp only [cS_int, cS_sl, cS_nil, rsS_ints, intsC_len];  omega, rfl⟩⟩
  refine ⟨_, laws_szCon_le (callI g0 (bifF (decide_eq_false (by omega)) (rfl))), .inl ?_⟩
  simp only [cS_int, cS_sl, cS_nil, rsS_ints, intsC_len]
  constructor <;> omega
theorem eq_Con {fs : List Int} (hfs : fs.length ≤ maxI) : EqP laws_eqCon [.sl 1 (intsC fs)] := laws_eqCon_le (callB (eq_IntS fs hfs) (bifF rfl (rfl)))
theorem to_Con {fs : List Int} : ToP laws_toCon [.sl 1 (intsC fs)] := by
  intro hs
  simp only [cS_int, cS_sl, cS_nil, rsS_ints, intsC_len] at hs
  exact laws_toCon_le (callS (to_IntS fs (by omega)) (rfl))
theorem sz_Decl {f : Int} {t : Int} {cons : List (List AC)} (lcons : cons.length ≤ maxI) (fcons : ∀ x ∈ cons, Fit .con x) (hcons : ∀ x ∈ cons, SzP laws_szCon x) : SzP laws_szDecl [.int f, .int t, .sl 1 cons] := by
  intro left h0 h1
  obtain ⟨r0, g0, s0⟩ := sz_ConS cons lcons fcons hcons left (by omega) (by omega)
  rcases s0 with ⟨c0, rfl⟩ | ⟨c0, rfl⟩
  case inr => exact ⟨-1, laws_szDecl_le (callI g0 (bifT (decide_eq_true (by omega)) rfl)), .inr ⟨by simp only [cS_int, cS_sl, cS_nil, rsS_ints, intsC_len];  omega, rfl⟩⟩
  refine ⟨_, laws_szDecl_le (callI g0 (bifF (decide_eq_false (by omega)) (rfl))), .inl ?_⟩
  simp only [cS_int, cS_sl, cS_nil, rsS_ints, intsC_len]
  constructor <;> omega
theorem eq_Decl {f : Int} {t : Int} {cons : List (List AC)} (lcons : cons.length ≤ maxI) (fcons : ∀ x ∈ cons, Fit .con x) (hcons : ∀ x ∈ cons, EqP laws_eqCon x) : EqP laws_eqDecl [.int f, .int t, .sl 1 cons] := laws_eqDecl_le (bifF (by simp) (bifF (by simp) (callB (eq_ConS cons lcons fcons hcons) (bifF rfl (rfl)))))
theorem to_Decl {f : Int} {t : Int} {cons : List (List AC)} (fcons : ∀ x ∈ cons, Fit .con x) (hcons : ∀ x ∈ cons, ToP laws_toCon x) : ToP laws_toDecl [.int f, .int t, .sl 1 cons] := by
  intro hs
  simp only [cS_int, cS_sl, cS_nil, rsS_ints, intsC_len] at hs
  exact laws_toDecl_le (callS (to_ConS cons (by omega) fcons fun x hx => hcons x hx (by have := rsS_mem hx; omega)) (rfl))
theorem sz_Block {steps : List (List AC)} {r : Int} (lsteps : steps.length ≤ maxI) (fsteps : ∀ x ∈ steps, Fit .step x) (hsteps : ∀ x ∈ steps, SzP laws_szStep x) : SzP laws_szBlock [.sl 5 steps, .int r] := by
  intro left h0 h1
  obtain ⟨r0, g0, s0⟩ := sz_StepS steps lsteps fsteps hsteps left (by omega) (by omega)
  rcases s0 with ⟨c0, rfl⟩ | ⟨c0, rfl⟩
  case inr => exact ⟨-1, laws_szBlock_le (callI g0 (bifT (decide_eq_true (by omega)) rfl)), .inr ⟨by simp only [cS_int, cS_sl, cS_nil, rsS_ints, intsC_len];  omega, rfl⟩⟩
  refine ⟨_, laws_szBlock_le (callI g0 (bifF (decide_eq_false (by omega)) (rfl))), .inl ?_⟩
  simp only [cS_int, cS_sl, cS_nil, rsS_ints, intsC_len]
  constructor <;> omega
theorem eq_Block {steps : List (List AC)} {r : Int} (lsteps : steps.length ≤ maxI) (fsteps : ∀ x ∈ steps, Fit .step x) (hsteps : ∀ x ∈ steps, EqP laws_eqStep x) : EqP laws_eqBlock [.sl 5 steps, .int r] := laws_eqBlock_le (callB (eq_StepS steps lsteps fsteps hsteps) (bifF rfl (bifF (by simp) (rfl))))
theorem to_Block {steps : List (List AC)} {r : Int} (fsteps : ∀ x ∈ steps, Fit .step x) (hsteps : ∀ x ∈ steps, ToP laws_toStep x) : ToP laws_toBlock [.sl 5 steps, .int r] := by
  intro hs
  simp only [cS_int, cS_sl, cS_nil, rsS_ints, intsC_len] at hs
  exact laws_toBlock_le (callS (to_StepS steps (by omega) fsteps fun x hx => hsteps x hx (by have := rsS_mem hx; omega)) (rfl))
theorem sz_Step {o : Int} {n : Int} {i : Int} {args : List Int} {kids : List (List AC)} (hargs : args.length ≤ maxI) (lkids : kids.length ≤ maxI) (fkids : ∀ x ∈ kids, Fit .block x) (hkids : ∀ x ∈ kids, SzP laws_szBlock x) : SzP laws_szStep [.int o, .int n, .int i, .sl 1 (intsC args), .sl 2 kids] := by
  intro left h0 h1
  obtain ⟨r0, g0, s0⟩ := sz_IntS args hargs left (by omega) (by omega)
  rcases s0 with ⟨c0, rfl⟩ | ⟨c0, rfl⟩
  case inr => exact ⟨-1, laws_szStep_le (callI g0 (bifT (decide_eq_true (by omega)) rfl)), .inr ⟨by simp only [cS_int, cS_sl, cS_nil, rsS_ints, intsC_len];  omega, rfl⟩⟩
  obtain ⟨r1, g1, s1⟩ := sz_BlockS kids lkids fkids hkids (left - (args.length : Nat)) (by omega) (by omega)
  rcases s1 with ⟨c1, rfl⟩ | ⟨c1, rfl⟩
  case inr => exact ⟨-1, laws_szStep_le (callI g0 (bifF (decide_eq_false (by omega)) (callI g1 (bifT (decide_eq_true (by omega)) rfl)))), .inr ⟨by simp only [cS_int, cS_sl, cS_nil, rsS_ints, intsC_len];  omega, rfl⟩⟩
  refine ⟨_, laws_szStep_le (callI g0 (bifF (decide_eq_false (by omega)) (callI g1 (bifF (decide_eq_false (by omega)) (rfl))))), .inl ?_⟩
  simp only [cS_int, cS_sl, cS_nil, rsS_ints, intsC_len]
  constructor <;> omega
theorem eq_Step {o : Int} {n : Int} {i : Int} {args : List Int} {kids : List (List AC)} (hargs : args.length ≤ maxI) (lkids : kids.length ≤ maxI) (fkids : ∀ x ∈ kids, Fit .block x) (hkids : ∀ x ∈ kids, EqP laws_eqBlock x) : EqP laws_eqStep [.int o, .int n, .int i, .sl 1 (intsC args), .sl 2 kids] := laws_eqStep_le (bifF (by simp) (bifF (by simp) (bifF (by simp) (callB (eq_IntS args hargs) (bifF rfl (callB (eq_BlockS kids lkids fkids hkids) (bifF rfl (rfl))))))))
theorem to_Step {o : Int} {n : Int} {i : Int} {args : List Int} {kids : List (List AC)} (fkids : ∀ x ∈ kids, Fit .block x) (hkids : ∀ x ∈ kids, ToP laws_toBlock x) : ToP laws_toStep [.int o, .int n, .int i, .sl 1 (intsC args), .sl 2 kids] := by
  intro hs
  simp only [cS_int, cS_sl, cS_nil, rsS_ints, intsC_len] at hs
  exact laws_toStep_le (callS (to_IntS args (by omega)) (callS (to_BlockS kids (by omega) fkids fun x hx => hkids x hx (by have := rsS_mem hx; omega)) (rfl)))
theorem sz_Routine {ps : List Int} {lent : List Int} {r : Int} {bsteps : List (List AC)} {br : Int} (hps : ps.length ≤ maxI) (hlent : lent.length ≤ maxI) (hb : SzP laws_szBlock [.sl 5 bsteps, .int br]) : SzP laws_szRoutine [.sl 1 (intsC ps), .sl 1 (intsC lent), .int r, .sl 5 bsteps, .int br] := by
  intro left h0 h1
  obtain ⟨r0, g0, s0⟩ := sz_IntS ps hps left (by omega) (by omega)
  rcases s0 with ⟨c0, rfl⟩ | ⟨c0, rfl⟩
  case inr => exact ⟨-1, laws_szRoutine_le (callI g0 (bifT (decide_eq_true (by omega)) rfl)), .inr ⟨by simp only [cS_int, cS_sl, cS_nil, rsS_ints, intsC_len];  omega, rfl⟩⟩
  obtain ⟨r1, g1, s1⟩ := sz_IntS lent hlent (left - (ps.length : Nat)) (by omega) (by omega)
  rcases s1 with ⟨c1, rfl⟩ | ⟨c1, rfl⟩
  case inr => exact ⟨-1, laws_szRoutine_le (callI g0 (bifF (decide_eq_false (by omega)) (callI g1 (bifT (decide_eq_true (by omega)) rfl)))), .inr ⟨by simp only [cS_int, cS_sl, cS_nil, rsS_ints, intsC_len];  omega, rfl⟩⟩
  obtain ⟨r2, g2, s2⟩ := hb (left - (ps.length : Nat) - (lent.length : Nat)) (by omega) (by omega)
  rw [show cS [.sl 5 bsteps, .int br] = (bsteps.length + rsS bsteps) by simp only [cS_int, cS_sl, cS_nil, rsS_ints, intsC_len]; omega] at s2
  rcases s2 with ⟨c2, rfl⟩ | ⟨c2, rfl⟩
  case inr => exact ⟨-1, laws_szRoutine_le (callI g0 (bifF (decide_eq_false (by omega)) (callI g1 (bifF (decide_eq_false (by omega)) (callI g2 (bifT (decide_eq_true (by omega)) rfl)))))), .inr ⟨by simp only [cS_int, cS_sl, cS_nil, rsS_ints, intsC_len];  omega, rfl⟩⟩
  refine ⟨_, laws_szRoutine_le (callI g0 (bifF (decide_eq_false (by omega)) (callI g1 (bifF (decide_eq_false (by omega)) (callI g2 (bifF (decide_eq_false (by omega)) (rfl))))))), .inl ?_⟩
  simp only [cS_int, cS_sl, cS_nil, rsS_ints, intsC_len]
  constructor <;> omega
theorem eq_Routine {ps : List Int} {lent : List Int} {r : Int} {bsteps : List (List AC)} {br : Int} (hps : ps.length ≤ maxI) (hlent : lent.length ≤ maxI) (hb : EqP laws_eqBlock [.sl 5 bsteps, .int br]) : EqP laws_eqRoutine [.sl 1 (intsC ps), .sl 1 (intsC lent), .int r, .sl 5 bsteps, .int br] := laws_eqRoutine_le (callB (eq_IntS ps hps) (bifF rfl (callB (eq_IntS lent hlent) (bifF rfl (bifF (by simp) (callB hb (bifF rfl (rfl))))))))
theorem to_Routine {ps : List Int} {lent : List Int} {r : Int} {bsteps : List (List AC)} {br : Int} (hb : ToP laws_toBlock [.sl 5 bsteps, .int br]) : ToP laws_toRoutine [.sl 1 (intsC ps), .sl 1 (intsC lent), .int r, .sl 5 bsteps, .int br] := by
  intro hs
  simp only [cS_int, cS_sl, cS_nil, rsS_ints, intsC_len] at hs
  exact laws_toRoutine_le (callS (to_IntS ps (by omega)) (callS (to_IntS lent (by omega)) (callBlock (hb (by simp only [cS_int, cS_sl, cS_nil, rsS_ints, intsC_len]; omega)) (rfl))))
theorem sz_Normal {ds : List (List AC)} {rs : List (List AC)} (lds : ds.length ≤ maxI) (fds : ∀ x ∈ ds, Fit .decl x) (hds : ∀ x ∈ ds, SzP laws_szDecl x) (lrs : rs.length ≤ maxI) (frs : ∀ x ∈ rs, Fit .routine x) (hrs : ∀ x ∈ rs, SzP laws_szRoutine x) : SzP laws_szNormal [.sl 3 ds, .sl 5 rs] := by
  intro left h0 h1
  obtain ⟨r0, g0, s0⟩ := sz_DeclS ds lds fds hds left (by omega) (by omega)
  rcases s0 with ⟨c0, rfl⟩ | ⟨c0, rfl⟩
  case inr => exact ⟨-1, laws_szNormal_le (callI g0 (bifT (decide_eq_true (by omega)) rfl)), .inr ⟨by simp only [cS_int, cS_sl, cS_nil, rsS_ints, intsC_len];  omega, rfl⟩⟩
  obtain ⟨r1, g1, s1⟩ := sz_RoutineS rs lrs frs hrs (left - (ds.length + rsS ds : Nat)) (by omega) (by omega)
  rcases s1 with ⟨c1, rfl⟩ | ⟨c1, rfl⟩
  case inr => exact ⟨-1, laws_szNormal_le (callI g0 (bifF (decide_eq_false (by omega)) (callI g1 (bifT (decide_eq_true (by omega)) rfl)))), .inr ⟨by simp only [cS_int, cS_sl, cS_nil, rsS_ints, intsC_len];  omega, rfl⟩⟩
  refine ⟨_, laws_szNormal_le (callI g0 (bifF (decide_eq_false (by omega)) (callI g1 (bifF (decide_eq_false (by omega)) (rfl))))), .inl ?_⟩
  simp only [cS_int, cS_sl, cS_nil, rsS_ints, intsC_len]
  constructor <;> omega
theorem eq_Normal {ds : List (List AC)} {rs : List (List AC)} (lds : ds.length ≤ maxI) (fds : ∀ x ∈ ds, Fit .decl x) (hds : ∀ x ∈ ds, EqP laws_eqDecl x) (lrs : rs.length ≤ maxI) (frs : ∀ x ∈ rs, Fit .routine x) (hrs : ∀ x ∈ rs, EqP laws_eqRoutine x) : EqP laws_eqNormal [.sl 3 ds, .sl 5 rs] := laws_eqNormal_le (callB (eq_DeclS ds lds fds hds) (bifF rfl (callB (eq_RoutineS rs lrs frs hrs) (bifF rfl (rfl)))))
theorem to_Normal {ds : List (List AC)} {rs : List (List AC)} (fds : ∀ x ∈ ds, Fit .decl x) (hds : ∀ x ∈ ds, ToP laws_toDecl x) (frs : ∀ x ∈ rs, Fit .routine x) (hrs : ∀ x ∈ rs, ToP laws_toRoutine x) : ToP laws_toNormal [.sl 3 ds, .sl 5 rs] := by
  intro hs
  simp only [cS_int, cS_sl, cS_nil, rsS_ints, intsC_len] at hs
  exact laws_toNormal_le (callS (to_DeclS ds (by omega) fds fun x hx => hds x hx (by have := rsS_mem hx; omega)) (callS (to_RoutineS rs (by omega) frs fun x hx => hrs x hx (by have := rsS_mem hx; omega)) (rfl)))
theorem sz_fit : ∀ {t : Ty} {x : List AC}, Fit t x → (match t with
    | .con => SzP laws_szCon x
    | .decl => SzP laws_szDecl x
    | .block => SzP laws_szBlock x
    | .step => SzP laws_szStep x
    | .routine => SzP laws_szRoutine x
    | .normal => SzP laws_szNormal x
    | _ => True) := by
  intro t x h
  induction h with
  | con fs h => exact sz_Con h.len
  | decl f t cons hf ht hl h ih => exact sz_Decl hl h ih
  | expr => trivial
  | func => trivial
  | prog => trivial
  | step o n i args kids ho hn hi ha hl h ih => exact sz_Step ha.len hl h ih
  | block steps r hr hl h ih => exact sz_Block hl h ih
  | routine ps lent r steps x hp hl hr h ih => exact sz_Routine hp.len hl.len ih
  | normal ds rs hd hr h1 h2 ih1 ih2 => exact sz_Normal hd h1 ih1 hr h2 ih2
  | cell => trivial
theorem eq_fit : ∀ {t : Ty} {x : List AC}, Fit t x → (match t with
    | .con => EqP laws_eqCon x
    | .decl => EqP laws_eqDecl x
    | .block => EqP laws_eqBlock x
    | .step => EqP laws_eqStep x
    | .routine => EqP laws_eqRoutine x
    | .normal => EqP laws_eqNormal x
    | _ => True) := by
  intro t x h
  induction h with
  | con fs h => exact eq_Con h.len
  | decl f t cons hf ht hl h ih => exact eq_Decl hl h ih
  | expr => trivial
  | func => trivial
  | prog => trivial
  | step o n i args kids ho hn hi ha hl h ih => exact eq_Step ha.len hl h ih
  | block steps r hr hl h ih => exact eq_Block hl h ih
  | routine ps lent r steps x hp hl hr h ih => exact eq_Routine hp.len hl.len ih
  | normal ds rs hd hr h1 h2 ih1 ih2 => exact eq_Normal hd h1 ih1 hr h2 ih2
  | cell => trivial
theorem to_fit : ∀ {t : Ty} {x : List AC}, Fit t x → (match t with
    | .con => ToP laws_toCon x
    | .decl => ToP laws_toDecl x
    | .block => ToP laws_toBlock x
    | .step => ToP laws_toStep x
    | .routine => ToP laws_toRoutine x
    | .normal => ToP laws_toNormal x
    | _ => True) := by
  intro t x h
  induction h with
  | con fs h => exact to_Con
  | decl f t cons hf ht hl h ih => exact to_Decl h ih
  | expr => trivial
  | func => trivial
  | prog => trivial
  | step o n i args kids ho hn hi ha hl h ih => exact to_Step h ih
  | block steps r hr hl h ih => exact to_Block h ih
  | routine ps lent r steps x hp hl hr h ih => exact to_Routine ih
  | normal ds rs hd hr h1 h2 ih1 ih2 => exact to_Normal h1 ih1 h2 ih2
  | cell => trivial
end Go.Proofs.YtbdngmeoohjnoaaGreat

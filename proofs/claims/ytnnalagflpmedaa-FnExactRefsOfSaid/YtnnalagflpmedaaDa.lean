/- Data that fit: measured, held against a copy, copied. MADE BY mkdata.py. -/
import Derived.Test.YtnnalagflpmedaaPa
import Derived.Test.YtnnalagflpmedaaLf
set_option linter.unusedVariables false
set_option linter.unusedSimpArgs false
namespace Go.Proofs.Ytnnalagflpmedaa
open Go
def SzP (f : List SV → Option AV) (cs : List AC) : Prop := ∀ left : Int, 0 ≤ left → left ≤ 1048576 → ∃ r, f [.agg cs, .cell (.int left)] = some (.v (.cell (.int r))) ∧ SzOk (cS cs) left r
def EqP (f : List SV → Option AV) (cs : List AC) : Prop := f [.agg cs, .agg cs] = some (.v (.cell (.bool true)))
def ToP (f : List SV → Option AV) (cs : List AC) : Prop := cS cs ≤ 1048576 → f [.agg cs] = some (.v (.agg cs))
theorem ext_id {call : Orc} {m : MapE} {k : Nat} {rows : List (List AC)} (hk : k = m.sh.length) (hk2 : m.sh'.length = k) (hl : rows.length ≤ 1048576) (hs : ∀ x ∈ rows, shOk m.sh x = true) (hr : ∀ x ∈ rows, rowE call m x = some x) : extRun call (.map m) [.cell (.sl k rows)] = some (.v (.cell (.sl k rows))) := by
  have key : ∀ rows : List (List AC), (∀ x ∈ rows, rowE call m x = some x) → rowsE call m rows = some rows := by
    intro rows
    induction rows with
    | nil => intro _; rfl
    | cons x rows ih =>
      intro h
      simp only [rowsE, h x List.mem_cons_self, Option.bind_some, ih (fun y hy => h y (List.mem_cons_of_mem _ hy)), Option.map_some]
  unfold extRun
  simp only
  rw [if_pos ⟨hk, hl, List.all_eq_true.2 hs⟩, key rows hr]
  simp only [Option.map_some, hk2]
theorem fit_Cell {x : List AC} (h : Fit .cell x) : ∃ (c : Int) (t : Int) (fs : List Int), x = [.int c, .int t, .sl 1 (intsC fs)] := by cases h; exact ⟨_, _, _, rfl⟩
theorem sz_IntS (xs : List Int) (hx : xs.length ≤ maxI) (left : Int) (h0 : 0 ≤ left) (h1 : left ≤ 1048576) : ∃ r, laws_szIntS [.cell (.sl 1 (intsC xs)), .cell (.int left)] = some (.v (.cell (.int r))) ∧ SzOk xs.length left r := by
  have e : wrapI (left - (((intsC xs).length : Nat) : Int)) = left - xs.length := by rw [intsC_len]; exact wr (by unfold maxI at hx; omega) (by omega)
  by_cases h : (xs.length : Int) ≤ left
  · exact ⟨left - xs.length, laws_szIntS_le (bifF (by rw [e]; exact decide_eq_false (by omega)) (by rw [e])), .inl ⟨h, rfl⟩⟩
  · exact ⟨-1, laws_szIntS_le (bifT (by rw [e]; exact decide_eq_true (by omega)) rfl), .inr ⟨by omega, rfl⟩⟩
theorem eq_IntS (xs : List Int) (hx : xs.length ≤ maxI) : laws_eqIntS [.cell (.sl 1 (intsC xs)), .cell (.sl 1 (intsC xs))] = some (.v (.cell (.bool true))) := by
  have key : ∀ m k : Nat, k + m = xs.length → laws_eqIntS_L0 (intsC xs) (intsC xs) (k : Int) = some (.v (.cell (.bool true))) := by
    intro m
    induction m with
    | zero => intro k hk; exact laws_eqIntS_L0_le (bifF (decide_eq_false (by rw [intsC_len]; omega)) rfl)
    | succ m ih =>
      intro k hk
      refine laws_eqIntS_L0_le (bifT (decide_eq_true (by rw [intsC_len]; omega)) (atNum (by omega) (atNum (by omega) (bifF (by simp) ?_))))
      rw [wrk (by omega)]
      exact ih (k + 1) (by omega)
  exact laws_eqIntS_le (bifF (by simp) (key xs.length 0 (by omega)))
theorem to_IntS (xs : List Int) (hx : xs.length ≤ 1048576) : laws_toIntS [.cell (.sl 1 (intsC xs))] = some (.v (.cell (.sl 1 (intsC xs)))) := by
  refine V_ext (by kernel_rfl) rfl (ext_id rfl rfl (by rw [intsC_len]; exact hx) (fun x hx => ?_) (fun x _ => rfl))
  simp only [intsC, List.mem_map] at hx
  obtain ⟨n, _, rfl⟩ := hx
  rfl
theorem sz_CellS (rows : List (List AC)) (hl : rows.length ≤ maxI) (hf : ∀ x ∈ rows, Fit .cell x) (h : ∀ x ∈ rows, SzP laws_szCell x) (left : Int) (h0 : 0 ≤ left) (h1 : left ≤ 1048576) :
    ∃ r, laws_szCellS [.cell (.sl 3 rows), .cell (.int left)] = some (.v (.cell (.int r))) ∧ SzOk (rows.length + rsS rows) left r := by
  have key : ∀ m k : Nat, k + m = rows.length → ∀ left : Int, 0 ≤ left → left ≤ 1048576 → ∃ r, laws_szCellS_L0 rows left (k : Int) = some (.v (.cell (.int r))) ∧ SzOk (rsS (rows.drop k)) left r := by
    intro m
    induction m with
    | zero =>
      intro k hk left h0 h1
      refine ⟨left, laws_szCellS_L0_le (bifF (decide_eq_false (by omega)) rfl), .inl ?_⟩
      rw [List.drop_eq_nil_of_le (by omega), rsS_nil]
      exact ⟨by omega, by omega⟩
    | succ m ih =>
      intro k hk left h0 h1
      have hlt : k < rows.length := by omega
      obtain ⟨c, t, fs, e⟩ := fit_Cell (hf _ (mem_getD hlt []))
      obtain ⟨r1, g1, g2⟩ := h _ (mem_getD hlt []) left h0 h1
      rw [e] at g1
      rw [rsS_drop hlt]
      rcases g2 with ⟨hle, rfl⟩ | ⟨hlt', rfl⟩
      · obtain ⟨r2, k1, k2⟩ := ih (k + 1) (by omega) (left - cS (rows.getD k [])) (by omega) (by omega)
        refine ⟨r2, laws_szCellS_L0_le (bifT (decide_eq_true (by omega)) (atDecl hlt e (callI g1 (bifF (decide_eq_false (by omega)) ?_)))), ?_⟩
        · rw [wrk (by omega)]; exact k1
        · unfold SzOk at k2 ⊢; omega
      · exact ⟨-1, laws_szCellS_L0_le (bifT (decide_eq_true (by omega)) (atDecl hlt e (callI g1 (bifT (decide_eq_true (by omega)) rfl)))), .inr ⟨by omega, rfl⟩⟩
  have e : wrapI (left - ((rows.length : Nat) : Int)) = left - rows.length := wr (by unfold maxI at hl; omega) (by omega)
  by_cases hle : (rows.length : Int) ≤ left
  · obtain ⟨r, g1, g2⟩ := key rows.length 0 (by omega) (left - rows.length) (by omega) (by omega)
    refine ⟨r, laws_szCellS_le (bifF (by rw [e]; exact decide_eq_false (by omega)) (by rw [e]; exact g1)), ?_⟩
    rw [List.drop_zero] at g2
    unfold SzOk at g2 ⊢; omega
  · exact ⟨-1, laws_szCellS_le (bifT (by rw [e]; exact decide_eq_true (by omega)) rfl), .inr ⟨by omega, rfl⟩⟩
theorem eq_CellS (rows : List (List AC)) (hl : rows.length ≤ maxI) (hf : ∀ x ∈ rows, Fit .cell x) (h : ∀ x ∈ rows, EqP laws_eqCell x) : laws_eqCellS [.cell (.sl 3 rows), .cell (.sl 3 rows)] = some (.v (.cell (.bool true))) := by
  have key : ∀ m k : Nat, k + m = rows.length → laws_eqCellS_L0 rows rows (k : Int) = some (.v (.cell (.bool true))) := by
    intro m
    induction m with
    | zero => intro k hk; exact laws_eqCellS_L0_le (bifF (decide_eq_false (by omega)) rfl)
    | succ m ih =>
      intro k hk
      have hlt : k < rows.length := by omega
      obtain ⟨c, t, fs, e⟩ := fit_Cell (hf _ (mem_getD hlt []))
      have g : EqP laws_eqCell _ := h _ (mem_getD hlt [])
      rw [e] at g
      refine laws_eqCellS_L0_le (bifT (decide_eq_true (by omega)) (atDecl hlt e (atDecl hlt e (callB g (bifF rfl ?_)))))
      rw [wrk (by omega)]
      exact ih (k + 1) (by omega)
  exact laws_eqCellS_le (bifF (by simp) (key rows.length 0 (by omega)))
theorem to_CellS (rows : List (List AC)) (hl : rows.length ≤ 1048576) (hf : ∀ x ∈ rows, Fit .cell x) (h : ∀ x ∈ rows, laws_toCell [.agg x] = some (.v (.agg x))) : laws_toCellS [.cell (.sl 3 rows)] = some (.v (.cell (.sl 3 rows))) := by
  refine V_ext (by kernel_rfl) rfl (ext_id rfl rfl hl (fun x hx => ?_) (fun x hx => ?_))
  · obtain ⟨c, t, fs, rfl⟩ := fit_Cell (hf x hx)
    rfl
  · have g := h x hx
    obtain ⟨c, t, fs, rfl⟩ := fit_Cell (hf x hx)
    have g' : V Try.prog lay sig.has ext 17 [.agg _] = some (.v (.agg _)) := g
    unfold rowE
    simp only [mkS, if_true, g', Option.bind_some]
    rfl
theorem sz_Cell {c : Int} {t : Int} {fs : List Int} (hfs : fs.length ≤ maxI) : SzP laws_szCell [.int c, .int t, .sl 1 (intsC fs)] := by
  intro left h0 h1
  obtain ⟨r0, g0, s0⟩ := sz_IntS fs hfs left (by omega) (by omega)
  rcases s0 with ⟨c0, rfl⟩ | ⟨c0, rfl⟩
  case inr => exact ⟨-1, laws_szCell_le (callI g0 (bifT (decide_eq_true (by omega)) rfl)), .inr ⟨by simp only [cS_int, cS_sl, cS_nil, rsS_ints, intsC_len];  omega, rfl⟩⟩
  refine ⟨_, laws_szCell_le (callI g0 (bifF (decide_eq_false (by omega)) (rfl))), .inl ?_⟩
  simp only [cS_int, cS_sl, cS_nil, rsS_ints, intsC_len]
  constructor <;> omega
theorem eq_Cell {c : Int} {t : Int} {fs : List Int} (hfs : fs.length ≤ maxI) : EqP laws_eqCell [.int c, .int t, .sl 1 (intsC fs)] := laws_eqCell_le (bifF (by simp) (bifF (by simp) (callB (eq_IntS fs hfs) (bifF rfl (rfl)))))
theorem to_Cell {c : Int} {t : Int} {fs : List Int} : ToP laws_toCell [.int c, .int t, .sl 1 (intsC fs)] := by
  intro hs
  simp only [cS_int, cS_sl, cS_nil, rsS_ints, intsC_len] at hs
  exact laws_toCell_le (callS (to_IntS fs (by omega)) (rfl))
theorem sz_fit : ∀ {t : Ty} {x : List AC}, Fit t x → (match t with
    | .cell => SzP laws_szCell x
    | _ => True) := by
  intro t x h
  induction h with
  | con => trivial
  | decl => trivial
  | expr => trivial
  | func => trivial
  | prog => trivial
  | step => trivial
  | block => trivial
  | routine => trivial
  | normal => trivial
  | cell c t fs hc ht h => exact sz_Cell h.len
  | instr => trivial
  | proc => trivial
  | image => trivial
theorem eq_fit : ∀ {t : Ty} {x : List AC}, Fit t x → (match t with
    | .cell => EqP laws_eqCell x
    | _ => True) := by
  intro t x h
  induction h with
  | con => trivial
  | decl => trivial
  | expr => trivial
  | func => trivial
  | prog => trivial
  | step => trivial
  | block => trivial
  | routine => trivial
  | normal => trivial
  | cell c t fs hc ht h => exact eq_Cell h.len
  | instr => trivial
  | proc => trivial
  | image => trivial
theorem to_fit : ∀ {t : Ty} {x : List AC}, Fit t x → (match t with
    | .cell => ToP laws_toCell x
    | _ => True) := by
  intro t x h
  induction h with
  | con => trivial
  | decl => trivial
  | expr => trivial
  | func => trivial
  | prog => trivial
  | step => trivial
  | block => trivial
  | routine => trivial
  | normal => trivial
  | cell c t fs hc ht h => exact to_Cell
  | instr => trivial
  | proc => trivial
  | image => trivial
end Go.Proofs.Ytnnalagflpmedaa

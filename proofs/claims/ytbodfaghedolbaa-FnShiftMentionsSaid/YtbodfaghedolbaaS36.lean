/- Generic texts and models for the proofs of this seat: part 36. -/
import Derived.Test.YtbodfaghedolbaaS35
set_option linter.unusedVariables false
set_option linter.unusedSimpArgs false
namespace Go.Proofs.Ytbodfaghedolbaa
open Go Go.RowKit
def dropS : Nat → Code → Code
  | n + 1, .seq _ b => dropS n b
  | _, c => c
theorem rest_ok {Y : CtxT} {S : Sig} (hP : Y.X.P.follows .mixedOrders = true) (hL : LayOk Y.X.P Y.X.L) (hC : CallOk Y.X.P S (V Y.X.P Y.X.L Y.X.F Y.X.E)) (hA : TabT Y.X.P Y.X.L S Y.T Y.E) {c : Code} {n : Nat} {o : Ov} {q : List AC} {r : AV × List AC}
    (he : evT Y n (.run c) [] o q = some r) {σ : List AV} (hl : σ.length = Y.X.fn.ntmps) (hag : AgO o σ) {st : Stt} {O : Out} (ht : tcode (drawnT Y.T) Y.X.L S c st = some O)
    {p0 p : Stb} {w0 w : World} {a : Act} {b : Nat} (hI : InvC st p w a.tmps (σ, q) (fun x => w0.heap.size ≤ x) b) (hd : a.defers = []) (hev : Evo (· = b) p0 w0 p w) :
    c.wp Y.X.P (bodyPost Y.X.P Y.X.fn fun e w' => ∃ v, e = .returned v ∧ ∃ p', SR p' w' v r.1 ∧ (∀ cs, r.1 ≠ .box cs) ∧ r.1 ≠ .und ∧ Evo (· = b) p0 w0 p' w' ∧ Zp p' w' ∧ TK p' w' (fun _ => False) b r.2) a w := by
  have h1 := evT_ok n _ _ _ _ _ he σ hl hag
  simp only [Option.bind_eq_some_iff] at h1
  obtain ⟨⟨e, σ', q'⟩, h1, h2⟩ := h1
  unfold CtxT.vc at h1
  obtain ⟨m, h1⟩ := TVC_iff.1 h1
  refine code_okT hP hL hC (tfun_ok hP hL hC hA m) m c (σ, q) e (σ', q') st O h1 ht p w a hI hd _ fun st' a' w' p' hat hIC hev' hd' => ?_
  obtain ⟨hI', _, hTK'⟩ := hIC
  have h2 : outT Y.X.L Y.X.fn (e, (σ', q')) = some r := h2
  have hfin : (∀ i, e ≠ .exit i) → a'.defers = [] ∧ ∃ v, (results Y.X.fn a'.tmps).run Y.X.P w' = .ok v w' ∧ ∃ v', Ending.returned v = .returned v' ∧ ∃ p', SR p' w' v' r.1 ∧ (∀ cs, r.1 ≠ .box cs) ∧ r.1 ≠ .und ∧ Evo (· = b) p0 w0 p' w' ∧ Zp p' w' ∧ TK p' w' (fun _ => False) b r.2 := by
    intro hne
    have hres' : ∃ vs, resVs Y.X.L σ' Y.X.fn.results.toList = some vs ∧ r = ((match vs with | [v] => .v v | vs => .tup vs), q') := by
      cases e with
      | exit i => exact absurd rfl (hne i)
      | norm =>
        simp only [outT, Option.map_eq_some_iff] at h2
        obtain ⟨vs, h1, h2⟩ := h2
        exact ⟨vs, h1, h2.symm⟩
      | ret =>
        simp only [outT, Option.map_eq_some_iff] at h2
        obtain ⟨vs, h1, h2⟩ := h2
        exact ⟨vs, h1, h2.symm⟩
    obtain ⟨vs, hvs, rfl⟩ := hres'
    obtain ⟨us, hu1, hu2, hu3⟩ := resVs_ok (P := Y.X.P) hL hI' Y.X.fn.results.toList vs hvs
    have hul := hu2.length
    have hrunres : (results Y.X.fn a'.tmps).run Y.X.P w' = .ok (resVal us) w' := by
      have hr : results Y.X.fn a'.tmps = (Y.X.fn.results.mapM (resG a'.tmps) >>= fun vs => pure (if h : vs.size = 1 then vs[0] else .tuple vs)) := by
        unfold results
        congr 2
      have hmap : (Y.X.fn.results.mapM (resG a'.tmps)).run Y.X.P w' = .ok us.toArray w' := by
        rw [Array.mapM_eq_mapM_toList, map_eq_pure_bind]
        simp only [Sem.run_bind, hu1, Result.andThen, Sem.run_pure]
      rw [hr]
      simp only [Sem.run_bind, hmap, Result.andThen, Sem.run_pure]
      congr 1
      match us with
      | [] => rfl
      | [u] => rfl
      | _ :: _ :: _ => simp [resVal]
    have hnt : ¬ ∃ n, TopOf a'.tmps { σ := σ', pe := [] } b n := fun ⟨n, hn⟩ => hTK'.not (top_lt hI' hn).2.1
    have hevr := EvoC.trans hev' ((raise_evo hI').weaken (C := fun c => w0.heap.size ≤ c ∨ c = b) (fun c hc ⟨n, hn⟩ => .inl (top_lt hI' hn).2.1))
    refine ⟨hd', _, hrunres, _, rfl, raiseP p' a'.tmps { σ := σ', pe := [] }, ?_, ?_, ?_, hev.trans hevr (fun _ _ e => e) (fun c hc e => ?_), raise_zp hI', ?_⟩
    · match us, vs, hul, hu2 with
      | [], [], _, _ => exact ⟨_, rfl, trivial⟩
      | [u], [v], _, hu2 => exact hu2.1
      | u :: u' :: us, v :: v' :: vs, _, hu2 => exact ⟨_, rfl, by simpa using hu2⟩
    · intro cs h
      simp only at h
      split at h <;> cases h
    · intro h
      simp only at h
      split at h <;> cases h
    · rcases e with e | e
      · exact absurd hc (by omega)
      · exact e
    · exact (((hTK'.own (Own' := fun c => ∃ n, TopOf a'.tmps { σ := σ', pe := [] } c n) hnt).evo (raise_evo hI')).own (fun h => h))
  cases e with
  | exit i => cases h2
  | norm => exact hfin (fun i h => by cases h)
  | ret => exact hfin (fun i h => by cases h)
end Go.Proofs.Ytbodfaghedolbaa
set_option maxRecDepth 100000
namespace Go.Proofs.Ytbodfaghedolbaa
open Go
noncomputable def Y_bdR : CtxT := { X := { P := Try.prog, L := lay, F := sig.has, E := ext, fn := Try.f56, lv := [], jv := [], tp := [] }, T := tt, E := extT }
theorem bdR_ev {n1 : Int} {n2 : Int} {l3 : List (List AC)} {n4 : Int} {n5 : Int} {l6 : List (List AC)} {q : List AC} {r : AV × List AC} (h : ( callRT (spec_reader_pick q [.cell (.int 5)]) false [(false, [.int 0])] fun q8 n7 => bif (n7 == 0) then callRT (spec_reader_pick q8 [.cell (.int 15)]) false [(false, [.int 0])] fun q10 n9 => callR (spec_node [.cell (.int n9), .cell (.int n2), .cell (.sl 3 l3)]) false [(true, [.int 0, .int 0, .sl 3 []])] fun n11 n12 l13 => some (.v (.agg [.int n11, .int n12, .sl 3 l13]), q10) else bif (n7 == 1) then callRT (spec_reader_one q8 [.cell (.sl 1 [[.int 1], [.int (-1)], [.int 1000], [.int 2]])]) false [(false, [.int 0])] fun q15 n14 => callR (spec_node [.cell (.int n1), .cell (.int (wrapI (n2 + n14))), .cell (.sl 3 l3)]) false [(true, [.int 0, .int 0, .sl 3 []])] fun n16 n17 l18 => some (.v (.agg [.int n16, .int n17, .sl 3 l18]), q15) else bif (n7 == 2) then callR (spec_copyExprs [.cell (.sl 3 l3)]) false [(false, [.sl 3 []])] fun l19 => callR (spec_integer [.cell (.int 1)]) false [(true, [.int 0, .int 0, .sl 3 []])] fun n20 n21 l22 => appR l19 [[.int n20, .int n21, .sl 3 l22]] fun l23 => callR (spec_node [.cell (.int n1), .cell (.int n2), .cell (.sl 3 l23)]) false [(true, [.int 0, .int 0, .sl 3 []])] fun n24 n25 l26 => some (.v (.agg [.int n24, .int n25, .sl 3 l26]), q8) else bif (n7 == 3) then callRT (spec_reader_one q8 [.cell (.sl 1 [[.int 0], [.int 1], [.int 2], [.int 5], [.int 100], [.int (-1)]])]) false [(false, [.int 0])] fun q28 n27 => callR (spec_variable [.cell (.int n27)]) false [(true, [.int 0, .int 0, .sl 3 []])] fun n29 n30 l31 => some (.v (.agg [.int n29, .int n30, .sl 3 l31]), q28) else callRT (spec_reader_one q8 [.cell (.sl 1 [[.int 0], [.int 1000], [.int (-1000)], [.int 5]])]) false [(false, [.int 0])] fun q33 n32 => callR (spec_integer [.cell (.int n32)]) false [(true, [.int 0, .int 0, .sl 3 []])] fun n34 n35 l36 => some (.v (.agg [.int n34, .int n35, .sl 3 l36]), q33) : Option (AV × List AC)) = some r) : evT Y_bdR 100000 (.run (dropS 2 (cOf Try.f56))) [] [(0, .und), (3, .box [.int n1, .int n2, .sl 3 l3]), (4, .box [.int n4, .int n5, .sl 3 l6])] q = some r := Eq.trans (by kernel_rfl) h
theorem bdR_st : (tcode (drawnT tt) lay sig (dropS 2 (cOf Try.f56)) ⟨[], [], [], 85, [], []⟩).isSome = true := by kernel_rfl
noncomputable def spec_bend (q : List AC) (x : List SV) : Option (AV × List AC) := TV Try.prog lay tt (V Try.prog lay sig.has ext) extT 56 q x
noncomputable def Y_seR : CtxT := { X := { P := Try.prog, L := lay, F := sig.has, E := ext, fn := Try.f30, lv := [], jv := [], tp := [] }, T := tt, E := extT }
theorem seR_ev {n1 : Int} {n2 : Int} {l3 : List (List AC)} {n4 : Int} {n5 : Int} {l6 : List (List AC)} {q : List AC} {r : AV × List AC} (h : ( callRT (spec_reader_pick q [.cell (.int 8)]) false [(false, [.int 0])] fun q8 n7 => bif (n7 == 0) then callRT (spec_bend q8 [.agg [.int n4, .int n5, .sl 3 l6]]) false [(true, [.int 0, .int 0, .sl 3 []])] fun q12 n9 n10 l11 => some (.v (.agg [.int n9, .int n10, .sl 3 l11]), q12) else bif (n7 == 1) then callR (spec_node [.cell (.int 1), .cell (.int 0), .cell (.sl 3 [[.int n4, .int n5, .sl 3 l6], [.int n4, .int n5, .sl 3 l6]])]) false [(true, [.int 0, .int 0, .sl 3 []])] fun n13 n14 l15 => some (.v (.agg [.int n13, .int n14, .sl 3 l15]), q8) else bif (n7 == 2) then callR (spec_node [.cell (.int 1), .cell (.int 0), .cell (.sl 3 [[.int n4, .int n5, .sl 3 l6], [.int n4, .int n5, .sl 3 l6]])]) false [(true, [.int 0, .int 0, .sl 3 []])] fun n16 n17 l18 => callR (spec_node [.cell (.int 13), .cell (.int 0), .cell (.sl 3 [[.int n4, .int n5, .sl 3 l6], [.int n16, .int n17, .sl 3 l18]])]) false [(true, [.int 0, .int 0, .sl 3 []])] fun n19 n20 l21 => some (.v (.agg [.int n19, .int n20, .sl 3 l21]), q8) else some (.v (.agg [.int n4, .int n5, .sl 3 l6]), q8) : Option (AV × List AC)) = some r) : evT Y_seR 100000 (.run (dropS 3 (cOf Try.f30))) [] [(0, .und), (2, .box [.int n1, .int n2, .sl 3 l3]), (5, .box [.int n4, .int n5, .sl 3 l6])] q = some r := Eq.trans (by kernel_rfl) h
theorem seR_st : (tcode (drawnT tt) lay sig (dropS 3 (cOf Try.f30)) ⟨[], [], [], 40, [], []⟩).isSome = true := by kernel_rfl
end Go.Proofs.Ytbodfaghedolbaa
namespace Go.Proofs.Ytbodfaghedolbaa
open Go
theorem s_copyExpr {o n : Int} {kids : List (List AC)} (hk : KidsOk kids) (hs : kids.length + rsS kids ≤ 100000) : spec_copyExpr [.agg [.int o, .int n, .sl 3 kids]] = some (.v (.agg [.int o, .int n, .sl 3 kids])) :=
  spec_copyExpr_le (callS (s_copyExprs 100000 (Nat.le_refl _) kids hk hs) rfl)
theorem inI_wrap (z : Int) : inI (wrapI z) := by
  unfold inI wrapI
  rw [IntKind.wrap_i64]
  omega
section
variable {ns : List Nat} (hns : ns.length ≤ 2000)
include hns
theorem t_bendRest {o n : Int} {kids : List (List AC)} {n4 n5 : Int} {l6 : List (List AC)} (hf : Fit .expr [.int o, .int n, .sl 3 kids]) {M : Nat} (hs : 1 + kids.length + rsS kids ≤ M) (hM : M ≤ 100000) {p : Nat} (hp : p + 10 ≤ 800000) :
    EG ns p 2 (M + 1) (evT Y_bdR 100000 (.run (dropS 2 (cOf Try.f56))) [] [(0, .und), (3, .box [.int o, .int n, .sl 3 kids]), (4, .box [.int n4, .int n5, .sl 3 l6])] (Qr ns p)) := by
  have hf' := hf
  cases hf with
  | expr _ _ _ ho hn hl hk =>
  obtain ⟨x, hx, h1⟩ := t_pick hns (p := p) (by omega) (m := 5) (by omega)
  rcases (by omega : x = 0 ∨ x = 1 ∨ x = 2 ∨ x = 3 ∨ x = 4) with rfl | rfl | rfl | rfl | rfl
  · obtain ⟨y, hy, h2⟩ := t_pick hns (p := p + 1) (by omega) (m := 15) (by omega)
    exact ⟨_, _, _, _, bdR_ev (callTI h1 (bifT rfl (callTI h2 (callExpr (s_node _ _ _) rfl)))), by omega, .expr _ _ _ (by unfold inI; omega) hn hl hk, by omega⟩
  · obtain ⟨y, hy, h2⟩ := t_one hns (p := p + 1) (by omega) (xs := [1, -1, 1000, 2]) (by simp) (by simp)
    exact ⟨_, _, _, _, bdR_ev (callTI h1 (bifF rfl (bifT rfl (callTI h2 (callExpr (s_node _ _ _) rfl))))), by omega, .expr _ _ _ ho (inI_wrap _) hl hk, by omega⟩
  · have hsz := kids_size (kids := kids) (o := 0) (n := 1) (l := [])
    rw [rsS_nil] at hsz
    have hlen : (kids ++ [[AC.int 0, .int 1, .sl 3 []]]).length = kids.length + 1 := by simp
    refine ⟨_, _, _, _, bdR_ev (callTI h1 (bifF rfl (bifF rfl (bifT rfl (callS (s_copyExprs 100000 (Nat.le_refl _) kids hk (by omega)) (callExpr (s_integer _) (appTo (by simp; omega) (callExpr (s_node _ _ _) rfl)))))))), by omega, .expr _ _ _ ho hn (by rw [hlen]; unfold maxI; omega) (fun c hc => ?_), by simp only [List.length_nil] at hsz; omega⟩
    rw [List.mem_append, List.mem_singleton] at hc
    rcases hc with hc | rfl
    · exact hk c hc
    · exact fit_node (by omega) (by omega) (by simp) (fun c hc => by cases hc)
  · obtain ⟨y, hy, h2⟩ := t_one hns (p := p + 1) (by omega) (xs := [0, 1, 2, 5, 100, -1]) (by simp) (by simp)
    have hy2 : -1 ≤ y ∧ y ≤ 100 := by
      simp only [List.mem_cons, List.not_mem_nil, or_false] at hy
      omega
    exact ⟨_, _, _, _, bdR_ev (callTI h1 (bifF rfl (bifF rfl (bifF rfl (bifT rfl (callTI h2 (callExpr (s_variable _) rfl))))))), by omega, fit_var (by omega), by rw [rsS_nil]; simp⟩
  · obtain ⟨y, hy, h2⟩ := t_one hns (p := p + 1) (by omega) (xs := [0, 1000, -1000, 5]) (by simp) (by simp)
    have hy2 : -1000 ≤ y ∧ y ≤ 1000 := by
      simp only [List.mem_cons, List.not_mem_nil, or_false] at hy
      omega
    exact ⟨_, _, _, _, bdR_ev (callTI h1 (bifF rfl (bifF rfl (bifF rfl (bifF rfl (callTI h2 (callExpr (s_integer _) rfl))))))), by omega, fit_node (by omega) (by omega) (by simp) (fun c hc => by cases hc), by rw [rsS_nil]; simp⟩
end
end Go.Proofs.Ytbodfaghedolbaa
set_option maxRecDepth 100000
namespace Go.Proofs.Ytbodfaghedolbaa
open Go
noncomputable def Y_gpA : CtxT := { X := { P := Try.prog, L := lay, F := sig.has, E := ext, fn := { Try.f42 with results := #[.cell 2 26, .cell 3 26, .tmp 7] }, lv := [], jv := [], tp := [] }, T := tt, E := extT }
noncomputable def rg_gpA : List Rg := [0, 1, 2, 3, 4, 5, 6].filterMap fun i => rgOf i (cOf Try.f42)
theorem gpA_ev  {q : List AC} {r : AV × List AC} (h : ( callRT (spec_goodDecls q []) false [(false, [.sl 3 []])] fun q2 l1 => callR (spec_sig [.cell (.sl 1 [[.int 1]]), .cell (.int 0)]) false [(true, [.sl 1 [], .int 0, .int 0, .int 0, .sl 3 []])] fun l3 n4 n5 n6 l7 => callR (spec_sig [.cell (.sl 1 [[.int 1], [.int 1]]), .cell (.int 1)]) false [(true, [.sl 1 [], .int 0, .int 0, .int 0, .sl 3 []])] fun l8 n9 n10 n11 l12 => callR (spec_sig [.cell (.sl 1 [[.int 1]]), .cell (.int 1)]) false [(true, [.sl 1 [], .int 0, .int 0, .int 0, .sl 3 []])] fun l13 n14 n15 n16 l17 => callR (spec_sig [.cell (.sl 1 [[.int 1], [.int 0]]), .cell (.int 1)]) false [(true, [.sl 1 [], .int 0, .int 0, .int 0, .sl 3 []])] fun l18 n19 n20 n21 l22 => callR (spec_sig [.cell (.sl 1 [[.int 2], [.int 1]]), .cell (.int 1)]) false [(true, [.sl 1 [], .int 0, .int 0, .int 0, .sl 3 []])] fun l23 n24 n25 n26 l27 => callR (spec_sig [.cell (.sl 1 [[.int 1], [.int 1]]), .cell (.int 0)]) false [(true, [.sl 1 [], .int 0, .int 0, .int 0, .sl 3 []])] fun l28 n29 n30 n31 l32 => callR (spec_sig [.cell (.sl 1 [[.int 3]]), .cell (.int 0)]) false [(true, [.sl 1 [], .int 0, .int 0, .int 0, .sl 3 []])] fun l33 n34 n35 n36 l37 => callR (spec_sig [.cell (.sl 1 [[.int 0]]), .cell (.int 1)]) false [(true, [.sl 1 [], .int 0, .int 0, .int 0, .sl 3 []])] fun l38 n39 n40 n41 l42 => callR (spec_sig [.cell (.sl 1 [[.int 0], [.int 1]]), .cell (.int 1)]) false [(true, [.sl 1 [], .int 0, .int 0, .int 0, .sl 3 []])] fun l43 n44 n45 n46 l47 => callR (spec_sig [.cell (.sl 1 [[.int 3], [.int 0]]), .cell (.int 3)]) false [(true, [.sl 1 [], .int 0, .int 0, .int 0, .sl 3 []])] fun l48 n49 n50 n51 l52 => callR (spec_sig [.cell (.sl 1 [[.int 3]]), .cell (.int 1)]) false [(true, [.sl 1 [], .int 0, .int 0, .int 0, .sl 3 []])] fun l53 n54 n55 n56 l57 => callR (spec_sig [.cell (.sl 1 [[.int 1], [.int 3], [.int 0]]), .cell (.int 0)]) false [(true, [.sl 1 [], .int 0, .int 0, .int 0, .sl 3 []])] fun l58 n59 n60 n61 l62 => callR (spec_sig [.cell (.sl 1 [[.int 0]]), .cell (.int 0)]) false [(true, [.sl 1 [], .int 0, .int 0, .int 0, .sl 3 []])] fun l63 n64 n65 n66 l67 => callR (spec_sig [.cell (.sl 1 [[.int 0], [.int 0]]), .cell (.int 0)]) false [(true, [.sl 1 [], .int 0, .int 0, .int 0, .sl 3 []])] fun l68 n69 n70 n71 l72 => callR (spec_sig [.cell (.sl 1 [[.int 1], [.int 0]]), .cell (.int 0)]) false [(true, [.sl 1 [], .int 0, .int 0, .int 0, .sl 3 []])] fun l73 n74 n75 n76 l77 => callR (spec_sig [.cell (.sl 1 [[.int 0]]), .cell (.int 1)]) false [(true, [.sl 1 [], .int 0, .int 0, .int 0, .sl 3 []])] fun l78 n79 n80 n81 l82 => callR (spec_sig [.cell (.sl 1 []), .cell (.int 0)]) false [(true, [.sl 1 [], .int 0, .int 0, .int 0, .sl 3 []])] fun l83 n84 n85 n86 l87 => callRT (spec_reader_pick q2 [.cell (.int ((([[.sl 1 l3, .int n4, .int n5, .int n6, .sl 3 l7], [.sl 1 l8, .int n9, .int n10, .int n11, .sl 3 l12], [.sl 1 l13, .int n14, .int n15, .int n16, .sl 3 l17], [.sl 1 l18, .int n19, .int n20, .int n21, .sl 3 l22], [.sl 1 l23, .int n24, .int n25, .int n26, .sl 3 l27], [.sl 1 l28, .int n29, .int n30, .int n31, .sl 3 l32]] : List (List AC)).length : Nat) : Int))]) false [(false, [.int 0])] fun q89 n88 => atR_ [[.sl 1 l3, .int n4, .int n5, .int n6, .sl 3 l7], [.sl 1 l8, .int n9, .int n10, .int n11, .sl 3 l12], [.sl 1 l13, .int n14, .int n15, .int n16, .sl 3 l17], [.sl 1 l18, .int n19, .int n20, .int n21, .sl 3 l22], [.sl 1 l23, .int n24, .int n25, .int n26, .sl 3 l27], [.sl 1 l28, .int n29, .int n30, .int n31, .sl 3 l32]] n88 [.sl 1 [], .int 0, .int 0, .int 0, .sl 3 []] fun l90 n91 n92 n93 l94 => callRT (spec_reader_pick q89 [.cell (.int ((([[.sl 1 l33, .int n34, .int n35, .int n36, .sl 3 l37], [.sl 1 l38, .int n39, .int n40, .int n41, .sl 3 l42], [.sl 1 l43, .int n44, .int n45, .int n46, .sl 3 l47], [.sl 1 l48, .int n49, .int n50, .int n51, .sl 3 l52], [.sl 1 l53, .int n54, .int n55, .int n56, .sl 3 l57], [.sl 1 l58, .int n59, .int n60, .int n61, .sl 3 l62]] : List (List AC)).length : Nat) : Int))]) false [(false, [.int 0])] fun q96 n95 => atR_ [[.sl 1 l33, .int n34, .int n35, .int n36, .sl 3 l37], [.sl 1 l38, .int n39, .int n40, .int n41, .sl 3 l42], [.sl 1 l43, .int n44, .int n45, .int n46, .sl 3 l47], [.sl 1 l48, .int n49, .int n50, .int n51, .sl 3 l52], [.sl 1 l53, .int n54, .int n55, .int n56, .sl 3 l57], [.sl 1 l58, .int n59, .int n60, .int n61, .sl 3 l62]] n95 [.sl 1 [], .int 0, .int 0, .int 0, .sl 3 []] fun l97 n98 n99 n100 l101 => callRT (spec_reader_pick q96 [.cell (.int ((([[.sl 1 l63, .int n64, .int n65, .int n66, .sl 3 l67], [.sl 1 l68, .int n69, .int n70, .int n71, .sl 3 l72], [.sl 1 l73, .int n74, .int n75, .int n76, .sl 3 l77], [.sl 1 l78, .int n79, .int n80, .int n81, .sl 3 l82]] : List (List AC)).length : Nat) : Int))]) false [(false, [.int 0])] fun q103 n102 => atR_ [[.sl 1 l63, .int n64, .int n65, .int n66, .sl 3 l67], [.sl 1 l68, .int n69, .int n70, .int n71, .sl 3 l72], [.sl 1 l73, .int n74, .int n75, .int n76, .sl 3 l77], [.sl 1 l78, .int n79, .int n80, .int n81, .sl 3 l82]] n102 [.sl 1 [], .int 0, .int 0, .int 0, .sl 3 []] fun l104 n105 n106 n107 l108 => callRT (spec_reader_one q103 [.cell (.sl 1 [[.int 4], [.int 4], [.int 3], [.int 2], [.int 4]])]) false [(false, [.int 0])] fun q110 n109 => some (.tup [.agg [.sl 3 [], .sl 5 []], .agg [.sl 3 l1, .sl 5 [[.sl 1 l83, .int n84, .int n85, .int n86, .sl 3 l87], [.sl 1 l90, .int n91, .int n92, .int n93, .sl 3 l94], [.sl 1 l97, .int n98, .int n99, .int n100, .sl 3 l101], [.sl 1 l104, .int n105, .int n106, .int n107, .sl 3 l108]]], .cell (.int n109)], q110) : Option (AV × List AC)) = some r) : evT Y_gpA 100000 (.run (joinC rg_gpA .skip)) [] [(0, .und)] q = some r := Eq.trans (by kernel_rfl) h
theorem gpA_st : (tcode (drawnT tt) lay sig (joinC rg_gpA .skip) ⟨[], [], [], 110, [], []⟩).isSome = true := by kernel_rfl
end Go.Proofs.Ytbodfaghedolbaa
namespace Go.Proofs.Ytbodfaghedolbaa
open Go Go.RowKit
theorem low_evo {p : Stb} {w w' : World} {B k : Nat} (hu : ∀ j, p.ok B j → j = k) (h : Evo (· = B) (raP p B 0) w (raP p B 0) w') {v : Value} {c : AC} (hr : Rep p w v c) (ha : apC k c = true) : Rep p w' v c := by
  have h1 : ∀ b, (raP p B 0) b = p b ∨ ∀ j, p.ok b j → j = k := fun b => by
    by_cases e : b = B
    · subst e; exact .inr hu
    · exact .inl (raP_ne e)
  have h2 : ∀ b, p b = (raP p B 0) b ∨ ∀ j, (raP p B 0).ok b j → j = k := fun b => by
    rcases h1 b with e | e
    · exact .inl e.symm
    · exact .inr e
  exact ((hr.low h1 rfl ha).evo h).low h2 rfl ha
theorem low_evoQ {p : Stb} {w w' : World} {B k : Nat} (hu : ∀ j, p.ok B j → j = k) (hB : p.ok B k) (hk : 2 ≤ k) (h : Evo (· = B) (raP p B 0) w (raP p B 0) w') {v : Value} {ns : List Nat} (hr : RepQ p w v (.sl 1 (ns.map fun (u : Nat) => [.bool true, .int (u : Int)]))) : RepQ p w' v (.sl 1 (ns.map fun (u : Nat) => [.bool true, .int (u : Int)])) := by
  rcases hr with hr | ⟨A, n, cap, e, hc, ms, hl, hq, hx⟩
  · refine .inl (low_evo hu h hr ?_)
    have : apR k (ns.map fun (u : Nat) => [AC.bool true, .int (u : Int)]) = true := by
      clear hr
      induction ns with
      | nil => rfl
      | cons n ns ih => simp only [List.map_cons, apR, apL, apC, Bool.and_true, ih]
    simp only [apC, this, Bool.and_true, Bool.not_eq_true']
    exact Bool.eq_false_iff.2 fun e => by have := Nat.eq_of_beq_eq_true e; omega
  · refine .inr ⟨A, n, cap, e, hc, ms, hl, hq, fun hn => ?_⟩
    obtain ⟨b, o, hA, hb, hp, hok, hy⟩ := hx hn
    have hne : b ≠ B := fun e => hok k (e ▸ hB)
    refine ⟨b, o, hA, Nat.lt_of_lt_of_le hb h.size, hp, hok, fun i u hu => ?_⟩
    obtain ⟨h1, h2⟩ := hy i u hu
    refine ⟨h1, ?_⟩
    rw [World.cell?_of_block (w := w) (h.block b hb hne)]
    exact h2
theorem rep_inv {p : Stb} {w : World} {b o n cap k : Nat} {rows : List (List AC)} (h : Rep p w (.slice (some ⟨b, o, none⟩) n cap) (.sl k rows)) (hn : rows ≠ []) : n = rows.length ∧ 0 < k ∧ (∀ r ∈ rows, r.length = k) ∧ b < w.heap.size ∧ o + rows.length * k ≤ p b ∧ p.ok b k ∧ rows.length ≤ cap ∧
    ∃ f : Nat → Nat → Value, (∀ i j c, (rows.getD i [])[j]? = some c → w.cell? ⟨b, o + i * k + j, none⟩ = some (f i j)) ∧ ∀ i j c, (rows.getD i [])[j]? = some c → Rep p w (f i j) c := by
  generalize hv : Value.slice (some ⟨b, o, none⟩) n cap = v at h
  generalize hc : AC.sl k rows = c at h
  cases h with
  | int n => cases hc
  | bool b => cases hc
  | nil a k => cases hc; exact absurd rfl hn
  | sl b' o' cap' k' rows' f hk hrows hb hp hok hcap hcc hrr =>
    cases hc
    cases hv
    exact ⟨rfl, hk, hrows, hb, hp, hok, hcap, f, hcc, hrr⟩
theorem ap_ints (k : Nat) : ∀ xs : List Int, apR k (intsC xs) = true
  | [] => rfl
  | x :: xs => by
    have := ap_ints k xs
    simp only [intsC] at this
    simp only [intsC, List.map_cons, apR, apL, apC, Bool.and_true, this]
theorem ap_expr {row : List AC} (h : Fit .expr row) : apL 5 row = true := by
  generalize hk : Ty.expr = kd at h
  induction h with
  | expr o n kids ho hn hl h ih =>
    have : ∀ l : List (List AC), (∀ c ∈ l, apL 5 c = true) → apR 5 l = true := by
      intro l
      induction l with
      | nil => intro _; rfl
      | cons c l ih => intro h; simp only [apR, h c (by simp), ih fun x hx => h x (by simp [hx]), Bool.and_true]
    simp only [apL, apC, Bool.and_true, Bool.true_and, this kids fun c hc => ih c hc rfl]
    rfl
  | _ => cases hk
def put5 (w : World) (B o : Nat) (x0 x1 x2 x3 x4 : Value) : World := ((((w.setCell ⟨B, o, none⟩ x0).setCell ⟨B, o + 1, none⟩ x1).setCell ⟨B, o + 2, none⟩ x2).setCell ⟨B, o + 3, none⟩ x3).setCell ⟨B, o + 4, none⟩ x4
section
variable {w : World} {B o : Nat} {x0 x1 x2 x3 x4 : Value}
theorem put5_heap {a : Array Value} {T : TypeId} (h : w.heap[B]? = some (.cells a T (0, 0))) : (put5 w B o x0 x1 x2 x3 x4).heap[B]? = some (.cells (((((a.setIfInBounds o x0).setIfInBounds (o + 1) x1).setIfInBounds (o + 2) x2).setIfInBounds (o + 3) x3).setIfInBounds (o + 4) x4) T (0, 0)) :=
  heap_setCell_same _ _ _ _ _ _ (heap_setCell_same _ _ _ _ _ _ (heap_setCell_same _ _ _ _ _ _ (heap_setCell_same _ _ _ _ _ _ (heap_setCell_same _ _ _ _ _ _ h))))
theorem put5_other {b : Nat} (h : b ≠ B) : (put5 w B o x0 x1 x2 x3 x4).heap[b]? = w.heap[b]? := by
  unfold put5
  rw [heap_setCell_other _ _ _ _ h, heap_setCell_other _ _ _ _ h, heap_setCell_other _ _ _ _ h, heap_setCell_other _ _ _ _ h, heap_setCell_other _ _ _ _ h]
theorem put5_size : (put5 w B o x0 x1 x2 x3 x4).heap.size = w.heap.size := by simp [put5, World.setCell]
theorem put5_evo (p : Stb) (hp : p B = 0) : Evo (· = B) p w p (put5 w B o x0 x1 x2 x3 x4) := by
  refine evo_block hp put5_size (fun y hy => put5_other hy) ?_ ?_ ?_ <;> simp [put5, World.setCell]
theorem put5_cell {a : Array Value} {T : TypeId} (h : w.heap[B]? = some (.cells a T (0, 0))) (ho : o + 5 ≤ a.size) (i : Nat) : (put5 w B o x0 x1 x2 x3 x4).cell? ⟨B, i, none⟩ = if i = o then some x0 else if i = o + 1 then some x1 else if i = o + 2 then some x2 else if i = o + 3 then some x3 else if i = o + 4 then some x4 else w.cell? ⟨B, i, none⟩ := by
  have hc : ∀ {w : World} {a : Array Value}, w.heap[B]? = some (.cells a T (0, 0)) → w.cell? ⟨B, i, none⟩ = a[i]? := fun h => by simp [World.cell?, h]
  rw [hc (put5_heap h), hc h]
  simp only [Array.getElem?_setIfInBounds, Array.size_setIfInBounds]
  by_cases h4 : i = o + 4
  · subst h4; simp; omega
  by_cases h3 : i = o + 3
  · subst h3; simp; omega
  by_cases h2 : i = o + 2
  · subst h2; simp; omega
  by_cases h1 : i = o + 1
  · subst h1; simp; omega
  by_cases h0 : i = o
  · subst h0; simp; omega
  rw [if_neg (fun e => h4 e.symm), if_neg (fun e => h3 e.symm), if_neg (fun e => h2 e.symm), if_neg (fun e => h1 e.symm), if_neg (fun e => h0 e.symm), if_neg h0, if_neg h1, if_neg h2, if_neg h3, if_neg h4]
end
theorem rep_put5 {p : Stb} {w : World} {B o n cap k : Nat} {rows : List (List AC)} {a : Array Value} {T : TypeId} (hb : w.heap[B]? = some (.cells a T (0, 0))) (hs : o + n * 5 ≤ a.size) (hu : ∀ j, p.ok B j → j = 5) (h : Rep p w (.slice (some ⟨B, o, none⟩) n cap) (.sl 5 rows)) (ha : ∀ r ∈ rows, apL 5 r = true) (hk : k < rows.length)
    {x0 x1 x2 x3 x4 : Value} {c0 c1 c2 c3 c4 : AC} (hr : RepL p w [x0, x1, x2, x3, x4] [c0, c1, c2, c3, c4]) (hc : apL 5 [c0, c1, c2, c3, c4] = true) :
    Rep p (put5 w B (o + k * 5) x0 x1 x2 x3 x4) (.slice (some ⟨B, o, none⟩) n cap) (.sl 5 (rows.set k [c0, c1, c2, c3, c4])) := by
  obtain ⟨rfl, h5, hrows, hB, hp, hok, hcap, f, hcc, hrr⟩ := rep_inv h (by intro e; rw [e] at hk; simp at hk)
  have hev := put5_evo (w := w) (B := B) (o := o + k * 5) (x0 := x0) (x1 := x1) (x2 := x2) (x3 := x3) (x4 := x4) (raP p B 0) (by rw [raP_f, if_pos rfl])
  have hl := fun {v : Value} {c : AC} (hr : Rep p w v c) (ha : apC 5 c = true) => low_evo hu hev hr ha
  have hlen : (rows.set k [c0, c1, c2, c3, c4]).length = rows.length := by simp
  simp only [RepL] at hr
  obtain ⟨r0, r1, r2, r3, r4, _⟩ := hr
  simp only [apL, Bool.and_eq_true] at hc
  obtain ⟨a0, a1, a2, a3, a4, _⟩ := hc
  have hget : ∀ (i j : Nat) (c : AC), ((rows.set k [c0, c1, c2, c3, c4]).getD i [])[j]? = some c → (i = k ∧ [c0, c1, c2, c3, c4][j]? = some c) ∨ (i ≠ k ∧ (rows.getD i [])[j]? = some c) := fun i j c h => by
    by_cases hik : i = k
    · subst hik
      simp only [List.getD, List.getElem?_set_self hk, Option.getD_some] at h
      exact .inl ⟨rfl, h⟩
    · simp only [List.getD, List.getElem?_set_ne (fun e => hik e.symm)] at h
      exact .inr ⟨hik, h⟩
  rw [← hlen]
  refine .sl B o cap 5 _ (fun i j => if i = k then [x0, x1, x2, x3, x4].getD j undef else f i j) h5 (fun r hr => ?_) (by rw [put5_size]; exact hB) (by rw [hlen]; exact hp) hok (by rw [hlen]; exact hcap) (fun i j c h => ?_) (fun i j c h => ?_)
  · rcases List.mem_or_eq_of_mem_set hr with h | rfl
    · exact hrows r h
    · rfl
  · rw [put5_cell hb (by omega)]
    rcases hget i j c h with ⟨rfl, hj⟩ | ⟨hik, hj⟩
    · have hj5 := (List.getElem?_eq_some_iff.1 hj).1
      simp only [List.length_cons, List.length_nil] at hj5
      rcases (by omega : j = 0 ∨ j = 1 ∨ j = 2 ∨ j = 3 ∨ j = 4) with rfl | rfl | rfl | rfl | rfl <;> simp
    · have hlt : i < rows.length := by
        rcases Nat.lt_or_ge i rows.length with h | h
        · exact h
        · simp [List.getD, List.getElem?_eq_none h] at hj
      have hj5 := (List.getElem?_eq_some_iff.1 hj).1
      rw [hrows _ (by simp [List.getD, hlt])] at hj5
      rw [if_neg (by omega), if_neg (by omega), if_neg (by omega), if_neg (by omega), if_neg (by omega), if_neg hik]
      exact hcc i j c hj
  · rcases hget i j c h with ⟨rfl, hj⟩ | ⟨hik, hj⟩
    · have hj5 := (List.getElem?_eq_some_iff.1 hj).1
      simp only [List.length_cons, List.length_nil] at hj5
      rw [if_pos rfl]
      rcases (by omega : j = 0 ∨ j = 1 ∨ j = 2 ∨ j = 3 ∨ j = 4) with rfl | rfl | rfl | rfl | rfl <;> simp only [List.getElem?_cons_zero, List.getElem?_cons_succ, Option.some.injEq] at hj <;> subst hj
      · exact hl r0 a0
      · exact hl r1 a1
      · exact hl r2 a2
      · exact hl r3 a3
      · exact hl r4 a4
    · have hlt : i < rows.length := by
        rcases Nat.lt_or_ge i rows.length with h | h
        · exact h
        · simp [List.getD, List.getElem?_eq_none h] at hj
      rw [if_neg hik]
      have hap := ha (rows.getD i []) (by simp [List.getD, hlt])
      exact hl (hrr i j c hj) (apL_mem hap c (List.mem_of_getElem? hj))
end Go.Proofs.Ytbodfaghedolbaa

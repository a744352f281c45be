/- An expression that has a type names functions that there are. Nothing here speaks of a program's code. -/
import Derived.Test.YtihmkaodjpgikaaGreatGe
import Derived.Test.YtihmkaodjpgikaaGreatRf0
namespace Go.Proofs.YtihmkaodjpgikaaGreat
open Go.RowKit
theorem isTy_pos {n : Nat} {t : Int} (h : isTy n t = true) : 0 ≤ t := by
  unfold isTy at h; simp only [Bool.and_eq_true, decide_eq_true_eq] at h; exact h.1
theorem flds_pos {ds : List Dec} {c : Int} (h : typesOk ds = true) (hc : 0 ≤ conTy ds c) : ∀ t ∈ flds ds c, 0 ≤ t := by
  rcases conTy_cases ds c with e | ⟨k, hk, e, h1, h2⟩
  · omega
  · rw [flds_at e]
    have := consOk_of h hk
    unfold consOk at this
    simp only [Bool.and_eq_true, decide_eq_true_eq, List.all_eq_true] at this
    have hi : (c - (cnt ds k : Int)).toNat < (nthD ds k).cons.length := by omega
    rw [nthL_of hi]
    intro t ht
    exact isTy_pos ((this.2 _ (List.getElem_mem hi)).2 t ht)
theorem hasF_nat {p : Pg} {n : Int} (h : hasF p n = true) : 0 ≤ n ∧ n < p.funcs.length := by
  unfold hasF at h; simp only [Bool.and_eq_true, decide_eq_true_eq] at h; exact h
theorem params_pos {p : Pg} (hs : sigsOk p = true) {n : Int} (h : hasF p n = true) : ∀ t ∈ (fnAt p n).params, 0 ≤ t := by
  have hn := hasF_nat h
  have := sigs_at hs (k := n.toNat) (by omega)
  unfold sigOk at this
  simp only [Bool.and_eq_true, decide_eq_true_eq, List.all_eq_true] at this
  intro t ht
  exact isTy_pos (this.2.1 t ht)
theorem res_kids {p : Pg} (hs : sigsOk p = true) {o n : Int} {ts : List Int} (h : 0 ≤ resV p o n ts) : (∀ t ∈ ts, 0 ≤ t) ∧ (isCF o = true → 0 ≤ n ∧ n < p.funcs.length) := by
  have no : ∀ {o : Int}, o ≠ 9 → o ≠ 10 → isCF o = true → 0 ≤ n ∧ n < p.funcs.length := fun h1 h2 h3 => by
    unfold isCF at h3
    simp [h1, h2] at h3
  unfold resV at h
  by_cases h0 : o = 0
  · rw [if_pos h0] at h
    by_cases hh : -999 ≤ n ∧ n ≤ 999 ∧ ts = []
    · rw [hh.2.2]; exact ⟨(by simp), no (by omega) (by omega)⟩
    · rw [if_neg hh] at h; omega
  rw [if_neg h0] at h
  by_cases h1 : o = 1 ∨ o = 2 ∨ o = 3 ∨ o = 4
  · rw [if_pos h1] at h
    by_cases hh : n = 0 ∧ ts = [0, 0]
    · rw [hh.2]; exact ⟨(by simp), no (by omega) (by omega)⟩
    · rw [if_neg hh] at h; omega
  rw [if_neg h1] at h
  by_cases h5 : o = 5
  · rw [if_pos h5] at h
    by_cases hh : n = 0 ∧ ts = [0]
    · rw [hh.2]; exact ⟨(by simp), no (by omega) (by omega)⟩
    · rw [if_neg hh] at h; omega
  rw [if_neg h5] at h
  by_cases h6 : o = 6
  · rw [if_pos h6] at h
    unfold conRes at h
    by_cases hh : 0 ≤ conTy p.decls n ∧ ts = flds p.decls n
    · rw [hh.2]; exact ⟨flds_pos (sigs_types hs) hh.1, no (by omega) (by omega)⟩
    · rw [if_neg hh] at h; omega
  rw [if_neg h6] at h
  by_cases h9 : o = 9
  · rw [if_pos h9] at h
    unfold callRes at h
    by_cases hh : hasF p n = true ∧ ts = (fnAt p n).params
    · rw [hh.2]; exact ⟨params_pos hs hh.1, fun _ => hasF_nat hh.1⟩
    · rw [if_neg hh] at h; omega
  rw [if_neg h9] at h
  by_cases h10 : o = 10
  · rw [if_pos h10] at h
    unfold closeRes at h
    by_cases hh : hasF p n = true ∧ 0 < (fnAt p n).params.length ∧ ts = (fnAt p n).params.take ((fnAt p n).params.length - 1)
    · rw [hh.2.2]; exact ⟨fun t ht => params_pos hs hh.1 t (List.mem_of_mem_take ht), fun _ => hasF_nat hh.1⟩
    · rw [if_neg hh] at h; omega
  rw [if_neg h10] at h
  by_cases h11 : o = 11
  · rw [if_pos h11] at h
    by_cases hn : n = 0
    · rw [if_pos hn] at h
      unfold applyRes at h
      by_cases hh : ts.length = 2 ∧ isAr p.decls (nth ts 0) = true ∧ nth ts 1 = (nthD p.decls (nth ts 0 - 1).toNat).frm
      · refine ⟨?_, no h9 h10⟩
        obtain ⟨hl, ha, hf⟩ := hh
        rcases ts with _ | ⟨a, _ | ⟨b, _ | ⟨c, l⟩⟩⟩
        · cases hl
        · cases hl
        · have ea : nth [a, b] 0 = a := rfl
          have eb : nth [a, b] 1 = b := rfl
          rw [ea] at ha hf
          rw [eb] at hf
          unfold isAr at ha
          simp only [Bool.and_eq_true, decide_eq_true_eq] at ha
          have hd := typesOk_at (sigs_types hs) (k := (a - 1).toNat) (by omega)
          unfold decOk at hd
          rw [if_neg (by omega)] at hd
          simp only [Bool.and_eq_true] at hd
          have hp := isTy_pos hd.1
          intro t ht
          rcases List.mem_cons.1 ht with rfl | ht
          · omega
          · rcases List.mem_cons.1 ht with rfl | ht
            · omega
            · cases ht
        · simp at hl
      · rw [if_neg hh] at h; omega
    · rw [if_neg hn] at h; omega
  rw [if_neg h11] at h
  omega
theorem ex_ind {M : Ex → Prop} (h : ∀ o n ks, (∀ e ∈ ks, M e) → M (.node o n ks)) : ∀ e, M e := fun e =>
  Ex.rec (motive_1 := M) (motive_2 := fun l => ∀ e ∈ l, M e) (fun o n ks ih => h o n ks ih) (fun e he => by cases he) (fun e l h1 h2 x hx => by
    rcases List.mem_cons.1 hx with rfl | hx
    · exact h1
    · exact h2 x hx) e
theorem namL_some {x : Int} : ∀ {ks : List Ex}, x ∈ namL ks [] → ∃ e ∈ ks, x ∈ e.nam []
  | [], h => by simp [namL] at h
  | e :: es, h => by
    simp only [namL] at h
    rcases (namL_mem x es _).1 h with h | h
    · exact ⟨e, by simp, h⟩
    · obtain ⟨e', he, h⟩ := namL_some h
      exact ⟨e', by simp [he], h⟩
theorem ty_kids {p : Pg} (hs : sigsOk p = true) {o n : Int} {ks : List Ex} {vars : List Int} (h : 0 ≤ tyN p o n (tyL p ks) vars) : (∀ e ∈ ks, ∃ vs, 0 ≤ e.ty p vs) ∧ (isCF o = true → 0 ≤ n ∧ n < p.funcs.length) := by
  have no : o ≠ 9 → o ≠ 10 → isCF o = true → 0 ≤ n ∧ n < p.funcs.length := fun h1 h2 h3 => by
    unfold isCF at h3
    simp [h1, h2] at h3
  have all : (∀ k, k < ks.length → ∃ vs, 0 ≤ (nthX ks k).ty p vs) → ∀ e ∈ ks, ∃ vs, 0 ≤ e.ty p vs := fun H e he => by
    obtain ⟨k, hk, rfl⟩ := List.getElem_of_mem he
    have := H k hk
    rwa [nthX_of hk] at this
  unfold tyN at h
  by_cases h12 : o = 12
  · rw [if_pos h12] at h
    by_cases hl : (tyL p ks).length = 0
    · rw [length_tyL] at hl
      rw [List.eq_nil_of_length_eq_zero hl]
      exact ⟨(by simp), no (by omega) (by omega)⟩
    · rw [if_neg hl] at h; omega
  rw [if_neg h12] at h
  by_cases h13 : o = 13
  · rw [if_pos h13] at h
    unfold letV at h
    by_cases hh : n = 0 ∧ (tyL p ks).length = 2 ∧ 0 ≤ at_ (tyL p ks) 0 vars
    · rw [if_pos hh] at h
      obtain ⟨_, hl, h0⟩ := hh
      rw [length_tyL] at hl
      rw [at_tyL p (by omega)] at h0
      rw [at_tyL p (k := 1) (by omega)] at h
      refine ⟨all fun k hk => ?_, no (by omega) (by omega)⟩
      rcases (by omega : k = 0 ∨ k = 1) with rfl | rfl
      · exact ⟨_, h0⟩
      · exact ⟨_, h⟩
    · rw [if_neg hh] at h; omega
  rw [if_neg h13] at h
  by_cases h7 : o = 7
  · rw [if_pos h7] at h
    unfold ifV at h
    by_cases hh : n = 0 ∧ (tyL p ks).length = 3 ∧ at_ (tyL p ks) 0 vars = 0 ∧ at_ (tyL p ks) 2 vars = at_ (tyL p ks) 1 vars
    · rw [if_pos hh] at h
      obtain ⟨_, hl, h0, h2⟩ := hh
      rw [length_tyL] at hl
      rw [at_tyL p (by omega)] at h0
      rw [at_tyL p (k := 2) (by omega), at_tyL p (k := 1) (by omega)] at h2
      rw [at_tyL p (k := 1) (by omega)] at h
      refine ⟨all fun k hk => ?_, no (by omega) (by omega)⟩
      rcases (by omega : k = 0 ∨ k = 1 ∨ k = 2) with rfl | rfl | rfl
      · exact ⟨vars, by omega⟩
      · exact ⟨_, h⟩
      · exact ⟨vars, by omega⟩
    · rw [if_neg hh] at h; omega
  rw [if_neg h7] at h
  by_cases h8 : o = 8
  · rw [if_pos h8] at h
    unfold matchV at h
    by_cases hh : isDat p.decls n = true ∧ (tyL p ks).length = 1 + (nthD p.decls (n - 1).toNat).cons.length ∧ at_ (tyL p ks) 0 vars = n ∧
        upTo (nthD p.decls (n - 1).toNat).cons.length (fun k => decide (armV (nthD p.decls (n - 1).toNat).cons (tyL p ks) vars k = armV (nthD p.decls (n - 1).toNat).cons (tyL p ks) vars 0)) = true
    · rw [if_pos hh] at h
      obtain ⟨hd, hl, h0, hu⟩ := hh
      rw [length_tyL] at hl
      rw [at_tyL p (by omega)] at h0
      unfold isDat at hd
      simp only [Bool.and_eq_true, decide_eq_true_eq] at hd
      refine ⟨all fun k hk => ?_, no (by omega) (by omega)⟩
      rcases k with _ | k
      · exact ⟨vars, by omega⟩
      · have := upTo_at hu (k := k) (by omega)
        rw [decide_eq_true_eq] at this
        rw [← this] at h
        unfold armV at h
        rw [at_tyL p (by omega), Nat.add_comm 1 k] at h
        exact ⟨_, h⟩
    · rw [if_neg hh] at h; omega
  rw [if_neg h8, tysL_eq] at h
  obtain ⟨h1, h2⟩ := res_kids hs h
  exact ⟨fun e he => ⟨vars, h1 _ (List.mem_map.2 ⟨e, he, rfl⟩)⟩, h2⟩
theorem nam_in {p : Pg} (hs : sigsOk p = true) : ∀ (e : Ex) (vars : List Int), 0 ≤ e.ty p vars → InF p.funcs.length (e.nam []) :=
  ex_ind fun o n ks ih vars h => by
    obtain ⟨h1, h2⟩ := ty_kids hs (show 0 ≤ tyN p o n (tyL p ks) vars by have h' := h; rw [ty_eq] at h'; exact h')
    intro x hx
    simp only [Ex.nam] at hx
    rcases (namL_mem x ks _).1 hx with hx | hx
    · rcases hc : isCF o with _ | _
      · rw [hc] at hx; simp at hx
      · rw [hc, cond_true, ins_mem] at hx
        rcases hx with rfl | hx
        · exact h2 hc
        · cases hx
    · obtain ⟨e, he, hx⟩ := namL_some hx
      obtain ⟨vs, hv⟩ := h1 e he
      exact ih e he vs hv x hx
/-- A valid program's functions name functions that there are. -/
theorem prog_in {p : Pg} (h : progOk p = true) : ∀ k, k < p.funcs.length → InF p.funcs.length ((nthF p.funcs k).body.nam []) := fun k hk => by
  have hs := prog_sigs h
  have hat := prog_at h hk
  have hsig := sigs_at hs hk
  unfold sigOk at hsig
  simp only [Bool.and_eq_true] at hsig
  have hres := isTy_pos hsig.2.2
  unfold typeV at hat
  split at hat
  · exact nam_in hs _ _ (by rw [hat]; exact hres)
  · omega
end Go.Proofs.YtihmkaodjpgikaaGreat

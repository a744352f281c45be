/- What a choice makes, both sides. -/
import Derived.Test.YtbdngmeoohjnoaaGreatQi
set_option linter.unusedVariables false
set_option linter.unusedSimpArgs false
namespace Go.Proofs.YtbdngmeoohjnoaaGreat
open Go
section
variable {D : List DM} {R : List RM}
theorem s_pre (V : List Int) (hV : V.length ≤ 2147483648) (args kids : List (List AC)) (o n i : Int) (hi : inI i) (hi0 : i = 0) (ho : (o = 7 ∧ n = 0) ∨ o = 8) {r : AV} (h : spec_stepType_J3 (intsC V) (decsC D) (rousC R) o n i args kids = some r) :
    spec_stepType [.agg [.sl 3 (decsC D), .sl 5 (rousC R)], .cell (.sl 1 (intsC V)), .agg [.int o, .int n, .int i, .sl 1 args, .sl 2 kids]] = some r := by
  have hin : intoM V o i = true := by simp [intoM, hi0]
  have hv2 := s_validInto V hV o n i hi args kids
  rw [hin] at hv2
  refine spec_stepType_le ?_
  by_cases hn : n = 0
  · refine bifF (nef hn) (callB hv2 (bifF rfl ?_))
    by_cases hk : kids.length = 0
    · exact bifF (decide_eq_false (by omega)) h
    · refine bifT (decide_eq_true (by omega)) ?_
      rcases ho with ⟨rfl, _⟩ | rfl
      · exact bifF rfl h
      · exact bifT rfl (bifF rfl h)
  · have ho8 : o = 8 := by omega
    refine bifT (net hn) (callB (s_hasNum o) ?_)
    rw [decide_eq_true (by omega)]
    refine bifF rfl (callB hv2 (bifF rfl ?_))
    by_cases hk : kids.length = 0
    · exact bifF (decide_eq_false (by omega)) h
    · subst ho8
      exact bifT (decide_eq_true (by omega)) (bifT rfl (bifF rfl h))
theorem s_bad (V : List Int) (hV : V.length ≤ 2147483648) (args kids : List (List AC)) (o n i : Int) (hi : inI i) (ho : o = 7 ∨ o = 8) (h : i ≠ 0 ∨ (o = 7 ∧ n ≠ 0)) :
    spec_stepType [.agg [.sl 3 (decsC D), .sl 5 (rousC R)], .cell (.sl 1 (intsC V)), .agg [.int o, .int n, .int i, .sl 1 args, .sl 2 kids]] = rI (-1) := by
  have hv2 := s_validInto V hV o n i hi args kids
  refine spec_stepType_le ?_
  by_cases hn : n = 0
  · have e : intoM V o i = false := by simp [intoM, show i ≠ 0 by omega, show o ≠ 6 by omega]
    rw [e] at hv2
    exact bifF (nef hn) (callB hv2 (bifT rfl rfl))
  · refine bifT (net hn) (callB (s_hasNum o) ?_)
    rcases ho with rfl | rfl
    · exact bifT rfl rfl
    · have e : intoM V 8 i = false := by simp [intoM, show i ≠ 0 by omega]
      rw [e] at hv2
      exact bifF rfl (callB hv2 (bifT rfl rfl))
theorem core (hv : CV D R) (G M args : List Int) (hV : VV D (G ++ M)) (ha : IntsOk args) (kids : List (List AC)) (hm : kids.length ≤ maxI) (hb : ∀ k, k < kids.length → ∃ ss r, kids.getD k [] = [.sl 5 ss, .int r]) (o n i : Int) (fs : List (List Int)) (hf0 : 0 < fs.length)
    (hfs : ∀ k, k < fs.length → (fs.getD k []).length ≤ 3 ∧ ∀ t ∈ fs.getD k [], 0 ≤ t ∧ t ≤ D.length) (hn : 0 ≤ n) (l18 : List (List AC)) (cs : List Int)
    (ho : (o = 8 ∧ l18 = intsC cs ∧ cs.length = fs.length ∧ ∀ k, k < fs.length → 1 ≤ conT D (cs.getD k 0) ∧ fld D (cs.getD k 0) = fs.getD k []) ∨ (o = 7 ∧ n = 0 ∧ ∀ k, k < fs.length → fs.getD k [] = []))
    (hch : impl_choicesOf [.cell (.sl 3 (decsC D)), .agg [.int o, .int n, .int i, .sl 1 (intsC args), .sl 2 kids]] = some (.v (.cell (.sl 1 (consC fs)))))
    (hK : ∀ r, (bif (((kids.length : Nat) : Int) != ((fs.length : Nat) : Int)) then rI (-1) else spec_kidsType_L0 (intsC (G ++ M)) (decsC D) (rousC R) o n i (intsC args) kids l18 ((fs.length : Nat) : Int) 0 0) = some r → spec_kidsType [.agg [.sl 3 (decsC D), .sl 5 (rousC R)], .cell (.sl 1 (intsC (G ++ M))), .agg [.int o, .int n, .int i, .sl 1 (intsC args), .sl 2 kids]] = some r)
    (H : ∀ k, k < kids.length → ∀ fs : List Int, fs.length ≤ 3 → (∀ t ∈ fs, 0 ≤ t ∧ t ≤ D.length) → ∀ ss r, kids.getD k [] = [.sl 5 ss, .int r] → ∃ t, impl_typeOfBlock [.agg [.sl 3 (decsC D), .sl 5 (rousC R)], .agg [.sl 1 (intsC G), .sl 1 (intsC (M ++ fs))], .agg [.sl 5 ss, .int r]] = rI t ∧ spec_blockType [.agg [.sl 3 (decsC D), .sl 5 (rousC R)], .cell (.sl 1 (intsC (G ++ (M ++ fs)))), .agg [.sl 5 ss, .int r]] = rI t ∧ okT D t) :
    ∃ t, impl_typeOfChoice [.agg [.sl 3 (decsC D), .sl 5 (rousC R)], .agg [.sl 1 (intsC G), .sl 1 (intsC M)], .agg [.int o, .int n, .int i, .sl 1 (intsC args), .sl 2 kids]] = rI t ∧ spec_stepType_J3 (intsC (G ++ M)) (decsC D) (rousC R) o n i (intsC args) kids = rI t ∧ okT D t := by
  have hVl := hV.len
  rw [List.length_append] at hVl
  have hJ : ∀ b t, spec_typed [.cell (.sl 1 (intsC (G ++ M))), .cell (.sl 1 (intsC args)), .cell (.sl 1 [[.int n]])] = rB b → (b = true → spec_kidsType [.agg [.sl 3 (decsC D), .sl 5 (rousC R)], .cell (.sl 1 (intsC (G ++ M))), .agg [.int o, .int n, .int i, .sl 1 (intsC args), .sl 2 kids]] = rI t) → (b = false → t = -1) → spec_stepType_J3 (intsC (G ++ M)) (decsC D) (rousC R) o n i (intsC args) kids = rI t := by
    intro b t h1 h2 h3
    refine spec_stepType_J3_le ?_
    rcases ho with ⟨rfl, _⟩ | ⟨rfl, rfl, _⟩
    · repeat (first | refine bifF rfl ?_ | refine bifT rfl ?_)
      refine callB h1 ?_
      cases b
      · rw [h3 rfl]; exact bifF rfl rfl
      · exact bifT rfl (callI (h2 rfl) rfl)
    · repeat (first | refine bifF rfl ?_ | refine bifT rfl ?_)
      refine callB h1 ?_
      cases b
      · rw [h3 rfl]; exact bifF rfl rfl
      · exact bifT rfl (callI (h2 rfl) rfl)
  have hty := s_typed (G ++ M) args [n] (by have := hV.len; omega) ha.len (by simpa using hn)
  by_cases hl : kids.length = fs.length
  rotate_left
  · refine ⟨-1, ?_, ?_, .inl rfl⟩
    · exact impl_typeOfChoice_le (callS hch (bifF (nz (by rw [consC_len]; omega)) (bifT (net (by rw [consC_len]; omega)) rfl)))
    · exact hJ _ _ hty (fun _ => hK _ (bifT (net (by omega)) rfl)) (fun _ => rfl)
  by_cases ha1 : args.length = 1
  rotate_left
  · refine ⟨-1, ?_, ?_, .inl rfl⟩
    · exact impl_typeOfChoice_le (callS hch (bifF (nz (by rw [consC_len]; omega)) (bifF (nef (by rw [consC_len]; omega)) (bifT (net (by rw [intsC_len]; omega)) rfl))))
    · refine hJ _ _ hty (fun h => ?_) (fun _ => rfl)
      have := congrArg List.length (of_decide_eq_true h)
      simp at this
      omega
  obtain ⟨a, rfl⟩ : ∃ a, args = [a] := by
    match args, ha1 with
    | [a], _ => exact ⟨a, rfl⟩
  by_cases htv : tv (G ++ M) a = n
  rotate_left
  · refine ⟨-1, ?_, ?_, .inl rfl⟩
    · exact impl_typeOfChoice_le (callS hch (bifF (nz (by rw [consC_len]; omega)) (bifF (nef (by rw [consC_len]; omega)) (bifF (nef (by rw [intsC_len]; rfl)) (atNumI (k := 0) rfl (by simp) (callI (i_typeOfVar G M (by omega) (by omega) (ha.all a (by simp))) (bifT (net htv) rfl)))))))
    · refine hJ _ _ hty (fun h => ?_) (fun _ => rfl)
      have := of_decide_eq_true h
      simp at this
      exact absurd this htv
  have hmap : [a].map (tv (G ++ M)) = [n] := by simp [htv]
  have hex : ∀ k, ∃ t, k < kids.length → ∀ ss r, kids.getD k [] = [.sl 5 ss, .int r] → impl_typeOfBlock [.agg [.sl 3 (decsC D), .sl 5 (rousC R)], .agg [.sl 1 (intsC G), .sl 1 (intsC (M ++ fs.getD k []))], .agg [.sl 5 ss, .int r]] = rI t ∧ spec_blockType [.agg [.sl 3 (decsC D), .sl 5 (rousC R)], .cell (.sl 1 (intsC (G ++ M ++ fs.getD k []))), .agg [.sl 5 ss, .int r]] = rI t ∧ okT D t := by
    intro k
    by_cases hk : k < kids.length
    · obtain ⟨ss, r, e⟩ := hb k hk
      obtain ⟨t, h1, h2, h3⟩ := H k hk (fs.getD k []) (hfs k (by omega)).1 (hfs k (by omega)).2 ss r e
      refine ⟨t, fun _ ss' r' e' => ?_⟩
      rw [e] at e'
      cases e'
      rw [List.append_assoc]
      exact ⟨h1, h2, h3⟩
    · exact ⟨0, fun h => absurd h hk⟩
  obtain ⟨T, hT⟩ := Classical.axiomOfChoice hex
  have h0 : 0 < kids.length := by omega
  obtain ⟨ss0, r0, e0⟩ := hb 0 h0
  have hT0 := hT 0 h0 ss0 r0 e0
  have h3 : ∀ k, k < kids.length → (fs.getD k []).length ≤ 3 := fun k hk => (hfs k (by omega)).1
  have ho2 : (o = 8 ∧ l18 = intsC cs ∧ cs.length = kids.length ∧ ∀ k, k < kids.length → 1 ≤ conT D (cs.getD k 0) ∧ fld D (cs.getD k 0) = fs.getD k []) ∨ (o = 7 ∧ ∀ k, k < kids.length → fs.getD k [] = []) := by
    rw [hl]
    rcases ho with h | h
    · exact .inl h
    · exact .inr ⟨h.1, h.2.2⟩
  refine ⟨chk T (T 0) (kids.length - 1) 1, ?_, ?_, chk_ok hT0.2.2 _ _⟩
  · refine impl_typeOfChoice_le (callS hch (bifF (nz (by rw [consC_len]; omega)) (bifF (nef (by rw [consC_len]; omega)) (bifF (nef (by rw [intsC_len]; rfl)) (atNumI (k := 0) rfl (by simp) (callI (i_typeOfVar G M (by omega) (by omega) (ha.all a (by simp))) (bifF (nef htv) ?_)))))))
    refine atConI (k := 0) rfl hf0 (callBd (i_bind G M _ (by have := h3 0 h0; omega)) (atBlock0 h0 e0 (callI hT0.1 ?_)))
    exact i_choiceL G M (by omega) o n i (intsC [a]) kids fs T hl.symm hm h3 hb (fun k hk ss r e => (hT k hk ss r e).1) (T 0) (kids.length - 1) 1 (by omega)
  · refine hJ _ _ hty (fun _ => hK _ (bifF (nef (by omega)) ?_)) (fun h => ?_)
    rotate_left
    · rw [decide_eq_true hmap] at h
      cases h
    refine s_kidStep hv (G ++ M) hV.len o n i (intsC [a]) kids l18 cs fs T h3 ho2 (fun k hk ss r e => (hT k hk ss r e).2.1) (k := 0) h0 (by omega) e0 ?_
    by_cases hneg : T 0 < 0
    · refine bifT (decide_eq_true hneg) (rI_congr ?_)
      rw [show T 0 = -1 by have := hT0.2.2; unfold okT at this; omega, chk_neg]
    · refine bifF (decide_eq_false hneg) (bifF (decide_eq_false (by omega)) ?_)
      exact s_kidL hv (G ++ M) hV.len o n i (intsC [a]) kids l18 cs fs T hm h3 hb ho2 (fun k hk ss r e => (hT k hk ss r e).2.1) (T 0) (by omega) (by omega) (kids.length - 1) 1 (by omega) (by omega)
theorem choice_ex (hv : CV D R) (G M args : List Int) (hV : VV D (G ++ M)) (ha : IntsOk args) (kids : List (List AC)) (hm : kids.length ≤ maxI) (hb : ∀ k, k < kids.length → ∃ ss r, kids.getD k [] = [.sl 5 ss, .int r]) (o n i : Int) (hi : inI i) (ho : o = 7 ∨ o = 8)
    (H : ∀ k, k < kids.length → ∀ fs : List Int, fs.length ≤ 3 → (∀ t ∈ fs, 0 ≤ t ∧ t ≤ D.length) → ∀ ss r, kids.getD k [] = [.sl 5 ss, .int r] → ∃ t, impl_typeOfBlock [.agg [.sl 3 (decsC D), .sl 5 (rousC R)], .agg [.sl 1 (intsC G), .sl 1 (intsC (M ++ fs))], .agg [.sl 5 ss, .int r]] = rI t ∧ spec_blockType [.agg [.sl 3 (decsC D), .sl 5 (rousC R)], .cell (.sl 1 (intsC (G ++ (M ++ fs)))), .agg [.sl 5 ss, .int r]] = rI t ∧ okT D t) :
    ∃ t, impl_typeOfStep [.agg [.sl 3 (decsC D), .sl 5 (rousC R)], .agg [.sl 1 (intsC G), .sl 1 (intsC M)], .agg [.int o, .int n, .int i, .sl 1 (intsC args), .sl 2 kids]] = rI t ∧ spec_stepType [.agg [.sl 3 (decsC D), .sl 5 (rousC R)], .cell (.sl 1 (intsC (G ++ M))), .agg [.int o, .int n, .int i, .sl 1 (intsC args), .sl 2 kids]] = rI t ∧ okT D t := by
  have hD := hv.dv.len
  have hno : impl_choicesOf [.cell (.sl 3 (decsC D)), .agg [.int o, .int n, .int i, .sl 1 (intsC args), .sl 2 kids]] = some (.v (.cell (.sl 1 []))) → impl_typeOfChoice [.agg [.sl 3 (decsC D), .sl 5 (rousC R)], .agg [.sl 1 (intsC G), .sl 1 (intsC M)], .agg [.int o, .int n, .int i, .sl 1 (intsC args), .sl 2 kids]] = rI (-1) :=
    fun h => impl_typeOfChoice_le (callS h (bifT rfl rfl))
  by_cases hi0 : i = 0
  rotate_left
  · exact ⟨-1, impl_typeOfStep_le (bifT (net hi0) (bifT (net (by omega)) rfl)), s_bad _ hV.len _ _ _ _ _ hi ho (.inl hi0), .inl rfl⟩
  have hS : ∀ t, impl_typeOfChoice [.agg [.sl 3 (decsC D), .sl 5 (rousC R)], .agg [.sl 1 (intsC G), .sl 1 (intsC M)], .agg [.int o, .int n, .int i, .sl 1 (intsC args), .sl 2 kids]] = rI t → impl_typeOfStep [.agg [.sl 3 (decsC D), .sl 5 (rousC R)], .agg [.sl 1 (intsC G), .sl 1 (intsC M)], .agg [.int o, .int n, .int i, .sl 1 (intsC args), .sl 2 kids]] = rI t := by
    intro t ht
    refine impl_typeOfStep_le (bifF (nef hi0) ?_)
    by_cases h7 : o = 7
    · exact bifT (eqt h7) (callI ht rfl)
    · exact bifF (eqf h7) (bifT (eqt (by omega)) (callI ht rfl))
  rcases ho with rfl | rfl
  · by_cases hn : n = 0
    rotate_left
    · exact ⟨-1, hS _ (hno (impl_choicesOf_le (bifT rfl (bifF (eqf hn) (bifF rfl rfl))))), s_bad _ hV.len _ _ _ _ _ hi (.inl rfl) (.inr ⟨rfl, hn⟩), .inl rfl⟩
    subst hn
    have hco := s_consOf hv.dv 0
    rw [if_neg (by omega)] at hco
    have hg : ∀ k, k < 2 → ([[], []] : List (List Int)).getD k [] = [] := by
      intro k hk
      match k, hk with
      | 0, _ => rfl
      | 1, _ => rfl
    obtain ⟨t, h1, h2, h3⟩ := core hv G M args hV ha kids hm hb 7 0 i [[], []] (by simp) (fun k hk => by rw [hg k hk]; simp) (by omega) [] [] (.inr ⟨rfl, rfl, hg⟩)
      (impl_choicesOf_le (bifT rfl (bifT rfl rfl))) (fun r h => spec_kidsType_le (callS hco (bifT rfl (bifF rfl h)))) H
    exact ⟨t, hS _ h1, s_pre _ hV.len _ _ _ _ _ hi hi0 (.inl ⟨rfl, rfl⟩) h2, h3⟩
  · have hda := i_isData (D := D) (by omega) n
    have hco := s_consOf hv.dv n
    rcases hd : isDa D n with _ | _
    · rw [hd] at hda
      have hK : spec_kidsType [.agg [.sl 3 (decsC D), .sl 5 (rousC R)], .cell (.sl 1 (intsC (G ++ M))), .agg [.int 8, .int n, .int i, .sl 1 (intsC args), .sl 2 kids]] = rI (-1) := by
        refine spec_kidsType_le (callS hco (bifF rfl (bifT (zr ?_) rfl)))
        rw [intsC_len]
        by_cases hr : 1 ≤ n ∧ n ≤ D.length
        · rw [if_pos hr, cL_len]
          unfold isDa isTy at hd
          rw [decide_eq_true (show 0 < n by omega), decide_eq_true (show 0 ≤ n by omega), decide_eq_true hr.2] at hd
          simpa using hd
        · rw [if_neg hr]; rfl
      obtain ⟨b, hty⟩ := s_typedE (G ++ M) args hV.len n
      have hJ : spec_stepType_J3 (intsC (G ++ M)) (decsC D) (rousC R) 8 n i (intsC args) kids = rI (-1) := by
        refine spec_stepType_J3_le ?_
        repeat (first | refine bifF rfl ?_ | refine bifT rfl ?_)
        refine callB hty ?_
        cases b
        · exact bifF rfl rfl
        · exact bifT rfl (callI hK rfl)
      exact ⟨-1, hS _ (hno (impl_choicesOf_le (bifF rfl (bifT rfl (callB hda (bifF rfl rfl)))))), s_pre _ hV.len _ _ _ _ _ hi hi0 (.inr rfl) hJ, .inl rfl⟩
    rw [hd] at hda
    have hb2 : (0 < n ∧ n ≤ D.length) ∧ 0 < (gD D (n.toNat - 1)).cs.length := by
      simp only [isDa, Bool.and_eq_true, decide_eq_true_eq] at hd
      exact ⟨⟨hd.1, (isTy_iff.1 hd.2.1).2⟩, hd.2.2⟩
    have hj : n.toNat - 1 < D.length := by omega
    have w : wrapI (n - 1) = ((n.toNat - 1 : Nat) : Int) := by rw [wr (by omega) (by omega)]; omega
    rw [if_pos (by omega)] at hco
    obtain ⟨t, h1, h2, h3⟩ := core hv G M args hV ha kids hm hb 8 n i (gD D (n.toNat - 1)).cs hb2.2 (fun k hk => hv.dv.c _ hj _ (mem_getD hk [])) (by omega) (intsC (cL D (n.toNat - 1))) (cL D (n.toNat - 1))
      (.inl ⟨rfl, rfl, cL_len _ _, fun k hk => by
        obtain ⟨g1, g2⟩ := conT_hit hj hk
        rw [cL_get hk, g1]
        exact ⟨by omega, g2⟩⟩)
      (impl_choicesOf_le (bifF rfl (bifT rfl (callB hda (bifT rfl (atDecI (k := n.toNat - 1) w hj rfl))))))
      (fun r h => by
        refine spec_kidsType_le (callS hco (bifF rfl ?_))
        rw [intsC_len, cL_len]
        exact bifF (nz (by omega)) h) H
    exact ⟨t, hS _ h1, s_pre _ hV.len _ _ _ _ _ hi hi0 (.inr rfl) h2, h3⟩
end
end Go.Proofs.YtbdngmeoohjnoaaGreat

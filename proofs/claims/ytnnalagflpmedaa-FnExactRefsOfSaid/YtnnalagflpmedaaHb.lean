/- How many fields point to each cell. -/
import Derived.Test.YtnnalagflpmedaaHa
set_option linter.unusedVariables false
set_option linter.unusedSimpArgs false
namespace Go.Proofs.Ytnnalagflpmedaa
open Go
def FOk (H : List HM) : Prop := ∀ m ∈ H, ∀ w ∈ m.fs, inI w ∧ (w < 1000 ∨ liveW H w = true)
theorem live_range {H : List HM} {w : Int} (h : liveW H w = true) : ∃ j : Nat, w = 1000 + (j : Int) ∧ j < H.length := by
  unfold liveW liveI at h
  simp only [Bool.and_eq_true, decide_eq_true_eq] at h
  obtain ⟨h0, ⟨h1, h2⟩, _⟩ := h
  exact ⟨(w - 1000).toNat, by omega, by omega⟩
theorem vc_fok {H : List HM} (hH : ∀ m ∈ H, IntsOk m.fs) (h : ∀ m ∈ H, vc H m = true) : FOk H := by
  intro m hm w hw
  refine ⟨(hH m hm).all w hw, ?_⟩
  have hv := h m hm
  unfold vc at hv
  simp only [Bool.and_eq_true] at hv
  obtain ⟨_, hv⟩ := hv
  split at hv
  · simp only [Bool.and_eq_true, beq_iff_eq] at hv
    rw [List.eq_nil_of_length_eq_zero hv.2] at hw
    cases hw
  · split at hv
    · simp only [Bool.and_eq_true, beq_iff_eq, List.all_eq_true] at hv
      have := hv.2 w hw
      left; omega
    · simp only [Bool.and_eq_true, decide_eq_true_eq, List.all_eq_true] at hv
      have := hv.2 w hw
      unfold wordH isInt at this
      simp only [Bool.or_eq_true, Bool.and_eq_true, decide_eq_true_eq] at this
      rcases this with h | h
      · left; omega
      · exact .inr h
def allF (H : List HM) : List Int := H.flatMap fun m => m.fs
def refsN (P : List Int) (n : Nat) : List Int := (List.range n).map fun i : Nat => ((P.count (1000 + (i : Int)) : Nat) : Int)
theorem refsN_len (P : List Int) (n : Nat) : (refsN P n).length = n := by simp [refsN]
theorem refsN_get {P : List Int} {n i : Nat} (h : i < (refsN P n).length) : (refsN P n)[i] = ((P.count (1000 + (i : Int)) : Nat) : Int) := by simp [refsN]
theorem refsN_hit (P : List Int) {n j : Nat} (h : j < n) : (refsN P n).set j (((P.count (1000 + (j : Int)) : Nat) : Int) + 1) = refsN (P ++ [1000 + (j : Int)]) n := by
  apply List.ext_getElem
  · rw [List.length_set, refsN_len, refsN_len]
  · intro i h1 h2
    rw [List.getElem_set, refsN_get h2, List.count_append]
    by_cases hij : j = i
    · subst hij
      rw [if_pos rfl, List.count_singleton_self]
      omega
    · have hz : List.count (1000 + (i : Int)) [1000 + (j : Int)] = 0 := List.count_eq_zero.2 (by simp; omega)
      rw [if_neg hij, refsN_get, hz]
      omega
theorem refsN_miss (P : List Int) {n : Nat} {w : Int} (h : w < 1000) : refsN (P ++ [w]) n = refsN P n := by
  apply List.ext_getElem
  · rw [refsN_len, refsN_len]
  · intro i h1 h2
    have hz : List.count (1000 + (i : Int)) [w] = 0 := List.count_eq_zero.2 (by simp; omega)
    rw [refsN_get h1, refsN_get h2, List.count_append, hz]
    omega
/-- The fields of the first cells. -/
def preF (H : List HM) (c : Nat) : List Int := allF (H.take c)
theorem preF_all (H : List HM) : preF H H.length = allF H := by unfold preF; rw [List.take_length]
theorem preF_succ {H : List HM} {c : Nat} (h : c < H.length) : preF H (c + 1) = preF H c ++ (gH H c).fs := by
  unfold preF allF
  rw [List.take_succ_eq_append_getElem h, List.flatMap_append, gH_eq h]
  simp
theorem preF_len (H : List HM) (c : Nat) : (preF H c).length ≤ (allF H).length := by
  have h : allF H = preF H c ++ allF (H.drop c) := by
    unfold preF allF
    rw [← List.flatMap_append, List.take_append_drop]
  rw [h, List.length_append]
  omega
theorem cnt_le {H : List HM} {c k : Nat} (h : c < H.length) (a : Int) : (preF H c ++ (gH H c).fs.take k).count a ≤ (allF H).length := by
  refine Nat.le_trans List.count_le_length ?_
  have h1 := preF_len H (c + 1)
  rw [preF_succ h, List.length_append] at h1
  rw [List.length_append, List.length_take]
  omega
theorem take_next {P fs : List Int} {k : Nat} (h : k < fs.length) : P ++ fs.take (k + 1) = (P ++ fs.take k) ++ [fs[k]] := by
  rw [List.append_assoc, List.take_succ_eq_append_getElem h]
theorem zeros_refs (n : Nat) : List.replicate n [AC.int 0] = intsC (refsN [] n) := by
  unfold intsC refsN
  rw [List.map_map]
  apply List.ext_getElem
  · simp
  · intro i h1 h2
    simp
/-- One field more. -/
theorem ref_step {H : List HM} (hf : FOk H) (ht : (allF H).length ≤ 1048576) {c k : Nat} (hc : c < H.length) (hk : k < (gH H c).fs.length) {w : Int} (hw : (gH H c).fs[k] = w) (hp : ¬ w < 1000) {K : List (List AC) → Option AV} {r : AV}
    (h : K (intsC (refsN (preF H c ++ (gH H c).fs.take (k + 1)) H.length)) = some r) :
    ∃ j : Nat, w = 1000 + (j : Int) ∧ idxR (intsC (refsN (preF H c ++ (gH H c).fs.take k) H.length)) (j : Int) (fun m => elR (intsC (refsN (preF H c ++ (gH H c).fs.take k) H.length)) m 0 1 [.int 0] fun n20 =>
      idxR (intsC (refsN (preF H c ++ (gH H c).fs.take k) H.length)) (j : Int) fun m21 => setR (intsC (refsN (preF H c ++ (gH H c).fs.take k) H.length)) m21 0 [.int (wrapI (n20 + 1))] K) = some r := by
  have hl := (hf _ (gH_mem hc) w (by rw [← hw]; exact List.getElem_mem hk)).2.resolve_left hp
  obtain ⟨j, hj, hjn⟩ := live_range hl
  have hjl : j < (refsN (preF H c ++ (gH H c).fs.take k) H.length).length := by rw [refsN_len]; exact hjn
  refine ⟨j, hj, elNum hjl ?_⟩
  rw [refsN_get hjl]
  have hb := cnt_le (k := k) hc (1000 + (j : Int))
  rw [wr (by omega) (by omega)]
  refine setNum hjl ?_
  rw [refsN_hit _ hjn, ← hj, ← hw, ← take_next hk]
  exact h
theorem i_allRefs {H : List HM} (hl : H.length ≤ 1048576) (hi : ∀ m ∈ H, IntsOk m.fs) (hf : FOk H) (ht : (allF H).length ≤ 1048576) : impl_allRefs [.cell (.sl 3 (heapC H))] = oS (intsC (refsN (allF H) H.length)) := by
  have key : ∀ m c : Nat, c + m = H.length → impl_allRefs_L0 (intsC (refsN (preF H c) H.length)) (heapC H) (((heapC H).length : Nat) : Int) (c : Int) = oS (intsC (refsN (allF H) H.length)) := by
    intro m
    induction m with
    | zero =>
      intro c hc
      rw [show c = H.length by omega, preF_all]
      exact impl_allRefs_L0_le (bifF (decide_eq_false (by rw [heapC_len]; omega)) rfl)
    | succ m ih =>
      intro c hc
      have hlt : c < H.length := by omega
      have hfs := hi _ (gH_mem hlt)
      refine impl_allRefs_L0_le (bifT (decide_eq_true (by rw [heapC_len]; omega)) (atCellH hlt ?_))
      have inner : ∀ q k : Nat, k + q = (gH H c).fs.length → impl_allRefs_L2 (intsC (refsN (preF H c ++ (gH H c).fs.take k) H.length)) (heapC H) (((heapC H).length : Nat) : Int) (c : Int) (intsC (gH H c).fs) (((intsC (gH H c).fs).length : Nat) : Int) (k : Int) = oS (intsC (refsN (allF H) H.length)) := by
        intro q
        induction q with
        | zero =>
          intro k hk
          refine impl_allRefs_L2_le (bifF (decide_eq_false (by rw [intsC_len]; omega)) ?_)
          rw [wrk (by unfold maxI; omega), show k = (gH H c).fs.length by omega, List.take_length, ← preF_succ hlt]
          exact ih (c + 1) (by omega)
        | succ q ihq =>
          intro k hk
          have hkl : k < (gH H c).fs.length := by omega
          have hin := (hf _ (gH_mem hlt) _ (List.getElem_mem hkl)).1
          have hnext := ihq (k + 1) (by omega)
          rw [← wrk (by have := hfs.len; omega)] at hnext
          refine impl_allRefs_L2_le (bifT (decide_eq_true (by rw [intsC_len]; omega)) (atNum hkl (callI (i_cellOfWord hin) ?_)))
          unfold cw
          by_cases hp : (gH H c).fs[k] < 1000
          · rw [if_pos hp]
            refine bifF rfl ?_
            rw [take_next hkl, refsN_miss _ hp] at hnext
            exact hnext
          · rw [if_neg hp]
            obtain ⟨j, hj, hr⟩ := ref_step hf ht hlt hkl rfl hp (K := fun l22 => impl_allRefs_L2 l22 (heapC H) (((heapC H).length : Nat) : Int) (c : Int) (intsC (gH H c).fs) (((intsC (gH H c).fs).length : Nat) : Int) (wrapI ((k : Int) + 1))) hnext
            rw [show (gH H c).fs[k] - 1000 = (j : Int) by omega]
            exact bifT (decide_eq_true (by omega)) hr
      have := inner (gH H c).fs.length 0 (by omega)
      rw [List.take_zero, List.append_nil] at this
      exact this
  refine impl_allRefs_le ?_
  rw [heapC_len]
  refine repTo (by omega) ?_
  rw [zeros_refs]
  have := key H.length 0 (by omega)
  rw [heapC_len] at this
  exact this
theorem s_refsOf {H : List HM} (hl : H.length ≤ 1048576) (hi : ∀ m ∈ H, IntsOk m.fs) (hf : FOk H) (ht : (allF H).length ≤ 1048576) : spec_refsOf [.cell (.sl 3 (heapC H))] = oS (intsC (refsN (allF H) H.length)) := by
  have key : ∀ m c : Nat, c + m = H.length → spec_refsOf_L0 (heapC H) (c : Int) (intsC (refsN (preF H c) H.length)) = oS (intsC (refsN (allF H) H.length)) := by
    intro m
    induction m with
    | zero =>
      intro c hc
      rw [show c = H.length by omega, preF_all]
      exact spec_refsOf_L0_le (bifF (decide_eq_false (by rw [heapC_len]; omega)) rfl)
    | succ m ih =>
      intro c hc
      have hlt : c < H.length := by omega
      have hfs := hi _ (gH_mem hlt)
      refine spec_refsOf_L0_le (bifT (decide_eq_true (by rw [heapC_len]; omega)) ?_)
      have inner : ∀ q k : Nat, k + q = (gH H c).fs.length → spec_refsOf_L2 (heapC H) (c : Int) (k : Int) (intsC (refsN (preF H c ++ (gH H c).fs.take k) H.length)) = oS (intsC (refsN (allF H) H.length)) := by
        intro q
        induction q with
        | zero =>
          intro k hk
          refine spec_refsOf_L2_le (atCellH hlt (bifF (decide_eq_false (by rw [intsC_len]; omega)) ?_))
          rw [wrk (by unfold maxI; omega), show k = (gH H c).fs.length by omega, List.take_length, ← preF_succ hlt]
          exact ih (c + 1) (by omega)
        | succ q ihq =>
          intro k hk
          have hkl : k < (gH H c).fs.length := by omega
          have hin := (hf _ (gH_mem hlt) _ (List.getElem_mem hkl)).1
          have hnext := ihq (k + 1) (by omega)
          rw [← wrk (by have := hfs.len; omega)] at hnext
          refine spec_refsOf_L2_le (atCellH hlt (bifT (decide_eq_true (by rw [intsC_len]; omega)) (atCellH hlt (atNum hkl (callB (s_isLive hl hin) ?_)))))
          by_cases hp : (gH H c).fs[k] < 1000
          · refine bifF (by unfold liveW; rw [decide_eq_false (by omega)]; rfl) ?_
            rw [take_next hkl, refsN_miss _ hp] at hnext
            exact hnext
          · obtain ⟨j, hj, hr⟩ := ref_step hf ht hlt hkl rfl hp (K := fun l25 => spec_refsOf_L2 (heapC H) (c : Int) (wrapI ((k : Int) + 1)) l25) hnext
            refine bifT ((hf _ (gH_mem hlt) _ (List.getElem_mem hkl)).2.resolve_left hp) (atCellH hlt (atNum hkl ?_))
            rw [wr (n := (gH H c).fs[k] - 1000) (by omega) (by have := hin.2; omega), show (gH H c).fs[k] - 1000 = (j : Int) by omega]
            exact hr
      have := inner (gH H c).fs.length 0 (by omega)
      rw [List.take_zero, List.append_nil] at this
      exact this
  refine spec_refsOf_le ?_
  rw [heapC_len]
  refine repTo (by omega) ?_
  rw [zeros_refs]
  exact key H.length 0 (by omega)
theorem i_copyInts {xs : List Int} (h : xs.length ≤ 1048576) : impl_copyInts [.cell (.sl 1 (intsC xs))] = oS (intsC xs) := by
  have key : ∀ m k : Nat, k + m = xs.length → impl_copyInts_L0 (intsC (xs.take k)) (intsC xs) (((intsC xs).length : Nat) : Int) (k : Int) = oS (intsC xs) := by
    intro m
    induction m with
    | zero =>
      intro k hk
      rw [show k = xs.length by omega, List.take_length]
      exact impl_copyInts_L0_le (bifF (decide_eq_false (by rw [intsC_len]; omega)) rfl)
    | succ m ih =>
      intro k hk
      have hlt : k < xs.length := by omega
      refine impl_copyInts_L0_le (bifT (decide_eq_true (by rw [intsC_len]; omega)) (atNum hlt (appTo (by rw [intsC_len, List.length_take]; simp; omega) ?_)))
      rw [wrk (by unfold maxI; omega), show intsC (xs.take k) ++ [[AC.int xs[k]]] = intsC (xs.take (k + 1)) by rw [List.take_succ_eq_append_getElem hlt, ← intsC_append]; rfl]
      exact ih (k + 1) (by omega)
  exact impl_copyInts_le (key xs.length 0 (by omega))
end Go.Proofs.Ytnnalagflpmedaa

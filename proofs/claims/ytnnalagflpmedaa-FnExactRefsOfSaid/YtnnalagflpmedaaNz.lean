/- Regions that draw their order do what the values' run says. -/
import Derived.Test.YtnnalagflpmedaaNy
namespace Go.Proofs.Ytnnalagflpmedaa
open Go Go.RowKit
section
variable {P : Program} {L : Lay} {S : Sig} {call : Orc} {all : List Oper}

theorem vopsP_append : ∀ (xs ys : List Oper) (s : VS), vopsP L call all (xs ++ ys) s = (vopsP L call all xs s).bind (vopsP L call all ys)
  | [], ys, s => rfl
  | x :: xs, ys, s => by
    rw [List.cons_append, vopsP_cons, vopsP_cons, Option.bind_assoc]
    congr 1
    funext s1
    exact vopsP_append xs ys s1
theorem stepsSP_append : ∀ (xs ys : List Oper) (b : Nat) (st : Stt), stepsSP L S b (xs ++ ys) st = (stepsSP L S b xs st).bind fun r => stepsSP L S r.1 ys r.2
  | [], ys, b, st => rfl
  | x :: xs, ys, b, st => by
    simp only [List.cons_append, stepsSP, Option.bind_assoc]
    congr 1
    funext st1
    exact stepsSP_append xs ys _ st1

theorem tr_of {tr : List Rec} {s0 sm : VS} {t0 tm : Stt} {b0 : Nat} (k2 : ∀ r ∈ tr, RecOk L S call all r) (hns : ∀ r ∈ tr, isStore r.o = false) (k3 : ∀ r, tr[0]? = some r → r.s = s0 ∧ r.st = t0 ∧ r.base = b0)
    (k4 : ∀ (j : Nat) (r r' : Rec), tr[j]? = some r → tr[j + 1]? = some r' → r'.s = r.s' ∧ r'.st = r.st' ∧ r'.base = r.base + bump L S r.o) (k5 : ∀ r, tr.getLast? = some r → sm = r.s' ∧ tm = r.st') (k6 : tr = [] → sm = s0 ∧ tm = t0) : Tr L S call all tr s0 t0 b0 sm tm :=
  ⟨fun j r hj => ⟨k2 r (List.mem_of_getElem? hj), hns r (List.mem_of_getElem? hj)⟩, k3, k4, fun j r hj hn => by
    refine k5 r ?_
    rw [List.getLast?_eq_getElem?]
    have h1 := (List.getElem?_eq_some_iff.1 hj).1
    have h2 := List.getElem?_eq_none_iff.1 hn
    rw [show tr.length - 1 = j by omega]
    exact hj, k6⟩

theorem stepsSP_nb : ∀ {os : List Oper} {b b' : Nat} {st st' : Stt}, st.nb = [] → stepsSP L S b os st = some (b', st') → st'.nb = []
  | [], _, _, _, _, h, hs => by cases hs; exact h
  | o :: os, b, b', st, st', _, hs => by
    simp only [stepsSP, Option.bind_eq_some_iff] at hs
    obtain ⟨st1, h1, hs⟩ := hs
    refine stepsSP_nb (st := st1) ?_ hs
    unfold stepSP at h1
    split at h1
    · split at h1
      · cases h1
      · split at h1
        · cases h1; rfl
        · cases h1
    · unfold stepV at h1
      split at h1
      case isFalse => cases h1
      simp only [Option.bind_eq_some_iff] at h1
      obtain ⟨E, _, h1⟩ := h1
      split at h1
      · cases h1
      · cases h1; rfl
theorem drawn_ok (hP : P.follows .mixedOrders = true) (hL : LayOk P L) (hC : CallOk P S call) : DrawnOk P L S call drawn := by
  intro Own id oa st st' σ s' p w a Q hdr hv hna hnl hI hQ
  unfold drawn at hdr
  split at hdr
  case isFalse => cases hdr
  rename_i hc
  simp only [Bool.and_eq_true, List.isEmpty_iff] at hc
  obtain ⟨⟨hspe, hnb⟩, hc⟩ := hc
  simp only [Option.map_eq_some_iff] at hdr
  obtain ⟨⟨bm, stz⟩, hsteps, rfl⟩ := hdr
  unfold drawChk at hc
  simp only [Bool.and_eq_true] at hc
  obtain ⟨⟨⟨hany, hedge⟩, hguard⟩, htl⟩ := hc
  have hA := anyChk_ok hany
  have hedge' : ∀ (i : Nat) (o : Oper), oa[i]? = some o → ∀ e ∈ o.after, Region.binds .any e = true → e.on < i := by
    intro i o ho e he hb
    have h1 := List.all_eq_true.1 hedge _ (zipIdx_mem (l := oa.toList) (i := i) (x := o) (by simpa using ho))
    have h2 := List.all_eq_true.1 h1 e (by simpa using he)
    simp only [hb, Bool.not_true, Bool.false_or, decide_eq_true_eq] at h2
    exact h2
  generalize hcore : coreOf oa.toList = core at hany hguard htl hA
  have hns : ∀ o ∈ core, isStore o = false := fun o ho => by
    obtain ⟨i, hi, he⟩ := List.mem_iff_getElem.1 ho
    exact (hA.store i o (by rw [List.getElem?_eq_getElem hi, he])).1
  -- the last one
  have hsplit : core = oa.toList ∨ ∃ o, oa.toList = core ++ [o] ∧ ∀ i, i < core.length → waits o i = true := by
    unfold coreOf at hcore
    split at hcore
    · exact .inl hcore.symm
    · rcases List.eq_nil_or_concat oa.toList with h | ⟨l, o, h⟩
      · left; rw [← hcore, h]; rfl
      · right
        have hl : core = l := by rw [← hcore, h]; simp
        refine ⟨o, by rw [hl]; simpa using h, ?_⟩
        rw [h] at htl
        simp only [Bool.or_eq_true, beq_iff_eq] at htl
        rcases htl with htl | htl
        · rw [hl] at htl; simp at htl
        · simp at htl
          intro i hi
          exact htl i hi
  have hsub : ∀ (i : Nat) (o : Oper), core[i]? = some o → oa.toList[i]? = some o := fun i o hi => by
    rcases hsplit with h | ⟨x, h, _⟩
    · rw [← h]; exact hi
    · rw [h, List.getElem?_append_left (List.getElem?_eq_some_iff.1 hi).1]; exact hi
  have hla : ∀ (i : Nat) (o : Oper) (t : Nat), core[i]? = some o → t ∈ looksAt oa.toList o → t ∈ looksAt core o := fun i o t hi ht => by
    unfold looksAt at ht ⊢
    rcases List.mem_append.1 ht with ht | ht
    · exact List.mem_append_left _ ht
    · refine List.mem_append_right _ ?_
      cases hg : o.guard with
      | none => rw [hg] at ht; exact ht
      | some g =>
        rw [hg] at ht
        simp only at ht ⊢
        have h1 := List.all_eq_true.1 hguard o (List.mem_of_getElem? hi)
        rw [hg] at h1
        simp only [decide_eq_true_eq] at h1
        rw [hsub g.1 core[g.1] (List.getElem?_eq_getElem h1)] at ht
        rw [List.getElem?_eq_getElem h1]
        exact ht
  have hsz : oa.toList.length = oa.size := by simp
  refine wp_region_any hP ?_
  have hI' := hI.drew
  have hcnt : (Array.replicate oa.size false).toList.count false = oa.size := by simp
  -- the run of those that come up in any order
  obtain ⟨sc, stc, bc, hvc, hsc, htail⟩ : ∃ sc stc bc, vopsP L call oa.toList core { σ := σ, pe := [] } = some sc ∧ stepsSP L S (maxId st) core st = some (bc, stc) ∧
      ((core.length = oa.size ∧ sc = s' ∧ stc = stz) ∨ (core.length + 1 = oa.size ∧ ∃ o, oa[core.length]? = some o ∧ (∀ i, i < core.length → waits o i = true) ∧ vopGP L call oa.toList o sc = some s' ∧ stepSP L S bc o stc = some stz)) := by
    rcases hsplit with h | ⟨o, h, hw⟩
    · exact ⟨s', stz, bm, by rw [h]; exact hv, by rw [h]; exact hsteps, .inl ⟨by rw [h, hsz], rfl, rfl⟩⟩
    · have hv' : vopsP L call oa.toList (core ++ [o]) { σ := σ, pe := [] } = some s' := by rw [← h]; exact hv
      have hs' : stepsSP L S (maxId st) (core ++ [o]) st = some (bm, stz) := by rw [← h]; exact hsteps
      rw [vopsP_append] at hv'
      rw [stepsSP_append] at hs'
      simp only [Option.bind_eq_some_iff] at hv' hs'
      obtain ⟨sc, hvc, hv'⟩ := hv'
      obtain ⟨⟨bc, stc⟩, hsc, hs'⟩ := hs'
      rw [vopsP_cons] at hv'
      simp only [Option.bind_eq_some_iff] at hv'
      obtain ⟨s2, hv2, hv'⟩ := hv'
      cases hv'
      simp only [stepsSP, Option.bind_eq_some_iff] at hs'
      obtain ⟨st2, hs2, hs'⟩ := hs'
      cases hs'
      refine ⟨sc, stc, bc, hvc, hsc, .inr ⟨?_, o, ?_, hw, hv2, hs2⟩⟩
      · rw [← hsz, h]; simp
      · have : oa.toList[core.length]? = some o := by rw [h]; simp
        simpa using this
  have hval : ∀ f args r, call f args = some r → isVal r = true := fun f args r h => (hC f args r h).1.1
  obtain ⟨tr, k1, k2, k3, k4, k5, k6, k7, k8, k9, k10, k11⟩ := trace (s := { σ := σ, pe := [] }) trivial hval core (maxId st) bc { σ := σ, pe := [] } sc st stc hns hvc hsc (ids_max st) trivial hI.sonce hI.spe ⟨fun _ _ _ _ _ h => (by cases h), hna, hnl⟩
  have hTr : Tr L S call oa.toList tr { σ := σ, pe := [] } st (maxId st) sc stc := tr_of k2 (fun r hr => hns r.o (by rw [← k1]; exact List.mem_map_of_mem hr)) k3 k4 k5 k6
  have hstart := InvD.start (D := fun i => (Array.replicate oa.size false).getD i false = true) hTr (ids_max st) rfl hI' (fun j hj => by
    rw [Array.getD_eq_getD_getElem?, Array.getElem?_replicate] at hj
    split at hj <;> cases hj)
  refine any_loop hL hC hTr k1 hA hsub hla rfl (ids_max st) hI.len k7 k8 k9 k11 (stepsSP_nb hnb hsc) hedge' k10 htail oa.size _ p _ a (by simp) hcnt (fun _ => by
    rw [Array.getD_eq_getD_getElem?, Array.getElem?_replicate]
    split <;> rfl) hstart fun a' w' p' g1 g2 g3 => ?_
  refine hQ a' w' p' ?_ ((evo_drew Own).trans g2 (fun _ _ h => h) (fun _ _ h => h)) g3
  exact g1.reset

/-- **Whoever calls a function of the table: what the values' run says.** -/
theorem vals_call {E : ExtT} (hP : P.follows .mixedOrders = true) (hL : LayOk P L) (hE : ∀ f e, S.has f = false → E.lookup f = some e → ∀ call, CallOk P S call → CallOk1 P S f (extRun call e)) (hall : ∀ f, S.has f = true → ∃ fn, P.funcs[f]? = some fn ∧ fnOk drawn L S fn (S.sg f) = true) {f : FuncId} {args : List SV} {r : AV} (h : V P L S.has E f args = some r) (ht : (S.sg f).takes = [])
    {p : Nat → Nat} {w : World} {vals : List Value} (hreps : RepSs p w vals args) (hz : Zp p w) :
    Calls P f vals.toArray w fun e w' => ∃ v, e = .returned v ∧ Below w.heap.size w w' ∧ ∃ p', SR p' w' v r ∧ Evo (fun _ => False) p w p' w' ∧ Zp p' w' ∧
      (∀ e ∈ (S.sg f).gives, ∃ u, cellOf w' v e.1 = some u ∧ Rt p' w' u e.2 ∧ ∀ b, blkOf u = some b → w.heap.size ≤ b) :=
  V_calls hL hE hall (fun _ hC => drawn_ok hP hL hC) h ht hreps hz
end
end Go.Proofs.Ytnnalagflpmedaa

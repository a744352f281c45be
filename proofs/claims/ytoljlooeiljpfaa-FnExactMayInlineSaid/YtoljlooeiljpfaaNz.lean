/- Regions that draw their order do what the values' run says. -/
import Derived.Test.YtoljlooeiljpfaaNyc
namespace Go.Proofs.Ytoljlooeiljpfaa
open Go Go.RowKit
section
variable {P : Program} {L : Lay} {S : Sig} {call : Orc} {all : List Oper}

theorem vopsP_append : ∀ (xs ys : List Oper) (s : VS), vopsP L call all (xs ++ ys) s = (vopsP L call all xs s).bind (vopsP L call all ys)
  | [], ys, s => rfl
  | x :: xs, ys, s => by
    rw [List.cons_append, vopsP_cons, vopsP_cons, Option.bind_assoc]
    congr 1
    funext s1
    exact vopsP_append xs ys s1
theorem stepsSP_append : ∀ (xs ys : List Oper) (b : Nat) (st : Stt), stepsSP L S b (xs ++ ys) st = (stepsSP L S b xs st).bind fun r => stepsSP L S r.1 ys r.2
  | [], ys, b, st => rfl
  | x :: xs, ys, b, st => by
    simp only [List.cons_append, stepsSP, Option.bind_assoc]
    congr 1
    funext st1
    exact stepsSP_append xs ys _ st1

theorem tr_of {tr : List Rec} {s0 sm : VS} {t0 tm : Stt} {b0 : Nat} (k2 : ∀ r ∈ tr, RecOk L S call all r) (hns : ∀ r ∈ tr, isStore r.o = false) (k3 : ∀ r, tr[0]? = some r → r.s = s0 ∧ r.st = t0 ∧ r.base = b0)
    (k4 : ∀ (j : Nat) (r r' : Rec), tr[j]? = some r → tr[j + 1]? = some r' → r'.s = r.s' ∧ r'.st = r.st' ∧ r'.base = r.base + bump L S r.o) (k5 : ∀ r, tr.getLast? = some r → sm = r.s' ∧ tm = r.st') (k6 : tr = [] → sm = s0 ∧ tm = t0) : Tr L S call all tr s0 t0 b0 sm tm :=
  ⟨fun j r hj => ⟨k2 r (List.mem_of_getElem? hj), hns r (List.mem_of_getElem? hj)⟩, k3, k4, fun j r hj hn => by
    refine k5 r ?_
    rw [List.getLast?_eq_getElem?]
    have h1 := (List.getElem?_eq_some_iff.1 hj).1
    have h2 := List.getElem?_eq_none_iff.1 hn
    rw [show tr.length - 1 = j by omega]
    exact hj, k6⟩

theorem stepsSP_nb : ∀ {os : List Oper} {b b' : Nat} {st st' : Stt}, st.nb = [] → stepsSP L S b os st = some (b', st') → st'.nb = []
  | [], _, _, _, _, h, hs => by cases hs; exact h
  | o :: os, b, b', st, st', _, hs => by
    simp only [stepsSP, Option.bind_eq_some_iff] at hs
    obtain ⟨st1, h1, hs⟩ := hs
    refine stepsSP_nb (st := st1) ?_ hs
    unfold stepSP at h1
    split at h1
    · split at h1
      · cases h1
      · split at h1
        · cases h1; rfl
        · cases h1
    · unfold stepV at h1
      split at h1
      case isFalse => cases h1
      simp only [Option.bind_eq_some_iff] at h1
      obtain ⟨E, _, h1⟩ := h1
      split at h1
      · cases h1
      · cases h1; rfl
theorem drawnP_ok (hP : P.follows .mixedOrders = true) (hL : LayOk P L) (hC : CallOk P S call) (Own : Nat → Prop) (id : Nat) (oa : Array Oper) (st st' : Stt) (σ : List AV) (s' : VS) (p : Nat → Nat) (w : World) (a : Act) (Q : Exit → Act → World → Prop) (hdr : drawnP L S oa st = some st') (hv : vopsP L call oa.toList oa.toList { σ := σ, pe := [] } = some s')
    (hna : ∀ t k r, VS.get { σ := σ, pe := [] } t ≠ .arr k r) (hnl : ∀ t d, VS.get { σ := σ, pe := [] } t = .al d → d = noHome) (hI : Inv st p w a.tmps { σ := σ, pe := [] } Own)
    (hQ : ∀ a' w' p', Inv st' p' w' a'.tmps { σ := s'.σ, pe := [] } Own → Evo Own p w p' w' → a'.defers = a.defers → Q .normal a' w') : (Code.region id oa true).wp P Q a w := by
  unfold drawnP at hdr
  split at hdr
  case isFalse => cases hdr
  rename_i hc
  simp only [Bool.and_eq_true, List.isEmpty_iff] at hc
  obtain ⟨⟨hspe, hnb⟩, hc⟩ := hc
  simp only [Option.map_eq_some_iff] at hdr
  obtain ⟨⟨bm, stz⟩, hsteps, rfl⟩ := hdr
  unfold drawChk at hc
  simp only [Bool.and_eq_true] at hc
  obtain ⟨⟨⟨hany, hedge⟩, hguard⟩, htl⟩ := hc
  have hA := anyChk_ok hany
  have hedge' : ∀ (i : Nat) (o : Oper), oa[i]? = some o → ∀ e ∈ o.after, Region.binds .any e = true → e.on < i := by
    intro i o ho e he hb
    have h1 := List.all_eq_true.1 hedge _ (zipIdx_mem (l := oa.toList) (i := i) (x := o) (by simpa using ho))
    have h2 := List.all_eq_true.1 h1 e (by simpa using he)
    simp only [hb, Bool.not_true, Bool.false_or, decide_eq_true_eq] at h2
    exact h2
  generalize hcore : coreOf oa.toList = core at hany hguard htl hA
  have hns : ∀ o ∈ core, isStore o = false := fun o ho => by
    obtain ⟨i, hi, he⟩ := List.mem_iff_getElem.1 ho
    exact (hA.store i o (by rw [List.getElem?_eq_getElem hi, he])).1
  -- the last one
  have hsplit : core = oa.toList ∨ ∃ o, oa.toList = core ++ [o] ∧ ∀ i, i < core.length → waits o i = true := by
    unfold coreOf at hcore
    split at hcore
    · exact .inl hcore.symm
    · rcases List.eq_nil_or_concat oa.toList with h | ⟨l, o, h⟩
      · left; rw [← hcore, h]; rfl
      · right
        have hl : core = l := by rw [← hcore, h]; simp
        refine ⟨o, by rw [hl]; simpa using h, ?_⟩
        rw [h] at htl
        simp only [Bool.or_eq_true, beq_iff_eq] at htl
        rcases htl with htl | htl
        · rw [hl] at htl; simp at htl
        · simp at htl
          intro i hi
          exact htl i hi
  have hsub : ∀ (i : Nat) (o : Oper), core[i]? = some o → oa.toList[i]? = some o := fun i o hi => by
    rcases hsplit with h | ⟨x, h, _⟩
    · rw [← h]; exact hi
    · rw [h, List.getElem?_append_left (List.getElem?_eq_some_iff.1 hi).1]; exact hi
  have hla : ∀ (i : Nat) (o : Oper) (t : Nat), core[i]? = some o → t ∈ looksAt oa.toList o → t ∈ looksAt core o := fun i o t hi ht => by
    unfold looksAt at ht ⊢
    rcases List.mem_append.1 ht with ht | ht
    · exact List.mem_append_left _ ht
    · refine List.mem_append_right _ ?_
      cases hg : o.guard with
      | none => rw [hg] at ht; exact ht
      | some g =>
        rw [hg] at ht
        simp only at ht ⊢
        have h1 := List.all_eq_true.1 hguard o (List.mem_of_getElem? hi)
        rw [hg] at h1
        simp only [decide_eq_true_eq] at h1
        rw [hsub g.1 core[g.1] (List.getElem?_eq_getElem h1)] at ht
        rw [List.getElem?_eq_getElem h1]
        exact ht
  have hsz : oa.toList.length = oa.size := by simp
  refine wp_region_any hP ?_
  have hI' := hI.drew
  have hcnt : (Array.replicate oa.size false).toList.count false = oa.size := by simp
  -- the run of those that come up in any order
  obtain ⟨sc, stc, bc, hvc, hsc, htail⟩ : ∃ sc stc bc, vopsP L call oa.toList core { σ := σ, pe := [] } = some sc ∧ stepsSP L S (maxId st) core st = some (bc, stc) ∧
      ((core.length = oa.size ∧ sc = s' ∧ stc = stz) ∨ (core.length + 1 = oa.size ∧ ∃ o, oa[core.length]? = some o ∧ (∀ i, i < core.length → waits o i = true) ∧ vopGP L call oa.toList o sc = some s' ∧ stepSP L S bc o stc = some stz)) := by
    rcases hsplit with h | ⟨o, h, hw⟩
    · exact ⟨s', stz, bm, by rw [h]; exact hv, by rw [h]; exact hsteps, .inl ⟨by rw [h, hsz], rfl, rfl⟩⟩
    · have hv' : vopsP L call oa.toList (core ++ [o]) { σ := σ, pe := [] } = some s' := by rw [← h]; exact hv
      have hs' : stepsSP L S (maxId st) (core ++ [o]) st = some (bm, stz) := by rw [← h]; exact hsteps
      rw [vopsP_append] at hv'
      rw [stepsSP_append] at hs'
      simp only [Option.bind_eq_some_iff] at hv' hs'
      obtain ⟨sc, hvc, hv'⟩ := hv'
      obtain ⟨⟨bc, stc⟩, hsc, hs'⟩ := hs'
      rw [vopsP_cons] at hv'
      simp only [Option.bind_eq_some_iff] at hv'
      obtain ⟨s2, hv2, hv'⟩ := hv'
      cases hv'
      simp only [stepsSP, Option.bind_eq_some_iff] at hs'
      obtain ⟨st2, hs2, hs'⟩ := hs'
      cases hs'
      refine ⟨sc, stc, bc, hvc, hsc, .inr ⟨?_, o, ?_, hw, hv2, hs2⟩⟩
      · rw [← hsz, h]; simp
      · have : oa.toList[core.length]? = some o := by rw [h]; simp
        simpa using this
  have hval : ∀ f args r, call f args = some r → isVal r = true := fun f args r h => (hC f args r h).1.1
  obtain ⟨tr, k1, k2, k3, k4, k5, k6, k7, k8, k9, k10, k11⟩ := trace (s := { σ := σ, pe := [] }) trivial hval core (maxId st) bc { σ := σ, pe := [] } sc st stc hns hvc hsc (ids_max st) trivial hI.sonce hI.spe ⟨fun _ _ _ _ _ h => (by cases h), hna, hnl⟩
  have hTr : Tr L S call oa.toList tr { σ := σ, pe := [] } st (maxId st) sc stc := tr_of k2 (fun r hr => hns r.o (by rw [← k1]; exact List.mem_map_of_mem hr)) k3 k4 k5 k6
  have hstart := InvD.start (D := fun i => (Array.replicate oa.size false).getD i false = true) hTr (ids_max st) rfl hI' (fun j hj => by
    rw [Array.getD_eq_getD_getElem?, Array.getElem?_replicate] at hj
    split at hj <;> cases hj)
  refine any_loop hL hC hTr k1 hA hsub hla rfl (ids_max st) hI.len k7 k8 k9 k11 (stepsSP_nb hnb hsc) hedge' k10 htail oa.size _ p _ a (by simp) hcnt (fun _ => by
    rw [Array.getD_eq_getD_getElem?, Array.getElem?_replicate]
    split <;> rfl) hstart fun a' w' p' g1 g2 g3 => ?_
  refine hQ a' w' p' ?_ ((evo_drew Own).trans g2 (fun _ _ h => h) (fun _ _ h => h)) g3
  exact g1.reset

theorem drawnR_ok (hP : P.follows .mixedOrders = true) (hL : LayOk P L) (hC : CallOk P S call) (Own : Nat → Prop) (id : Nat) (oa : Array Oper) (st st' : Stt) (σ : List AV) (s1 s3 : VS) (σ2 : List AV) (p : Nat → Nat) (w : World) (a : Act) (Q : Exit → Act → World → Prop) (hdr : drawnR L S oa st = some st')
    (hv1 : vopsP L call oa.toList (oa.toList.take (coreN oa.toList)) { σ := view σ, pe := [] } = some s1) (hb : backL (backAV (L.rows oa.toList) (oa.toList.take (coreN oa.toList)) σ s1) 0 σ = some σ2) (hv3 : vops L call oa.toList (oa.toList.drop (coreN oa.toList)) { σ := σ2, pe := [] } = some s3) (hI : Inv st p w a.tmps { σ := σ, pe := [] } Own)
    (hQ : ∀ a' w' p', Inv st' p' w' a'.tmps { σ := s3.σ, pe := [] } Own → Evo Own p w p' w' → a'.defers = a.defers → Q .normal a' w') : (Code.region id oa true).wp P Q a w := by
  unfold drawnR at hdr
  split at hdr
  case isFalse => cases hdr
  rename_i hc
  simp only [Bool.and_eq_true, List.isEmpty_iff] at hc
  obtain ⟨⟨⟨⟨hspe, hnb⟩, hc⟩, hno⟩, heats⟩ := hc
  have hno := Nat.le_of_ble_eq_true hno
  have hnle : coreN oa.toList ≤ oa.size := by
    unfold coreN
    split
    · have : oa.toList.length = oa.size := by simp
      omega
    · simp
  generalize hn : coreN oa.toList = n at *
  generalize hcore : oa.toList.take n = core at *
  have hcl : core.length = n := by rw [← hcore]; simp; omega
  simp only [Option.bind_eq_some_iff] at hdr
  obtain ⟨⟨bc, stc⟩, hsc, hdr⟩ := hdr
  split at hdr
  case isFalse => cases hdr
  rename_i hmo
  simp only [Option.map_eq_some_iff] at hdr
  obtain ⟨⟨bz, stz⟩, hst3, rfl⟩ := hdr
  unfold drawChkR at hc
  rw [hn, hcore] at hc
  simp only [Bool.and_eq_true] at hc
  obtain ⟨⟨⟨hany, hedge⟩, hguard⟩, htl⟩ := hc
  have hA := anyChk_ok hany
  have hedge' : ∀ (i : Nat) (o : Oper), oa[i]? = some o → ∀ e ∈ o.after, Region.binds .any e = true → e.on < i := by
    intro i o ho e he hb
    have h1 := List.all_eq_true.1 hedge _ (zipIdx_mem (l := oa.toList) (i := i) (x := o) (by simpa using ho))
    have h2 := List.all_eq_true.1 h1 e (by simpa using he)
    simp only [hb, Bool.not_true, Bool.false_or, decide_eq_true_eq] at h2
    exact h2
  have hwt : ∀ (i : Nat) (o : Oper), n ≤ i → oa[i]? = some o → ∀ k, k < i → waits o k = true := by
    intro i o hi ho k hk
    have h1 := List.all_eq_true.1 htl _ (zipIdx_mem (l := oa.toList) (i := i) (x := o) (by simpa using ho))
    simp only [Bool.or_eq_true, decide_eq_true_eq, List.all_eq_true, List.mem_range] at h1
    rcases h1 with h1 | h1
    · omega
    · exact h1 k hk
  have hns : ∀ o ∈ core, isStore o = false := fun o ho => by
    obtain ⟨i, hi, he⟩ := List.mem_iff_getElem.1 ho
    exact (hA.store i o (by rw [List.getElem?_eq_getElem hi, he])).1
  have hsub : ∀ (i : Nat) (o : Oper), core[i]? = some o → oa.toList[i]? = some o := fun i o hi => by
    have := (List.getElem?_eq_some_iff.1 hi).1
    rw [← hcore, List.getElem?_take_of_lt (by omega)] at hi
    exact hi
  have hla : ∀ (i : Nat) (o : Oper) (t : Nat), core[i]? = some o → t ∈ looksAt oa.toList o → t ∈ looksAt core o := fun i o t hi ht => by
    unfold looksAt at ht ⊢
    rcases List.mem_append.1 ht with ht | ht
    · exact List.mem_append_left _ ht
    · refine List.mem_append_right _ ?_
      cases hg : o.guard with
      | none => rw [hg] at ht; exact ht
      | some g =>
        rw [hg] at ht
        simp only at ht ⊢
        have h1 := List.all_eq_true.1 hguard o (List.mem_of_getElem? hi)
        rw [hg] at h1
        simp only [decide_eq_true_eq] at h1
        rw [hsub g.1 core[g.1] (List.getElem?_eq_getElem h1)] at ht
        rw [List.getElem?_eq_getElem h1]
        exact ht
  refine wp_region_any hP ?_
  have hI' := hI.drew
  have hV := hI'.viewed
  have hcnt : (Array.replicate oa.size false).toList.count false = oa.size := by simp
  have hval : ∀ f args r, call f args = some r → isVal r = true := fun f args r h => (hC f args r h).1.1
  generalize ht0 : ({ pid := st.pid, alive := [], spe := [], len := st.len, made := st.made } : Stt) = t0 at hsc hV
  have ht0s : t0.spe = [] := by rw [← ht0]
  have ht0n : t0.nb = [] := by rw [← ht0]
  have hnr : NoRow { σ := view σ, pe := [] } := ⟨fun _ _ _ _ _ h => (by cases h), fun t k r => by rw [view_get]; exact (view_norow _ _).1 k r, fun t d h => by rw [view_get] at h; exact (view_norow _ _).2 d h⟩
  obtain ⟨tr, k1, k2, k3, k4, k5, k6, k7, k8, k9, k10, k11⟩ := trace (s := { σ := view σ, pe := [] }) trivial hval core (maxId t0) bc { σ := view σ, pe := [] } s1 t0 stc hns hv1 hsc (ids_max t0) trivial (by rw [ht0s]; trivial) (by rw [ht0s]; exact ⟨fun _ _ => rfl, fun _ _ _ h => by cases h⟩) hnr
  have hmem : ∀ (j : Nat) (r : Rec), tr[j]? = some r → r.o ∈ core := fun j r hr => by rw [← k1]; exact List.mem_map_of_mem (List.mem_of_getElem? hr)
  have hTr : Tr L S call oa.toList tr { σ := view σ, pe := [] } t0 (maxId t0) s1 stc := tr_of k2 (fun r hr => hns r.o (by rw [← k1]; exact List.mem_map_of_mem hr)) k3 k4 k5 k6
  have hstart := InvD.start (D := fun i => (Array.replicate oa.size false).getD i false = true) hTr (ids_max t0) rfl hV (fun j hj => by
    rw [Array.getD_eq_getD_getElem?, Array.getElem?_replicate] at hj
    split at hj <;> cases hj)
  have htrl : tr.length = core.length := by rw [← k1]; simp
  refine any_core hL hC hTr k1 hA hsub hla rfl (ids_max t0) hV.len k11 hedge' (by omega) (fun i o hi ho k hk => hwt i o (by omega) ho k (by omega)) (fun j r hr => ?_) oa.size _ _ _ a (by simp) hcnt (fun i _ => by
    rw [Array.getD_eq_getD_getElem?, Array.getElem?_replicate]
    split <;> rfl) hstart fun fuel listed p' w' a' g1 g2 g3 g4 g5 g6 g7 => ?_
  · have := List.all_eq_true.1 heats r.o (hmem j r hr)
    exact List.isEmpty_iff.1 this
  have hfull := g4.full hTr (ids_max t0) hV.len k7 k8 k9 k11 (stepsSP_nb ht0n hsc) (fun j r hj => (g3 j).2 (by have := (List.getElem?_eq_some_iff.1 hj).1; omega))
  have hl1 : s1.σ.length = σ.length := by
    have := hTr.len tr.length (Nat.le_refl _)
    rw [at_end (Nat.le_refl _)] at this
    simpa [view] using this.1
  have hmid := inv_mid (H := L.rows oa.toList) (core := core) hI' g5 hfull.zp hfull hl1 (fun t ht => g6 t fun j r hr => writes_not ht r.o (hmem j r hr)) hb hno (fun o ho d z hm hg => by
    have := List.all_eq_true.1 hmo o ho
    rw [hm, hg] at this
    simp only [Option.isSome_none, Bool.false_or, Bool.and_eq_true, Bool.not_eq_true'] at this
    obtain ⟨h1, h2⟩ := this
    split at h1
    · rename_i i j hi hj
      rw [← Nat.eq_of_beq_eq_true h1] at hj
      exact ⟨⟨i, mem_of_lookup' hi, mem_of_lookup' hj⟩, h2⟩
    · cases h1)
  refine any_tail hL hC hedge' _ n rfl hwt fuel listed _ w' a' { σ := σ2, pe := [] } _ _ g1 g2 (fun i => by rw [g3 i, hcl]) hnle hmid (ids_max _) hv3 hst3 fun a2 w2 p2 h1 h2 h3 => hQ a2 w2 p2 h1.reset ?_ (h3.trans g7)
  exact ((evo_drew Own).trans ((evo_low hI' g5).weaken (C := Own) (fun _ _ h => h.elim)) (fun _ _ h => h) (fun _ _ h => h)).trans h2 (fun _ _ h => h) (fun _ _ h => h)
theorem drawn_ok (hP : P.follows .mixedOrders = true) (hL : LayOk P L) (hC : CallOk P S call) : DrawnOk P L S call drawn := by
  intro Own id oa st st' σ σ' p w a Q hdr hv hI hQ
  unfold drawn at hdr
  unfold vdraw at hv
  split at hdr
  · rename_i hr
    rw [if_pos hr] at hv
    simp only [Option.bind_eq_some_iff, Option.map_eq_some_iff] at hv
    obtain ⟨s1, h1, s2, h2, s3, h3, rfl⟩ := hv
    exact drawnR_ok hP hL hC Own id oa st st' σ s1 s3 s2 p w a Q hdr h1 h2 h3 hI hQ
  · rename_i hr
    rw [if_neg hr] at hv
    simp only [Option.map_eq_some_iff] at hv
    obtain ⟨s1, h1, rfl⟩ := hv
    exact drawnP_ok hP hL hC Own id oa st st' (mask σ) s1 p w a Q hdr h1 (mask_arr σ) (mask_al σ) hI.masked hQ

/-- **Whoever calls a function of the table: what the values' run says.** -/
theorem vals_call {E : ExtT} (hP : P.follows .mixedOrders = true) (hL : LayOk P L) (hE : ∀ f e, S.has f = false → E.lookup f = some e → ∀ call, CallOk P S call → CallOk1 P S f (extRun call e)) (hall : ∀ f, S.has f = true → ∃ fn, P.funcs[f]? = some fn ∧ fnOk drawn L S fn (S.sg f) = true) {f : FuncId} {args : List SV} {r : AV} (h : V P L S.has E f args = some r) (ht : (S.sg f).takes = [])
    {p : Nat → Nat} {w : World} {vals : List Value} (hreps : RepSs p w vals args) (hz : Zp p w) :
    Calls P f vals.toArray w fun e w' => ∃ v, e = .returned v ∧ Below w.heap.size w w' ∧ ∃ p', SR p' w' v r ∧ Evo (fun _ => False) p w p' w' ∧ Zp p' w' ∧
      (∀ e ∈ (S.sg f).gives, ∃ u, cellOf w' v e.1 = some u ∧ Rt p' w' u e.2 ∧ ∀ b, blkOf u = some b → w.heap.size ≤ b) :=
  V_calls hL hE hall (fun _ hC => drawn_ok hP hL hC) h ht hreps hz
end
end Go.Proofs.Ytoljlooeiljpfaa

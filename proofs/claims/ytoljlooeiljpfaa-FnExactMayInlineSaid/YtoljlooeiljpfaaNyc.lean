/- Behind the operations in any order: the rows are as they were. -/
import Derived.Test.YtoljlooeiljpfaaNyb
namespace Go.Proofs.Ytoljlooeiljpfaa
open Go Go.RowKit
section
variable {P : Program} {L : Lay} {S : Sig} {call : Orc} {sm : VS} {tm st st' : Stt} {Own : Nat → Prop} {p p' : Nat → Nat} {w w' : World} {a a' : Act} {σ σ2 : List AV} {H : List Nat}

def writes (core : List Oper) (t : Nat) : Bool := core.any (dstIs t)
theorem writes_not {core : List Oper} {t : Nat} (h : writes core t = false) : ∀ o ∈ core, o.dst ≠ some t := by
  intro o ho hd
  unfold writes at h
  rw [List.any_eq_false] at h
  have := h o ho
  unfold dstIs at this
  rw [hd] at this
  simp at this
theorem backL_get {f : Nat → AV → Option AV} : ∀ {l l2 : List AV} {n : Nat}, backL f n l = some l2 → l2.length = l.length ∧ ∀ i x, l[i]? = some x → ∃ y, l2[i]? = some y ∧ f (n + i) x = some y
  | [], l2, n, h => by cases h; exact ⟨rfl, fun i x hx => by simp at hx⟩
  | z :: l, l2, n, h => by
    simp only [backL, Option.bind_eq_some_iff, Option.map_eq_some_iff] at h
    obtain ⟨y, h1, ys, h2, rfl⟩ := h
    obtain ⟨h3, h4⟩ := backL_get h2
    refine ⟨by simp [h3], fun i x hx => ?_⟩
    cases i with
    | zero => simp at hx; subst hx; exact ⟨y, rfl, h1⟩
    | succ i =>
      obtain ⟨u, g1, g2⟩ := h4 i x (by simpa using hx)
      exact ⟨u, by simpa using g1, by rw [show n + (i + 1) = n + 1 + i by omega]; exact g2⟩

/-- What a slot is taken for. -/
inductive Bk (H : List Nat) (core : List Oper) (σ : List AV) (sm : VS) (t : Nat) : AV → Prop
  | old (h : writes core t = false) : Bk H core σ sm t (σ.getD t .und)
  | flat (c : AC) (h : sm.get t = .v (.cell c)) (hc : flatC c = true) : Bk H core σ sm t (.v (.cell c))
  | lost (k : Nat) (r : List (List AC)) (h : sm.get t = .v (.cell (.sl k r))) : Bk H core σ sm t (.al noHome)
  | und (h : sm.get t = .und) : Bk H core σ sm t .und
  | name (z e k : Nat) (r : List (List AC)) (k' : Nat) (r' : List (List AC)) (o : Oper) (ho : o ∈ core) (hm : rowMove H o = some (t, z)) (hg : o.guard = none) (hz : arrAt { σ := σ, pe := [] } z = some (e, k, r)) (h : sm.get t = .v (.cell (.sl k' r'))) : Bk H core σ sm t (.al e)
  | out (h : σ.length ≤ t) : Bk H core σ sm t .und
theorem rowMove_dst {o : Oper} {d z : Nat} (h : rowMove H o = some (d, z)) : o.dst = some d ∧ o.op = .move (.tmp z) := by
  unfold rowMove at h
  split at h
  · split at h
    · cases h
      rename_i h1 h2 _
      exact ⟨h1, h2⟩
    · cases h
  · cases h
theorem back_is {core : List Oper} (h : backL (backAV H core σ sm) 0 σ = some σ2) (t : Nat) : Bk H core σ sm t (σ2.getD t .und) := by
  obtain ⟨hl, hg⟩ := backL_get h
  rcases Nat.lt_or_ge t σ.length with ht | ht
  · obtain ⟨y, hy, hf⟩ := hg t σ[t] (List.getElem?_eq_getElem ht)
    rw [Nat.zero_add] at hf
    rw [show σ2.getD t .und = y by simp [List.getD, hy]]
    unfold backAV at hf
    split at hf
    · rename_i hfind
      cases hf
      have hw : writes core t = false := by
        unfold writes
        rw [List.any_eq_false]
        intro o ho
        simpa using List.find?_eq_none.1 hfind o ho
      have := Bk.old (H := H) (σ := σ) (sm := sm) hw
      rwa [show σ.getD t .und = σ[t] by simp [List.getD, ht]] at this
    · rename_i o hfind
      have ho := List.mem_of_find?_eq_some hfind
      have hd : o.dst = some t := by
        have := List.find?_some hfind
        unfold dstIs at this
        split at this
        · rename_i d hd
          rw [hd, Nat.eq_of_beq_eq_true this]
        · cases this
      have plain : (match sm.get t with
          | .v (.cell c) => if flatC c then some (.v (.cell c)) else some (.al noHome)
          | .und => some .und
          | _ => none) = some y → Bk H core σ sm t y := fun hf => by
        split at hf
        · rename_i c hc
          split at hf
          · rename_i hcf
            cases hf
            exact .flat c hc hcf
          · rename_i hcf
            cases hf
            cases c with
            | sl k r => exact .lost k r hc
            | int n => exact absurd rfl hcf
            | bool n => exact absurd rfl hcf
        · rename_i hu
          cases hf
          exact .und hu
        · cases hf
      split at hf
      · rename_i d z hm hgd
        split at hf
        · rename_i e k r k' r' hz hs
          cases hf
          have := (rowMove_dst hm).1
          rw [hd] at this
          cases this
          exact .name z e k r k' r' o ho hm hgd hz hs
        · cases hf
      · exact plain hf
  · rw [show σ2.getD t .und = .und by simp [List.getD, List.getElem?_eq_none (show σ2.length ≤ t by omega)]]
    exact .out ht

theorem evo_low (hI : Inv st p w a.tmps { σ := σ, pe := [] } Own) (hev : Evo (fun _ => False) (raiseP p a.tmps { σ := σ, pe := [] }) w p' w') : Evo (fun _ => False) p w (dropP p' a.tmps { σ := σ, pe := [] }) w' := by
  have hdp : ∀ b, ¬ (∃ n, TopOf a.tmps { σ := σ, pe := [] } b n) → dropP p' a.tmps { σ := σ, pe := [] } b = p' b := fun b h => by unfold dropP; rw [if_neg h]
  have hdz : ∀ b, (∃ n, TopOf a.tmps { σ := σ, pe := [] } b n) → dropP p' a.tmps { σ := σ, pe := [] } b = 0 := fun b h => by unfold dropP; rw [if_pos h]
  exact ⟨hev.os, hev.tape, hev.output, hev.size, hev.block, fun b hb => by
      by_cases h : ∃ n, TopOf a.tmps { σ := σ, pe := [] } b n
      · obtain ⟨n, hn⟩ := h
        rw [(top_lt hI hn).1]
        exact Nat.zero_le _
      · rw [hdp b h, ← raise_not (p := p) h]
        exact hev.keepP b hb, fun b hb _ => by
      by_cases h : ∃ n, TopOf a.tmps { σ := σ, pe := [] } b n
      · rw [hdz b h]
        obtain ⟨n, hn⟩ := h
        exact (top_lt hI hn).1.symm
      · rw [hdp b h, ← raise_not (p := p) h]
        exact hev.same b hb (fun h => h), fun b o hb ho => hev.stable b o hb (Nat.lt_of_lt_of_le ho ((raise_evo hI).keepP b hb))⟩
theorem inv_mid {core : List Oper} (hI : Inv st p w a.tmps { σ := σ, pe := [] } Own) (hev : Evo (fun _ => False) (raiseP p a.tmps { σ := σ, pe := [] }) w p' w') (hz : Zp p' w') (hc : Inv tm p' w' a'.tmps sm Own) (hlen : sm.σ.length = σ.length)
    (hkeep : ∀ t, writes core t = false → a'.tmps.getD t undef = a.tmps.getD t undef) (hback : backL (backAV H core σ sm) 0 σ = some σ2) (hno : st.len ≤ noHome)
    (hmv : ∀ o ∈ core, ∀ d z, rowMove H o = some (d, z) → o.guard = none → (∃ id, ((d, 0), id) ∈ tm.pid ∧ ((z, 0), id) ∈ tm.pid) ∧ writes core z = false) :
    Inv { pid := st.pid.filter (fun e => !writes core e.1.1), alive := st.alive, spe := [], len := st.len, made := st.made } (dropP p' a.tmps { σ := σ, pe := [] }) w' a'.tmps { σ := σ2, pe := [] } Own := by
  obtain ⟨val, hR⟩ := hI.rooms
  have hdp : ∀ b, ¬ (∃ n, TopOf a.tmps { σ := σ, pe := [] } b n) → dropP p' a.tmps { σ := σ, pe := [] } b = p' b := fun b h => by unfold dropP; rw [if_neg h]
  have hdz : ∀ b, (∃ n, TopOf a.tmps { σ := σ, pe := [] } b n) → dropP p' a.tmps { σ := σ, pe := [] } b = 0 := fun b h => by unfold dropP; rw [if_pos h]
  have hev' := evo_low hI hev
  generalize hq : dropP p' a.tmps { σ := σ, pe := [] } = q at hev'
  have hzq : Zp q w' := fun b hb => by
    rw [← hq]
    by_cases h : ∃ n, TopOf a.tmps { σ := σ, pe := [] } b n
    · exact hdz b h
    · rw [hdp b h]; exact hz b hb
  have hl2 : σ2.length = σ.length := (backL_get hback).1
  have hbk : ∀ t, Bk H core σ sm t (VS.get { σ := σ2, pe := [] } t) := fun t => back_is hback t
  have hsame : ∀ b, b < w.heap.size → q b = p b := fun b hb => hev'.same b hb (fun h => h)
  have hsl : ∀ t k r, sm.get t = .v (.cell (.sl k r)) → ∃ A l c, a'.tmps.getD t undef = .slice A l c := fun t k r h => by
    have hs := (hc.slots t).1
    rw [h] at hs
    have hs : Rep p' w' (a'.tmps.getD t undef) (.sl k r) := hs
    generalize a'.tmps.getD t undef = v at hs
    cases hs with
    | nil A k => exact ⟨A, 0, 0, rfl⟩
    | sl b o cap k rows f hk hrows hb hp hcap hcl hr => exact ⟨_, _, _, rfl⟩
  have hname : ∀ t z e k r k' r' o, o ∈ core → rowMove H o = some (t, z) → o.guard = none → arrAt { σ := σ, pe := [] } z = some (e, k, r) → sm.get t = .v (.cell (.sl k' r')) → a'.tmps.getD t undef = a.tmps.getD e undef ∧ VS.get { σ := σ, pe := [] } e = .arr k r := fun t z e k r k' r' o ho hm hg hzz hs => by
    obtain ⟨⟨id, h1, h2⟩, h3⟩ := hmv o ho t z hm hg
    obtain ⟨_, _, hd, _⟩ := arrO_is (s := { σ := σ, pe := [] }) (x := .tmp z) hzz
    have hze := (arr_val hI (x := .tmp z) hzz).1
    refine ⟨?_, hd⟩
    have hze : a.tmps.getD z undef = a.tmps.getD e undef := hze
    obtain ⟨val', hR'⟩ := hc.rooms
    have p1 := (hR'.place _ _ h1).1
    have p2 := (hR'.place _ _ h2).1
    simp only at p1 p2
    rw [hkeep z h3, hze] at p2
    obtain ⟨A, l, c, ev⟩ := hsl t k' r' hs
    have hsz := (hI.slots e).1
    rw [hd] at hsz
    have e2 : ∃ A l c, a.tmps.getD e undef = .slice A l c := by
      rcases hsz.2.2 with ⟨e, _⟩ | ⟨_, _, _, _, _, _, e, _⟩
      · exact ⟨_, _, _, e⟩
      · exact ⟨_, _, _, e⟩
    obtain ⟨A2, l2, c2, e2⟩ := e2
    rw [ev] at p1 ⊢
    rw [e2] at p2 ⊢
    have p1 : some (Value.slice A l c) = some (val' id) := p1
    have p2 : some (Value.slice A2 l2 c2) = some (val' id) := p2
    rw [← p2] at p1
    exact Option.some.inj p1
  have hbox : ∀ d cs, VS.get { σ := σ2, pe := [] } d = .box cs → VS.get { σ := σ, pe := [] } d = .box cs ∧ a'.tmps.getD d undef = a.tmps.getD d undef := fun d cs hd => by
    have h := hbk d
    generalize VS.get { σ := σ2, pe := [] } d = x at h hd
    subst hd
    generalize hx : AV.box cs = x at h
    cases h with
    | old h => exact ⟨by first | rfl | exact hx.symm, hkeep d h⟩
    | flat c h hc => cases hx
    | lost k r h => cases hx
    | und h => cases hx
    | name z e k r k' r' o ho hm hg hz h => cases hx
    | out h => cases hx
  have harr : ∀ d k r, VS.get { σ := σ2, pe := [] } d = .arr k r → VS.get { σ := σ, pe := [] } d = .arr k r ∧ a'.tmps.getD d undef = a.tmps.getD d undef := fun d k r hd => by
    have h := hbk d
    generalize VS.get { σ := σ2, pe := [] } d = x at h hd
    subst hd
    generalize hx : AV.arr k r = x at h
    cases h with
    | old h => exact ⟨by first | rfl | exact hx.symm, hkeep d h⟩
    | flat c h hc => cases hx
    | lost k r h => cases hx
    | und h => cases hx
    | name z e k r k' r' o ho hm hg hz h => cases hx
    | out h => cases hx
  have hal : ∀ t d, VS.get { σ := σ2, pe := [] } t = .al d → (VS.get { σ := σ, pe := [] } t = .al d ∧ a'.tmps.getD t undef = a.tmps.getD t undef) ∨ d = noHome ∨ (a'.tmps.getD t undef = a.tmps.getD d undef ∧ ∃ k r, VS.get { σ := σ, pe := [] } d = .arr k r) := fun t d hd => by
    have h := hbk t
    generalize VS.get { σ := σ2, pe := [] } t = x at h hd
    subst hd
    generalize hx : AV.al d = x at h
    cases h with
    | old h => exact .inl ⟨by first | rfl | exact hx.symm, hkeep t h⟩
    | flat c h hc => cases hx
    | lost k r h => cases hx; exact .inr (.inl rfl)
    | und h => cases hx
    | name z e k r k' r' o ho hm hg hz h =>
      cases hx
      obtain ⟨h1, h2⟩ := hname t z d k r k' r' o ho hm hg hz h
      exact .inr (.inr ⟨h1, k, r, h2⟩)
    | out h => cases hx
  have hnohome : ∀ k r, VS.get { σ := σ, pe := [] } noHome ≠ .arr k r := fun k r h => by
    have : σ.length ≤ noHome := by have := hI.len; simp only at this; omega
    simp only [VS.get, List.getD, List.getElem?_eq_none this] at h
    cases h
  refine ⟨by rw [hc.size, hlen]; exact hl2.symm, by rw [hI.len]; exact hl2.symm, fun t ht => (by cases ht), trivial, fun t => ⟨?_, fun q hq => by cases hq⟩, hzq, trivial, ⟨fun _ _ => rfl, fun _ _ _ h => by cases h⟩, fun b hb => hI.own b (Nat.le_trans hev.size hb), fun d cs hd => ?_, fun d d' cs cs' b hne hd hd' => ?_, fun d k r b hd hb => ?_, fun t d k r ht hd => ?_, ⟨fun t d ht => ?_, fun d k r hd => hI.mks.2 d k r (harr d k r hd).1⟩, val, ⟨fun z id hm => ?_, fun id k hm => (hR.alive id k hm).evo hev' (fun _ _ h => h), fun id k b hm hb => ?_, hR.apart, fun z id k d k' r b hm hal' hd hb hvb => ?_⟩⟩
  · have h := hbk t
    generalize VS.get { σ := σ2, pe := [] } t = x at h
    cases h with
    | old h =>
      rw [hkeep t h]
      exact sr_frame hev' (fun _ _ _ _ h => h) (fun _ _ _ _ _ h => h) (hI.slots t).1
    | flat c h hcf =>
      have hs := (hc.slots t).1
      rw [h] at hs
      exact Rep.flat hs hcf _ _
    | lost k r h => exact hsl t k r h
    | und h =>
      have hs := (hc.slots t).1
      rw [h] at hs
      exact hs
    | name z e k r k' r' o ho hm hg hz h => exact hsl t k' r' h
    | out h =>
      have : a'.tmps.getD t undef = undef := by
        have := hc.size
        rw [Array.getD_eq_getD_getElem?, Array.getElem?_eq_none (by omega)]
        rfl
      rw [this]
      intro b hb
      cases hb
  · obtain ⟨h1, h2⟩ := hbox d cs hd
    obtain ⟨b, g1, g2, g3, g4⟩ := hI.box d cs h1
    exact ⟨b, by rw [h2]; exact g1, by rw [hsame b g4]; exact g2, g3, Nat.lt_of_lt_of_le g4 hev.size⟩
  · obtain ⟨h1, h2⟩ := hbox d cs hd
    obtain ⟨h3, h4⟩ := hbox d' cs' hd'
    rw [h2, h4]
    exact hI.boxd d d' cs cs' b hne h1 h3
  · obtain ⟨h1, h2⟩ := harr d k r hd
    rw [h2] at hb
    obtain ⟨g1, g2, g3, g4, g5⟩ := hI.arr d k r b h1 hb
    refine ⟨by rw [hsame b g3]; exact g1, g2, Nat.lt_of_lt_of_le g3 hev.size, fun d' cs hd' => ?_, fun d' k' r' hd' hb' => ?_⟩
    · obtain ⟨x1, x2⟩ := hbox d' cs hd'
      rw [x2]
      exact g4 d' cs x1
    · obtain ⟨x1, x2⟩ := harr d' k' r' hd'
      rw [x2] at hb'
      exact g5 d' k' r' x1 hb'
  · obtain ⟨h1, h2⟩ := harr d k r hd
    rcases hal t d ht with ⟨x1, x2⟩ | rfl | ⟨x1, _⟩
    · rw [x2, h2]
      exact hI.al t d k r x1 h1
    · exact absurd h1 (hnohome k r)
    · rw [x1, h2]
  · rcases hal t d ht with ⟨x1, x2⟩ | rfl | ⟨x1, k, r, x3⟩
    · exact hI.mks.1 t d x1
    · exact .inr rfl
    · exact .inl (hI.mks.2 d k r x3)
  · rw [List.mem_filter] at hm
    obtain ⟨hm, hw⟩ := hm
    have hw : writes core z.1 = false := by simpa using hw
    obtain ⟨h1, h2⟩ := hR.place z id hm
    have hg : VS.get { σ := σ2, pe := [] } z.1 = VS.get { σ := σ, pe := [] } z.1 := by
      rcases Nat.lt_or_ge z.1 σ.length with hlt | hge
      · obtain ⟨y, hy, hf⟩ := (backL_get hback).2 z.1 σ[z.1] (List.getElem?_eq_getElem hlt)
        have hfn : core.find? (dstIs z.1) = none := by
          rw [List.find?_eq_none]
          intro o ho
          unfold writes at hw
          rw [List.any_eq_false] at hw
          exact hw o ho
        unfold backAV at hf
        rw [Nat.zero_add, hfn] at hf
        cases hf
        simp only [VS.get, List.getD, hy, List.getElem?_eq_getElem hlt]
      · simp only [VS.get, List.getD, List.getElem?_eq_none hge, List.getElem?_eq_none (show σ2.length ≤ z.1 by omega)]
    refine ⟨?_, by rw [hg]; exact h2⟩
    rw [hkeep z.1 hw]
    exact cell_frame hI hev' (fun b cs h => h.elim) h2 h1
  · obtain ⟨h1, h2⟩ := hR.own id k b hm hb
    refine ⟨h1, fun d cs hd => ?_⟩
    obtain ⟨x1, x2⟩ := hbox d cs hd
    rw [x2]
    exact h2 d cs x1
  · rw [List.mem_filter] at hm
    obtain ⟨hm, hw⟩ := hm
    have hw : writes core z.1 = false := by simpa using hw
    obtain ⟨x1, x2⟩ := harr d k' r hd
    rw [x2] at hb
    obtain ⟨g1, g2, g3⟩ := hR.row z id k d k' r b hm hal' x1 hb hvb
    refine ⟨g1, g2.imp (fun h => h) fun h => ?_, g3⟩
    rcases Nat.lt_or_ge z.1 σ.length with hlt | hge
    · obtain ⟨y, hy, hf⟩ := (backL_get hback).2 z.1 σ[z.1] (List.getElem?_eq_getElem hlt)
      have hfn : core.find? (dstIs z.1) = none := by
        rw [List.find?_eq_none]
        intro o ho
        unfold writes at hw
        rw [List.any_eq_false] at hw
        exact hw o ho
      unfold backAV at hf
      rw [Nat.zero_add, hfn] at hf
      cases hf
      rw [← h]
      simp only [VS.get, List.getD, hy, List.getElem?_eq_getElem hlt]
    · simp only [VS.get, List.getD, List.getElem?_eq_none hge] at h
      cases h
end
def drawChkR (os : List Oper) : Bool :=
  anyChk (os.take (coreN os)) &&
  os.zipIdx.all (fun e => e.1.after.toList.all fun x => !Region.binds .any x || decide (x.on < e.2)) &&
  (os.take (coreN os)).all (fun o => match o.guard with | some g => decide (g.1 < (os.take (coreN os)).length) | none => true) &&
  os.zipIdx.all (fun e => decide (e.2 < coreN os) || (List.range e.2).all fun k => waits e.1 k)
def movesOk (H : List Nat) (core : List Oper) (tm : Stt) : Bool := core.all fun o => match rowMove H o with
  | some (d, z) => o.guard.isSome || ((match tm.pid.lookup (d, 0), tm.pid.lookup (z, 0) with
    | some i, some j => Nat.beq i j
    | _, _ => false) && !writes core z)
  | none => true
/-- Where rows that are written are read. -/
def drawnR : DrawFn := fun L S ops st =>
  if st.spe.isEmpty && st.nb.isEmpty && drawChkR ops.toList && Nat.ble st.len noHome && (ops.toList.take (coreN ops.toList)).all (fun o => (eats L S o).isEmpty) then
    (stepsSP L S (maxId { pid := st.pid, alive := [], spe := [], len := st.len, made := st.made }) (ops.toList.take (coreN ops.toList)) { pid := st.pid, alive := [], spe := [], len := st.len, made := st.made }).bind fun r =>
    if movesOk (L.rows ops.toList) (ops.toList.take (coreN ops.toList)) r.2 then
      (stepsS L S (maxId { pid := st.pid.filter (fun e => !writes (ops.toList.take (coreN ops.toList)) e.1.1), alive := st.alive, spe := [], len := st.len, made := st.made }) (ops.toList.drop (coreN ops.toList))
        { pid := st.pid.filter (fun e => !writes (ops.toList.take (coreN ops.toList)) e.1.1), alive := st.alive, spe := [], len := st.len, made := st.made }).map fun r => { pid := r.2.pid, alive := r.2.alive, spe := [], len := r.2.len, made := r.2.made }
    else none
  else none
def drawn : DrawFn := fun L S ops st => if rowy L ops.toList then drawnR L S ops st else drawnP L S ops st
end Go.Proofs.Ytoljlooeiljpfaa

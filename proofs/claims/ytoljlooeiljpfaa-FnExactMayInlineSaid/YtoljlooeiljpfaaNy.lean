/- Regions that draw their order, whole; functions, whole. -/
import Derived.Test.YtoljlooeiljpfaaNx
namespace Go.Proofs.Ytoljlooeiljpfaa
open Go Go.RowKit

def coreOf (os : List Oper) : List Oper := if anyChk os then os else os.dropLast
/-- What is asked of a region that draws its order. -/
def drawChk (os : List Oper) : Bool :=
  anyChk (coreOf os) &&
  os.zipIdx.all (fun e => e.1.after.toList.all fun x => !Region.binds .any x || decide (x.on < e.2)) &&
  (coreOf os).all (fun o => match o.guard with | some g => decide (g.1 < (coreOf os).length) | none => true) &&
  ((coreOf os).length == os.length || (match os.getLast? with | some o => (List.range (coreOf os).length).all fun i => waits o i | none => false))
def drawnP : DrawFn := fun L S ops st =>
  if st.spe.isEmpty && st.nb.isEmpty && drawChk ops.toList then (stepsSP L S (maxId st) ops.toList st).map fun r => { pid := r.2.pid, alive := r.2.alive, spe := [], len := r.2.len, made := r.2.made } else none

section
variable {P : Program} {L : Lay} {S : Sig} {call : Orc} {tr : List Rec} {s0 sm : VS} {t0 tm : Stt} {b0 : Nat} {Own : Nat → Prop} {p : Nat → Nat} {w : World} {a : Act} {D : Nat → Prop} {all : List Oper}

theorem InvD.full {m : Array Value} (h : Tr L S call all tr s0 t0 b0 sm tm) (h0 : IdsLt t0 b0) (hlen : t0.len = s0.σ.length) (h1 : NoTwice sm.pe) (h2 : NoTwice tm.spe) (h3 : SPeOk tm.spe sm) (hnr : NoRow sm) (hnb : tm.nb = []) (hI : InvD L S tr s0 sm t0 tm b0 D p w m Own) (hD : ∀ (j : Nat) (r : Rec), tr[j]? = some r → D j) : Inv tm p w m sm Own := by
  obtain ⟨val, hpl, hal, hown, hap⟩ := hI.rooms
  have hv : ∀ t, Vis tr D t := fun t j r hj _ => hD j r hj
  have hA : ∀ id k, (id, k) ∈ tm.alive → Al L S tr t0 D id k := fun id k hm => by
    obtain ⟨c1, c2⟩ := h.alive h0 tr.length (Nat.le_refl _) id k (by rw [at_end (Nat.le_refl _)]; exact hm)
    exact ⟨c1.imp (fun h => h) fun ⟨i, r, _, hr, hm⟩ => ⟨i, r, hD i r hr, hr, hm⟩, fun i r _ hr => c2 i r (List.getElem?_eq_some_iff.1 hr).1 hr⟩
  have hl := h.len tr.length (Nat.le_refl _)
  rw [at_end (Nat.le_refl _)] at hl
  simp only at hl
  exact ⟨hI.size, by rw [hl.2, hl.1]; exact hlen, fun t ht => (by rw [hnb] at ht; cases ht), h2, fun t => hI.slots t (hv t), hI.zp, h1, h3, hI.own, fun d cs hd => hI.box d cs (hv d) hd, fun d d' cs cs' b hne hd hd' => hI.boxd d d' cs cs' b (hv d) (hv d') hne hd hd', fun d k r b hd => absurd hd (hnr.2.1 d k r), fun t d k r _ hd => absurd hd (hnr.2.1 d k r), ⟨fun t d ht => .inr (hnr.2.2 t d ht), fun d k r hd => absurd hd (hnr.2.1 d k r)⟩, val,
    ⟨fun q id hm => by obtain ⟨c1, c2, _⟩ := hpl q id hm (hv _); exact ⟨c1, c2⟩, fun id k hm => hal id k (hA id k hm), fun id k b hm hb => by
      obtain ⟨c1, c2⟩ := hown id k b (hA id k hm) hb
      exact ⟨c1, fun d cs hd => c2 d cs (hv d) hd⟩, fun id k id' k' b hm hm' => hap id k id' k' b (hA id k hm) (hA id' k' hm'), fun q id k d k' r b _ _ hd => absurd hd (hnr.2.1 d k' r)⟩⟩

theorem InvD.start {m : Array Value} (h : Tr L S call all tr s0 t0 b0 sm tm) (h0 : IdsLt t0 b0) (hpe : s0.pe = []) (hI : Inv t0 p w m s0 Own) (hD : ∀ j, ¬ D j) : InvD L S tr s0 sm t0 tm b0 D p w m Own := by
  obtain ⟨val, hR⟩ := hI.rooms
  have hl := h.len tr.length (Nat.le_refl _)
  rw [at_end (Nat.le_refl _)] at hl
  simp only at hl
  have hk : ∀ t, Vis tr D t → Keeps t (s0, t0) (sm, tm) := fun t hv => by
    have := h.keeps (t := t) tr.length 0 (by omega) (fun x r _ _ hr hd => hD x (hv x r hr hd))
    rw [Nat.zero_add, at_end (Nat.le_refl _), h.zero] at this
    exact this
  have hA : ∀ id k, Al L S tr t0 D id k → (id, k) ∈ t0.alive := fun id k hc => by
    rcases hc.1 with hm | ⟨i, r, hDi, _⟩
    · exact hm
    · exact absurd hDi (hD i)
  refine ⟨by rw [hI.size, hl.1], fun t hv => ?_, hI.zp, hI.own, fun d cs hv hd => ?_, fun d d' cs cs' b hv hv' hne hd hd' => ?_, fun i r hDi => absurd hDi (hD i), val, fun q id hm hv => ?_, fun id k hc => hR.alive id k (hA id k hc), fun id k b hc hb => ?_, fun id k id' k' b hc hc' => hR.apart id k id' k' b (hA id k hc) (hA id' k' hc')⟩
  · obtain ⟨g1, g2⟩ := hI.slots t
    have hkt := hk t hv
    refine ⟨by rw [hkt.1]; exact g1, fun x hx => ?_⟩
    have := hkt.2.1 x hx
    simp only [hpe] at this
    cases this
  · have hkd := (hk d hv).1
    simp only at hkd
    rw [hkd] at hd
    exact hI.box d cs hd
  · have hkd := (hk d hv).1
    have hkd' := (hk d' hv').1
    simp only at hkd hkd'
    rw [hkd] at hd
    rw [hkd'] at hd'
    exact hI.boxd d d' cs cs' b hne hd hd'
  · have hkq := hk q.1 hv
    have hm' := (hkq.2.2 q.2 id).1 hm
    obtain ⟨c1, c2⟩ := hR.place q id hm'
    exact ⟨c1, by rw [hkq.1]; exact c2, .inl (h0.1 q id hm')⟩
  · obtain ⟨c1, c2⟩ := hR.own id k b (hA id k hc) hb
    refine ⟨c1, fun d cs hv hd => ?_⟩
    have hkd := (hk d hv).1
    simp only at hkd
    rw [hkd] at hd
    exact c2 d cs hd

theorem count_set : ∀ (l : List Bool) (i : Nat), l[i]? = some false → (l.set i true).count false + 1 = l.count false
  | [], i, h => by simp at h
  | x :: l, 0, h => by simp at h; subst h; simp
  | x :: l, i + 1, h => by
    have ih := count_set l i (by simpa using h)
    simp only [List.set_cons_succ, List.count_cons]
    omega

theorem InvD.congr {D' : Nat → Prop} {m : Array Value} (h : InvD L S tr s0 sm t0 tm b0 D p w m Own) (hD : ∀ i, D i ↔ D' i) : InvD L S tr s0 sm t0 tm b0 D' p w m Own := by
  have : D = D' := funext fun i => propext (hD i)
  rw [← this]
  exact h

theorem getD_listed {listed : Array Bool} {i : Nat} (h : listed.getD i true = false) : listed.toList[i]? = some false := by
  rw [Array.getD_eq_getD_getElem?] at h
  cases hl : listed[i]? with
  | none => rw [hl] at h; cases h
  | some b => rw [hl] at h; simp at h; subst h; simpa using hl

theorem Inv.drew {st : Stt} {m : Array Value} {s : VS} (h : Inv st p w m s Own) : Inv st p w.drew m s Own := by
  obtain ⟨val, hR⟩ := h.rooms
  have hev : Evo (fun _ => False) p w p w.drew := evo_drew _
  refine ⟨h.size, h.len, h.nbk, h.sonce, fun t => ?_, h.zp, h.once, h.spe, h.own, h.box, h.boxd, h.arr, h.al, h.mks, val, ⟨hR.place, fun id k hm => (hR.alive id k hm).evo hev (fun _ _ h => h), hR.own, hR.apart, hR.row⟩⟩
  obtain ⟨g1, g2⟩ := h.slots t
  refine ⟨sr_frame hev (fun _ _ _ _ h => h) (fun _ _ _ _ _ h => h) g1, fun x hx => ?_⟩
  have := g2 x hx
  cases x with
  | el d k n j => exact this
  | ref cs => exact PRef.evo hev this
  | box d off => exact this

/-- Any order will do. -/
theorem any_loop (hL : LayOk P L) (hC : CallOk P S call) {oa : Array Oper} (h : Tr L S call oa.toList tr s0 t0 b0 sm tm) {ops : List Oper} (hops : tr.map (·.o) = ops) (hA : AnyOk ops) (hsub : ∀ (i : Nat) (o : Oper), ops[i]? = some o → oa.toList[i]? = some o)
    (hla : ∀ (i : Nat) (o : Oper) (t : Nat), ops[i]? = some o → t ∈ looksAt oa.toList o → t ∈ looksAt ops o) (hpe : s0.pe = []) (h0 : IdsLt t0 b0) (hlen : t0.len = s0.σ.length) (h1 : NoTwice sm.pe) (h2 : NoTwice tm.spe) (h3 : SPeOk tm.spe sm) (hnr : NoRow sm) (hnb : tm.nb = [])
    (hedge : ∀ (i : Nat) (o : Oper), oa[i]? = some o → ∀ e ∈ o.after, Region.binds .any e = true → e.on < i)
    {sz : VS} {bm : Nat} {stz : Stt} (hids : IdsLt tm bm)
    (htail : (ops.length = oa.size ∧ sm = sz ∧ tm = stz) ∨ (ops.length + 1 = oa.size ∧ ∃ o, oa[ops.length]? = some o ∧ (∀ i, i < ops.length → waits o i = true) ∧ vopGP L call oa.toList o sm = some sz ∧ stepSP L S bm o tm = some stz))
    {Q : Exit → Act → World → Prop} : ∀ (fuel : Nat) (listed : Array Bool) (p : Nat → Nat) (w : World) (a : Act), listed.size = oa.size → listed.toList.count false = fuel → (ops.length + 1 = oa.size → listed.getD ops.length false = false) →
      InvD L S tr s0 sm t0 tm b0 (fun i => listed.getD i false = true) p w a.tmps Own →
      (∀ a' w' p', Inv stz p' w' a'.tmps sz Own → Evo Own p w p' w' → a'.defers = a.defers → Q .normal a' w') → wpAny P .any oa Q fuel listed a w := by
  have hopl : ops.length = tr.length := by rw [← hops]; simp
  -- nothing is ready: all have come up
  have hend : ∀ (listed : Array Bool), listed.size = oa.size → Region.ready .any oa listed = [] → ∀ i, i < oa.size → listed.getD i false = true := by
    intro listed hsz hr i
    induction i using Nat.strongRecOn with
    | _ i ih =>
      intro hi
      rcases hb : listed.getD i false with _ | _
      · exfalso
        have hm : i ∈ Region.ready .any oa listed := by
          rw [mem_ready]
          refine ⟨?_, oa[i], Array.getElem?_eq_getElem hi, fun e he hbd => ?_⟩
          · rw [Array.getD_eq_getD_getElem?, Array.getElem?_eq_getElem (by omega)] at hb ⊢
            exact hb
          · have := hedge i oa[i] (Array.getElem?_eq_getElem hi) e he hbd
            exact ih e.on this (by omega)
        rw [hr] at hm
        cases hm
      · rfl
  have hset : ∀ (listed : Array Bool) (i k : Nat), i < listed.size → ((listed.setIfInBounds i true).getD k false = true ↔ (listed.getD k false = true ∨ k = i)) := by
    intro listed i k hi
    by_cases hk : k = i
    · subst hk
      simp [Array.getD_eq_getD_getElem?, hi]
    · rw [getD_set_ne false (Ne.symm hk)]
      simp [hk]
  have hdone : ∀ (listed : Array Bool) (p : Nat → Nat) (w : World) (a : Act), listed.size = oa.size → (ops.length + 1 = oa.size → listed.getD ops.length false = false) →
      InvD L S tr s0 sm t0 tm b0 (fun i => listed.getD i false = true) p w a.tmps Own → (∀ a' w' p', Inv stz p' w' a'.tmps sz Own → Evo Own p w p' w' → a'.defers = a.defers → Q .normal a' w') → Region.ready .any oa listed = [] → Q .normal a w := by
    intro listed p w a hsz hnt hI hQ hr
    have hallL := hend listed hsz hr
    rcases htail with ⟨hn, rfl, rfl⟩ | ⟨hn, _⟩
    · exact hQ a w p (hI.full h h0 hlen h1 h2 h3 hnr hnb (fun j r hj => hallL j (by have := (List.getElem?_eq_some_iff.1 hj).1; omega))) (.refl _ _ _) rfl
    · have := hnt hn
      rw [hallL _ (by omega)] at this
      cases this
  intro fuel
  induction fuel with
  | zero =>
    intro listed p w a hsz hcnt hnt hI hQ
    have hr : Region.ready .any oa listed = [] := by
      rcases hr : Region.ready .any oa listed with _ | ⟨x, l⟩
      · rfl
      · exfalso
        have hm : x ∈ Region.ready .any oa listed := by rw [hr]; exact List.mem_cons_self
        have hf := getD_listed (mem_ready.1 hm).1
        have := List.count_pos_iff.2 (List.mem_of_getElem? hf)
        omega
    exact ⟨hr, hdone listed p w a hsz hnt hI hQ hr⟩
  | succ fuel ih =>
    intro listed p w a hsz hcnt hnt hI hQ
    refine ⟨hdone listed p w a hsz hnt hI hQ, fun i hi => ?_⟩
    obtain ⟨hun, o, ho, hdeps⟩ := mem_ready.1 hi
    have hilt : i < oa.size := (Array.getElem?_eq_some_iff.1 ho).1
    have hcnt' : (listed.setIfInBounds i true).toList.count false = fuel := by
      have := count_set listed.toList i (getD_listed hun)
      rw [Array.toList_setIfInBounds]
      omega
    have hwait : ∀ k, waits o k = true → listed.getD k false = true := fun k hk => by
      unfold waits at hk
      simp only [List.any_eq_true, Bool.and_eq_true, beq_iff_eq] at hk
      obtain ⟨e, he, hon, hb⟩ := hk
      rw [← hon]
      exact hdeps e (by simpa using he) hb
    have hnot : ¬ listed.getD i false = true := fun hh => by
      rw [Array.getD_eq_getD_getElem?] at hun hh
      rw [Array.getElem?_eq_getElem (by omega)] at hun hh
      simp at hun hh
      rw [hun] at hh
      cases hh
    by_cases hcore : i < ops.length
    · obtain ⟨r, hr⟩ : ∃ r, tr[i]? = some r := ⟨tr[i]'(by omega), List.getElem?_eq_getElem _⟩
      have hro : r.o = o := by
        have := hsub i r.o (tr_op hops hr)
        simp only [Array.getElem?_toList] at this
        rw [ho] at this
        cases this
        rfl
      refine stepD hL hC rfl h hops hA hsub hla hpe h0 hlen hnr hI hr hnot (fun k hk => hwait k (by rw [← hro]; exact hk)) fun a' w' p' hI' hev hd _ _ => ?_
      refine ih (listed.setIfInBounds i true) p' w' a' (by simpa using hsz) hcnt' (fun hn => ?_) (hI'.congr fun k => (hset listed i k (by omega)).symm) fun a2 w2 p2 g1 g2 g3 => hQ a2 w2 p2 g1 (hev.trans g2 (fun _ _ h => h) (fun _ _ h => h)) (g3.trans hd)
      rw [getD_set_ne false (by omega)]
      exact hnt hn
    · -- the last one, which waits for all others
      rcases htail with ⟨hn, _⟩ | ⟨hn, ot, hot, hw, hv, hst⟩
      · omega
      · have hie : i = ops.length := by omega
        subst hie
        rw [ho] at hot
        cases hot
        have hfull := hI.full h h0 hlen h1 h2 h3 hnr hnb (fun j r hj => hwait j (hw j (by have := (List.getElem?_eq_some_iff.1 hj).1; omega)))
        refine step_opP hL hC ho hfull hids hv hst fun a' w' p' hI' hev hd => ?_
        have hall' : ∀ k, k < oa.size → (listed.setIfInBounds ops.length true).getD k false = true := fun k hk => by
          rw [hset listed ops.length k (by omega)]
          rcases Nat.lt_or_ge k ops.length with h | h
          · exact .inl (hwait k (hw k h))
          · exact .inr (by omega)
        have hready : Region.ready .any oa (listed.setIfInBounds ops.length true) = [] := by
          rcases hr : Region.ready .any oa (listed.setIfInBounds ops.length true) with _ | ⟨x, l⟩
          · rfl
          · exfalso
            have hm : x ∈ Region.ready .any oa (listed.setIfInBounds ops.length true) := by rw [hr]; exact List.mem_cons_self
            obtain ⟨hx, o', ho', _⟩ := mem_ready.1 hm
            have hxl : x < oa.size := (Array.getElem?_eq_some_iff.1 ho').1
            have := hall' x hxl
            rw [Array.getD_eq_getD_getElem?] at hx this
            rw [Array.getElem?_eq_getElem (by simp; omega)] at hx this
            simp at hx this
            rw [this] at hx
            cases hx
        have hq := hQ a' w' p' hI' hev hd
        cases fuel with
        | zero => exact ⟨hready, hq⟩
        | succ f => exact ⟨fun _ => hq, fun k hk => by rw [hready] at hk; cases hk⟩
end
end Go.Proofs.Ytoljlooeiljpfaa

/- Stores, what is left out, and a region in the text's order. -/
import Derived.Test.YtoljlooeiljpfaaNo
namespace Go.Proofs.Ytoljlooeiljpfaa
open Go Go.RowKit

def storePid (st : Stt) (n d off : Nat) (v : Operand) : List ((Nat × Nat) × Nat) :=
  match v with
  | .tmp y => (List.range n).filterMap fun j => (st.pid.lookup (y, j)).map fun id => ((d, off + j), id)
  | _ => []
def storeKeep (st : Stt) (n d off : Nat) : List ((Nat × Nat) × Nat) :=
  st.pid.filter fun e => !(e.1.1 == d && decide (off ≤ e.1.2) && decide (e.1.2 < off + n))
/-- Where no row that is written takes part. -/
def stepSP (L : Lay) (S : Sig) (base : Nat) (o : Oper) (st : Stt) : Option Stt :=
  match o.op with
  | .store t x v => if o.guard.isSome || o.dst.isSome then none else match L.ti t, ptrS st.spe x with
    | some i, some (d, off) => some { pid := storePid st i.size d off v ++ storeKeep st i.size d off, alive := st.alive, spe := st.spe, len := st.len, made := st.made }
    | _, _ => none
  | _ => stepV L S base o st
/-- The slots with addresses in rows. -/
def nbNext (o : Oper) (nb : List Nat) : List Nat :=
  match o.dst with
  | some d => match o.op with
    | .indexAddr _ _ _ => d :: nb.filter fun t => !(t == d)
    | _ => nb.filter fun t => !(t == d)
  | none => nb
def inNb (nb : List Nat) : Operand → Bool
  | .tmp t => nb.any fun e => e == t
  | _ => false
def elStore (o : Oper) (st : Stt) : Bool := match o.op with
  | .store _ x _ => o.guard.isNone && o.dst.isNone && inNb st.nb x
  | _ => false
def stepS (L : Lay) (S : Sig) (base : Nat) (o : Oper) (st : Stt) : Option Stt :=
  if elStore o st then some st else (stepSP L S base o st).map fun st' => { st' with nb := nbNext o st.nb }

section
variable {P : Program} {L : Lay} {S : Sig} {call : Orc} {p p' : Nat → Nat} {w w' : World} {a : Act} {s s' : VS} {q : SPe} {o : Oper} {st st' : Stt} {Own : Nat → Prop} {base : Nat}

theorem step_store (hL : LayOk P L) (hI : Inv st p w a.tmps s Own) {t : Nat} {x v : Operand} (hop : o.op = .store t x v) (hs : vopP L call o s = some s') (hstep : stepSP L S base o st = some st') : Does P o a w fun v w' => ∃ p', Inv st' p' w' (a.put o.dst v).tmps s' Own ∧ Evo Own p w p' w' := by
  obtain ⟨val, hR⟩ := hI.rooms
  simp only [stepSP, hop] at hstep
  split at hstep
  · cases hstep
  rename_i hgd
  simp only [Bool.or_eq_true, Option.isSome_iff_ne_none, not_or, Decidable.not_not, ne_eq] at hgd
  split at hstep
  case h_2 => cases hstep
  rename_i i d off hi hps
  cases hstep
  simp only [vopP, hop, hi, Option.bind_some, Option.bind_eq_some_iff] at hs
  obtain ⟨r, hr, xv, hxv, hs⟩ := hs
  have hrb := ptrS_ptrO hI.spe hps hr
  subst hrb
  simp only at hs
  split at hs
  case h_2 => cases hs
  rename_i cs hcs
  split at hs
  case isFalse => cases hs
  rename_i hc
  cases hs
  have hsee : ∀ y, Sees p w a.tmps s y := fun y t _ => hI.slots t
  obtain ⟨b, hd, hx⟩ := ptrO_rep hr (hsee x)
  have hsr := (hI.slots d).1
  rw [hcs] at hsr
  obtain ⟨b', arr, T, e, hb, hrl⟩ := hsr
  rw [hd] at e
  cases e
  obtain ⟨b0, e0, hp0, hown0, hlt0⟩ := hI.box d cs hcs
  rw [hd] at e0
  cases e0
  have hv := svOf_rep (a := a) hxv (hsee v)
  obtain ⟨w', arr', hrun, hb', hrl', hin, hout, hsize, hoth, h1, h2, h3⟩ := run_store_box (P := P) (hL t i hi) hb hrl hc.1 hc.2 hv
  have hev : Evo (· = b) p w p w' := evo_block hp0 hsize hoth h1 h2 h3
  have hdlt : d < s.σ.length := by
    rcases Nat.lt_or_ge d s.σ.length with h | h
    · exact h
    · unfold VS.get at hcs
      rw [List.getD, List.getElem?_eq_none h] at hcs
      cases hcs
  have hget : ∀ y, y ≠ d → VS.get { s with σ := s.σ.set d (.box (fillL cs off xv.cells)) } y = s.get y := fun y hy => by
    simp only [VS.get, List.getD, List.getElem?_set_ne (Ne.symm hy)]
  have hgetd : VS.get { s with σ := s.σ.set d (.box (fillL cs off xv.cells)) } d = .box (fillL cs off xv.cells) := by
    simp only [VS.get, List.getD, List.getElem?_set_self hdlt, Option.getD_some]
  have hotherbox : ∀ y cs' b'', y ≠ d → s.get y = .box cs' → b'' = b → a.tmps.getD y undef ≠ .pointer (some ⟨b'', 0, none⟩) := fun y cs' b'' hy hy' hbb => by
    subst hbb
    exact hI.boxd d y cs cs' b'' (Ne.symm hy) hcs hy' hd
  have hdn : o.dst = none := hgd.2
  refine does_skip (w' := w') (by simp [execOp, hop, hx, hrun]) ⟨p, ?_, hev.weaken (fun x _ h => by rw [h]; exact hown0)⟩
  rw [hdn]
  show Inv _ p w' a.tmps _ Own
  have hgarr : ∀ y k r, VS.get { s with σ := s.σ.set d (.box (fillL cs off xv.cells)) } y = .arr k r → y ≠ d ∧ s.get y = .arr k r := fun y k r hy => by
    by_cases hyd : y = d
    · subst hyd; rw [hgetd] at hy; cases hy
    · rw [hget y hyd] at hy; exact ⟨hyd, hy⟩
  have hgal : ∀ y e, VS.get { s with σ := s.σ.set d (.box (fillL cs off xv.cells)) } y = .al e → y ≠ d ∧ s.get y = .al e := fun y e hy => by
    by_cases hyd : y = d
    · subst hyd; rw [hgetd] at hy; cases hy
    · rw [hget y hyd] at hy; exact ⟨hyd, hy⟩
  refine ⟨by rw [hI.size]; simp, by rw [hI.len]; simp, fun t ht => (by cases ht), hI.sonce, fun y => ?_, fun x hx => hI.zp x (by omega), hI.once, hI.spe, fun x hx => hI.own x (by omega), fun y cs' hy => ?_, fun y y' cs1 cs2 bb hne hy hy' hb1 => ?_, fun y k r bb hy hbb => ?_, fun y e k r hy he => ?_, ⟨fun y e hy => hI.mks.1 y e (hgal y e hy).2, fun y k r hy => hI.mks.2 y k r (hgarr y k r hy).2⟩, val, ?_⟩
  · obtain ⟨g1, g2⟩ := hI.slots y
    constructor
    · by_cases hyd : y = d
      · subst hyd
        rw [hgetd, hd]
        exact ⟨b, arr', T, rfl, hb', hrl'.evo (B := (· = b)) ⟨rfl, rfl, rfl, Nat.le_refl _, fun _ _ _ => rfl, fun _ _ => Nat.le_refl _, fun _ _ _ => rfl, fun _ _ _ _ => rfl⟩ |> fun h => by
          refine RepL.evo hev (RepL.of hrl'.length fun j u c hu hc' => ?_)
          obtain ⟨u', hu', hr'⟩ := hrl'.get hc'
          rw [hu] at hu'
          cases hu'
          exact hr'⟩
      · rw [hget y hyd]
        exact sr_frame hev (fun cs' hcs' b'' hb'' he => hotherbox y cs' b'' hyd hcs' he hb'') (fun k r hkr b'' hb'' he => by
          subst he
          exact (hI.arr y k r b'' hkr hb'').2.2.2.1 d cs hcs hd) g1
    · intro r hr'
      have := g2 r hr'
      cases r with
      | ref cs' => exact PRef.evo hev this
      | box d' off' => exact this
      | el d' k n j => exact this
  · by_cases hyd : y = d
    · subst hyd
      exact ⟨b, hd, hp0, hown0, by omega⟩
    · rw [hget y hyd] at hy
      obtain ⟨b2, x1, x2, x3, x4⟩ := hI.box y cs' hy
      exact ⟨b2, x1, x2, x3, by omega⟩
  · have key : ∀ y cs', VS.get { s with σ := s.σ.set d (.box (fillL cs off xv.cells)) } y = .box cs' → ∃ cs'', s.get y = .box cs'' := fun y cs' hy => by
      by_cases hyd : y = d
      · subst hyd; exact ⟨cs, hcs⟩
      · rw [hget y hyd] at hy; exact ⟨_, hy⟩
    obtain ⟨c1, k1⟩ := key y cs1 hy
    obtain ⟨c2, k2⟩ := key y' cs2 hy'
    exact hI.boxd y y' c1 c2 bb hne k1 k2 hb1
  · obtain ⟨_, hy⟩ := hgarr y k r hy
    obtain ⟨x1, x2, x3, x4, x5⟩ := hI.arr y k r bb hy hbb
    refine ⟨x1, x2, by omega, fun z cs' hz => ?_, fun z k' r' hz hzb => x5 z k' r' (hgarr z k' r' hz).2 hzb⟩
    by_cases hzd : z = d
    · subst hzd; exact x4 z cs hcs
    · rw [hget z hzd] at hz; exact x4 z cs' hz
  · exact hI.al y e k r (hgal y e hy).2 (hgarr e k r he).2
  · refine ⟨fun z id hm => ?_, fun id k hm => ?_, fun id k bb hm hbb => ?_, hR.apart, fun z id k y k' r b' hm hal hy hyb hb' => ?_⟩
    · rcases List.mem_append.1 hm with hm | hm
      · cases v with
        | tmp y =>
          simp only [storePid, List.mem_filterMap, List.mem_range, Option.map_eq_some_iff, Prod.mk.injEq] at hm
          obtain ⟨j, hj, id', hid, rfl, rfl⟩ := hm
          obtain ⟨hcell, _⟩ := hR.place _ _ (mem_of_lookup' hid)
          simp only at hcell ⊢
          have hcell : cellOf w (a.eval (.tmp y)) j = some (val id') := hcell
          rw [cellOf_SV hv] at hcell
          rw [hd, hgetd]
          refine ⟨?_, by intro h; cases h⟩
          show w'.cell? ⟨b, off + j, none⟩ = _
          rw [cell_of_block hb', hin j (Array.getElem?_eq_some_iff.1 hcell).1, hcell]
        | const c => simp [storePid] at hm
        | global g => simp [storePid] at hm
        | func g => simp [storePid] at hm
      · unfold storeKeep at hm
        obtain ⟨hm, hf⟩ := List.mem_filter.1 hm
        obtain ⟨hcell, hu⟩ := hR.place _ _ hm
        by_cases hzd : z.1 = d
        · rw [hzd] at hcell ⊢
          rw [hgetd]
          refine ⟨?_, by intro h; cases h⟩
          rw [hd] at hcell ⊢
          have hcell : w.cell? ⟨b, z.2, none⟩ = some (val id) := hcell
          show w'.cell? ⟨b, z.2, none⟩ = _
          rw [cell_of_block hb] at hcell
          rw [cell_of_block hb', hout z.2 ?_, hcell]
          have hl := hv.cells.length
          simp [hzd] at hf
          simp at hl
          omega
        · rw [hget _ hzd]
          exact ⟨cell_frame hI hev (fun b'' cs' he hx' => hotherbox z.1 cs' b'' hzd hx' he) hu hcell, hu⟩
    · refine (hR.alive id k hm).evo hev (fun b'' hb'' he => ?_)
      subst he
      exact (hR.own id k b'' hm hb'').2 d cs hcs hd
    · obtain ⟨x1, x2⟩ := hR.own id k bb hm hbb
      refine ⟨x1, fun y cs' hy => ?_⟩
      by_cases hyd : y = d
      · subst hyd; exact x2 y cs hcs
      · rw [hget y hyd] at hy; exact x2 y cs' hy
    · obtain ⟨hyd, hy⟩ := hgarr y k' r hy
      rcases List.mem_append.1 hm with hm | hm
      · exfalso
        cases v with
        | tmp u =>
          simp only [storePid, List.mem_filterMap, List.mem_range, Option.map_eq_some_iff, Prod.mk.injEq] at hm
          obtain ⟨j, hj, id', hid, rfl, rfl⟩ := hm
          obtain ⟨_, h2, _⟩ := hR.row _ _ k y k' r b' (mem_of_lookup' hid) hal hy hyb hb'
          have h3 := svOf_plain hxv
          rcases h2 with h2 | h2
          · simp only at h2; rw [h2, hy] at h3; cases h3
          · simp only at h2; rw [h2] at h3; cases h3
        | const c => simp [storePid] at hm
        | global g => simp [storePid] at hm
        | func g => simp [storePid] at hm
      · unfold storeKeep at hm
        obtain ⟨hm, _⟩ := List.mem_filter.1 hm
        obtain ⟨h1, h2, h3⟩ := hR.row _ _ k y k' r b' hm hal hy hyb hb'
        refine ⟨h1, h2.imp (fun e => e) fun h2 => ?_, h3⟩
        by_cases hzd : z.1 = d
        · rw [hzd, hcs] at h2; cases h2
        · rw [hget _ hzd]; exact h2

/-- An operation that is left out. -/
theorem step_skip (hI : Inv st p w a.tmps s Own) {g : Nat × Bool} (hg : o.guard = some g) (hstep : stepV L S base o st = some st') :
    Inv st' p w (a.put o.dst undef).tmps (s.put o.dst .und) Own := by
  obtain ⟨val, hR⟩ := hI.rooms
  unfold stepV at hstep
  split at hstep
  case isFalse => cases hstep
  rename_i htk
  simp only [Bool.and_eq_true] at htk
  simp only [Option.bind_eq_some_iff] at hstep
  obtain ⟨E, hE, hstep⟩ := hstep
  split at hstep
  · cases hstep
  rename_i hEmp
  cases hstep
  have hE0 : E = [] := by
    cases E with
    | nil => rfl
    | cons x l => simp [hg] at hEmp
  subst hE0
  have hnp : newPid L S base o st = [] := by unfold newPid; split <;> simp [hg]
  have hna : newAlive L S base o = [] := by unfold newAlive; split <;> simp [hg]
  obtain ⟨hF, honce⟩ := put_frames (o := o) hI.once .und
  have hget : ∀ t, (s.put o.dst .und).get t = .und ∨ ((s.put o.dst .und).get t = s.get t ∧ o.dst ≠ some t) := by
    intro t
    by_cases hd : o.dst = some t
    · left
      rw [hd, get_put]
      split <;> rfl
    · exact .inr ⟨hF.get t hd, hd⟩
  have hslots : ∀ t, SlotOk p w (a.put o.dst undef).tmps (s.put o.dst .und) t := by
    intro t
    by_cases hd : o.dst = some t
    · rw [hd]
      refine ⟨?_, fun q' hq => by rw [lookup_put] at hq; cases hq⟩
      have hun : (a.put (some t) undef).tmps.getD t undef = undef := by
        by_cases hlt : t < a.tmps.size
        · exact put_tmps hlt
        · exact put_tmps_out hlt
      rw [hun, get_put]
      split <;> (intro b hb; cases hb)
    · exact slots_frame hI (.refl (fun _ => False) p w) (fun _ _ _ h => h.elim) (fun _ _ _ _ h => h.elim) hF hd
  have hspe : SPeOk (speNext L o st.spe) (s.put o.dst .und) := by
    unfold speNext
    cases hd : o.dst with
    | none => exact hI.spe
    | some d =>
      have hc := spe_cut hI.spe hI.sonce hI.once d .und
      have hp : SPeOk ((d, none) :: cutS d st.spe) (s.put (some d) .und) := by
        constructor
        · intro t ht
          simp only [List.lookup] at ht
          split at ht
          · cases ht
          · exact hc.1 t ht
        · intro t b off ht
          simp only [List.lookup] at ht
          split at ht
          · cases ht
          · exact hc.2 t b off ht
      cases ho : o.op <;> simp only [hg] <;> first | exact hc | exact hp
  have hold : ∀ d cs, (s.put o.dst .und).get d = .box cs → s.get d = .box cs ∧ (a.put o.dst undef).tmps.getD d undef = a.tmps.getD d undef := fun d cs h => by
    rcases hget d with h' | ⟨h', hd⟩
    · rw [h'] at h; cases h
    · rw [h'] at h; exact ⟨h, getD_put' hd⟩
  have hmade : ∀ d, d ∈ st.made → d ∈ madeNext L o st.made := fun d hd => by
    unfold madeNext
    split
    · split
      · exact List.mem_cons_of_mem _ hd
      · exact hd
    · exact hd
  have holdA : ∀ d k r, (s.put o.dst .und).get d = .arr k r → s.get d = .arr k r ∧ (a.put o.dst undef).tmps.getD d undef = a.tmps.getD d undef ∧ o.dst ≠ some d := fun d k r h => by
    rcases hget d with h' | ⟨h', hd⟩
    · rw [h'] at h; cases h
    · rw [h'] at h; exact ⟨h, getD_put' hd, hd⟩
  have holdL : ∀ d e, (s.put o.dst .und).get d = .al e → s.get d = .al e ∧ (a.put o.dst undef).tmps.getD d undef = a.tmps.getD d undef := fun d e h => by
    rcases hget d with h' | ⟨h', hd⟩
    · rw [h'] at h; cases h
    · rw [h'] at h; exact ⟨h, getD_put' hd⟩
  refine ⟨by rw [size_put, hI.size, hF.len], by rw [hF.len]; exact hI.len, fun t ht => (by cases ht), once_next L o hI.sonce, hslots, hI.zp, honce, hspe, hI.own, fun d cs h => ?_, fun d d' cs cs' b hne h h' hb => ?_, fun d k r b h hb => ?_, fun t d k r h h' => ?_, ⟨fun t e h => (hI.mks.1 t e (holdL t e h).1).imp (hmade e) fun h => h, fun d k r h => hmade d (hI.mks.2 d k r (holdA d k r h).1)⟩, val, ?_⟩
  · obtain ⟨h1, h2⟩ := hold d cs h
    rw [h2]
    exact hI.box d cs h1
  · obtain ⟨h1, h2⟩ := hold d cs h
    obtain ⟨h3, h4⟩ := hold d' cs' h'
    rw [h2] at hb
    rw [h4]
    exact hI.boxd d d' cs cs' b hne h1 h3 hb
  · obtain ⟨h1, h2, _⟩ := holdA d k r h
    rw [h2] at hb
    obtain ⟨x1, x2, x3, x4, x5⟩ := hI.arr d k r b h1 hb
    refine ⟨x1, x2, x3, fun d' cs hd' => ?_, fun d' k' r' hd' hb' => ?_⟩
    · obtain ⟨h3, h4⟩ := hold d' cs hd'
      rw [h4]
      exact x4 d' cs h3
    · obtain ⟨h3, h4, _⟩ := holdA d' k' r' hd'
      rw [h4] at hb'
      exact x5 d' k' r' h3 hb'
  · obtain ⟨h1, h2⟩ := holdL t d h
    obtain ⟨h3, h4, _⟩ := holdA d k r h'
    rw [h2, h4]
    exact hI.al t d k r h1 h3
  · rw [hnp, hna]
    refine ⟨fun x id hm => ?_, fun id k hm => ?_, fun id k b hm hb => ?_, fun id k id' k' b hm hm' hne hb => ?_, fun x id k d k' r b hm hal h hbd hb => ?_⟩
    · simp only [List.nil_append] at hm
      obtain ⟨hm, hd⟩ := List.mem_filter.1 hm
      simp only [Bool.not_eq_true', beq_eq_false_iff_ne] at hd
      obtain ⟨hc, hu⟩ := hR.place _ _ hm
      rw [getD_put' hd, hF.get _ hd]
      exact ⟨hc, hu⟩
    · exact hR.alive id k (by simpa using hm)
    · obtain ⟨h1, h2⟩ := hR.own id k b (by simpa using hm) hb
      refine ⟨h1, fun d cs h => ?_⟩
      obtain ⟨h3, h4⟩ := hold d cs h
      rw [h4]
      exact h2 d cs h3
    · exact hR.apart id k id' k' b (by simpa using hm) (by simpa using hm') hne hb
    · obtain ⟨h1, h2, _⟩ := holdA d k' r h
      rw [h2] at hbd
      simp only [List.nil_append] at hm
      obtain ⟨hm, hdx⟩ := List.mem_filter.1 hm
      simp only [Bool.not_eq_true', beq_eq_false_iff_ne] at hdx
      obtain ⟨x1, x2, x3⟩ := hR.row x id k d k' r b hm (by simpa using hal) h1 hbd hb
      exact ⟨x1, by rw [hF.get _ hdx]; exact x2, x3⟩
end
end Go.Proofs.Ytoljlooeiljpfaa

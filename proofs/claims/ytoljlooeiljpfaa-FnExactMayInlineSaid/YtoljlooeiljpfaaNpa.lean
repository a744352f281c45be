/- Operations in which a row that is written takes part. -/
import Derived.Test.YtoljlooeiljpfaaNp
namespace Go.Proofs.Ytoljlooeiljpfaa
open Go Go.RowKit
section
variable {P : Program} {L : Lay} {S : Sig} {call : Orc} {p p' : Nat → Nat} {w w' : World} {a : Act} {s s' : VS} {q : SPe} {o : Oper} {st st' : Stt} {Own : Nat → Prop} {base : Nat}

theorem Rep.flat {v : Value} {c : AC} (h : Rep p w v c) (hc : flatC c = true) (p' : Nat → Nat) (w' : World) : Rep p' w' v c := by
  cases h with
  | int n => exact .int n
  | bool b => exact .bool b
  | nil _ _ => cases hc
  | sl _ _ _ _ _ _ _ _ _ _ _ _ _ => cases hc
theorem RepL.flat (p' : Nat → Nat) (w' : World) : ∀ {vs : List Value} {cs : List AC}, RepL p w vs cs → cs.all flatC = true → RepL p' w' vs cs
  | [], [], _, _ => trivial
  | _ :: _, _ :: _, ⟨h1, h2⟩, h => by
    simp only [List.all_cons, Bool.and_eq_true] at h
    exact ⟨h1.flat h.1 _ _, h2.flat p' w' h.2⟩
theorem RepS.flat {v : Value} {x : SV} (h : RepS p w v x) (hc : flatSV x = true) (p' : Nat → Nat) (w' : World) : RepS p' w' v x := by
  cases x with
  | cell c => exact Rep.flat h (by simpa [flatSV, SV.cells] using hc) _ _
  | agg cs => obtain ⟨b, e, h⟩ := h; exact ⟨b, e, h.flat p' w' hc⟩
theorem RepSs.flat (p' : Nat → Nat) (w' : World) : ∀ {vs : List Value} {cs : List SV}, RepSs p w vs cs → cs.all flatSV = true → RepSs p' w' vs cs
  | [], [], _, _ => trivial
  | _ :: _, _ :: _, ⟨h1, h2⟩, h => by
    simp only [List.all_cons, Bool.and_eq_true] at h
    exact ⟨h1.flat h.1 _ _, h2.flat p' w' h.2⟩
theorem SR.flat {v : Value} {x : AV} (h : SR p w v x) (hc : flatAV x = true) (p' : Nat → Nat) (w' : World) : SR p' w' v x := by
  cases x with
  | v x => exact RepS.flat h hc _ _
  | tup xs => obtain ⟨b, e, h⟩ := h; exact ⟨b, e, h.flat p' w' hc⟩
  | _ => cases hc

theorem all_flatten {rows : List (List AC)} (h : rows.all (fun r => r.all flatC) = true) : rows.flatten.all flatC = true := by
  induction rows with
  | nil => rfl
  | cons r rows ih =>
    simp only [List.all_cons, Bool.and_eq_true] at h
    simp [List.all_append, h.1, ih h.2]

/-- A fresh row of plain cells can be written. -/
theorem arr_of_rep {v : Value} {k : Nat} {rows : List (List AC)} (h : Rep p w v (.sl k rows)) (hr : Rt p w v k) (hk : 0 < k) (hf : rows.all (fun r => r.all flatC) = true) (p' : Nat → Nat) : SR p' w v (.arr k rows) := by
  rcases h.row with ⟨⟨ad, rfl⟩, rfl⟩ | ⟨b, o, cap, us, rfl, _, hrows, hb, hp, hcap, hus, hrep, hc⟩
  · rcases hr with e | ⟨b, off, len, cap, arr, T, e, h1, h2, h3, _⟩
    · exact ⟨hk, by simp, .inl ⟨e, rfl⟩⟩
    · cases e
      exact ⟨hk, by simp, .inr ⟨b, off, 0, arr, T, [], rfl, ⟨Nat.le_refl _, h3⟩, h1, by simp, trivial, fun j u h => by simp at h⟩⟩
  · rcases hr with e | ⟨b', off, len, cap', arr, T, e, h1, h2, h3, _⟩
    · cases e
    · cases e
      exact ⟨hk, hrows, .inr ⟨b, o, cap, arr, T, us, rfl, ⟨hcap, h3⟩, h1, hus, hrep.flat p' w (all_flatten hf), fun j u hj => by rw [← cell_of_block h1]; exact hc j u hj⟩⟩
theorem Rt.lower {p' : Nat → Nat} {v : Value} {k : Nat} (h : Rt p w v k) (hp : ∀ b, p' b ≤ p b) : Rt p' w v k := by
  rcases h with e | ⟨b, off, len, cap, arr, T, e, h1, h2, h3, h4⟩
  · exact .inl e
  · exact .inr ⟨b, off, len, cap, arr, T, e, h1, h2, h3, Nat.le_trans (hp b) h4⟩

theorem arrO_is {x : Operand} {d0 k : Nat} {r : List (List AC)} (h : arrO s x = some (d0, k, r)) : ∃ t, x = .tmp t ∧ s.get d0 = .arr k r ∧ (t = d0 ∨ s.get t = .al d0) := by
  cases x with
  | const c => cases h
  | global c => cases h
  | func c => cases h
  | tmp t =>
  simp only [arrO] at h
  unfold arrAt at h
  split at h
  · rename_i k' r' hx
    cases h
    exact ⟨_, rfl, hx, .inl rfl⟩
  · rename_i d hx
    split at h
    · rename_i k' r' hd
      cases h
      exact ⟨t, rfl, hd, .inr hx⟩
    · cases h
  · cases h
theorem arr_val (hI : Inv st p w a.tmps s Own) {x : Operand} {d0 k : Nat} {r : List (List AC)} (h : arrO s x = some (d0, k, r)) : a.eval x = a.tmps.getD d0 undef ∧ SR p w (a.tmps.getD d0 undef) (.arr k r) := by
  obtain ⟨t, rfl, hd, ht⟩ := arrO_is h
  refine ⟨?_, by have := (hI.slots d0).1; rw [hd] at this; exact this⟩
  show a.tmps.getD t undef = _
  rcases ht with rfl | ht
  · rfl
  · exact hI.al t d0 k r ht hd
theorem arr_slice {v : Value} {k : Nat} {r : List (List AC)} (h : SR p w v (.arr k r)) : ∃ ad cap, v = .slice ad r.length cap := by
  rcases h.2.2 with ⟨e, rfl⟩ | ⟨b, o, cap, arr, T, us, e, _⟩
  · exact ⟨none, 0, e⟩
  · exact ⟨_, _, e⟩

theorem spe_put (hq : SPeOk q s) (h1 : NoTwice q) (h2 : NoTwice s.pe) (x : AV) (hf : ∀ t y f, o.op ≠ .fieldAddr t y f) (hi : ∀ t y f, o.op ≠ .indexAddr t y f) : SPeOk (speNext L o q) (s.put o.dst x) := by
  unfold speNext
  cases hd : o.dst with
  | none => exact hq
  | some d =>
    have hc := spe_cut hq h1 h2 d x
    cases ho : o.op <;> first | exact hc | exact absurd ho (hf _ _ _) | exact absurd ho (hi _ _ _)

/-- What an operation with a written row must show. -/
def AGoal (P : Program) (L : Lay) (S : Sig) (st : Stt) (o : Oper) (a : Act) (p : Nat → Nat) (w : World) (s s' : VS) : Prop :=
  (eats L S o = [] ∧ Frames o s s' ∧ NoTwice s'.pe ∧ SPeOk (speNext L o st.spe) s') ∧ Does P o a w fun v w' => ∃ p', OpPost L S st.spe o a p w s' v p' w' ∧ ArrOk L S st.spe o a.tmps s s' v w p' w'

theorem a_move (hI : Inv st p w a.tmps s Own) {x : Operand} (hop : o.op = .move x ∨ o.op = .assign x) {d : Nat} (hd : o.dst = some d) (hlt : d < s.σ.length) {d0 k : Nat} {r : List (List AC)} (hx : arrO s x = some (d0, k, r)) (hne : d ≠ d0) : AGoal P L S st o a p w s (s.put (some d) (.al d0)) := by
  obtain ⟨t, rfl, hd0, ht⟩ := arrO_is hx
  obtain ⟨hv, hsr⟩ := arr_val hI hx
  obtain ⟨ad, cap, hsl⟩ := arr_slice hsr
  have hf : fresh L S o = [] := by rcases hop with hop | hop <;> simp [fresh, hop]
  have hmv : ∀ e ∈ moved L st.spe o, e.2 = (t, e.1) := by
    rcases hop with hop | hop <;> simp only [moved, hop] <;> split <;> simp
  have hput := put_frames (o := o) hI.once (.al d0)
  have hspe := spe_put (L := L) (o := o) hI.spe hI.sonce hI.once (.al d0) (by rcases hop with hop | hop <;> simp [hop]) (by rcases hop with hop | hop <;> simp [hop])
  have hpost := post_same (L := L) (S := S) (q := st.spe) (o := o) hI.zp hI.size (x := .al d0) (v := a.eval (.tmp t)) (by rw [hv, hsl]; exact ⟨_, _, _, rfl⟩) hf (fun e he u hu => by rw [hmv e he] at hu; exact hu)
  rw [hd] at hput hspe hpost
  refine ⟨⟨by rcases hop with hop | hop <;> simp [eats, hop], hput.1, hput.2, hspe⟩, does_value (v := a.eval (.tmp t)) (w' := w) (by rcases hop with hop | hop <;> simp [execOp, hop]) ⟨p, hpost, ?_⟩⟩
  have hg : (s.put (some d) (.al d0)).get d = .al d0 := by rw [get_put, if_pos hlt]
  refine ⟨fun d' k' rows hd' h => ?_, fun d' e hd' h => ?_, fun d' hd' h => ?_⟩
  · rw [hd] at hd'; cases hd'; rw [hg] at h; cases h
  · rw [hd] at hd'; cases hd'
    rw [hg] at h
    cases h
    refine ⟨Ne.symm hne, hv, ⟨k, r, hd0⟩, hf, fun e he => ?_⟩
    rw [hmv e he]
    exact ⟨rfl, ht⟩
  · rw [hd] at hd'; cases hd'; rw [hg] at h; cases h

theorem a_len (hL : LayOk P L) (hI : Inv st p w a.tmps s Own) {x : Operand} {t : Nat} {ats : Array TypeId} (hop : o.op = .call { callee := .builtin .len, args := #[x], argTypes := ats }) (ht : ats.getD 0 0 = t) (hats : ats.size = 1)
    {e : TI} (he : L.el t = some e) {d0 k : Nat} {r : List (List AC)} (hx : arrO s x = some (d0, k, r)) : AGoal P L S st o a p w s (s.put o.dst (.v (.cell (.int r.length)))) := by
  obtain ⟨hv, hsr⟩ := arr_val hI hx
  obtain ⟨ad, cap, hsl⟩ := arr_slice hsr
  obtain ⟨u, hu, hT⟩ := hL.el he
  have h0 : ats[0]? = some t := by
    rw [← ht]
    simp [Array.getD, hats]
  have hput := put_frames (o := o) hI.once (.v (.cell (.int r.length)))
  have hspe := spe_put (L := L) (o := o) hI.spe hI.sonce hI.once (.v (.cell (.int r.length))) (by simp [hop]) (by simp [hop])
  have hmv : moved L st.spe o = [] := by simp [moved, hop]
  refine ⟨⟨by simp [eats, hop], hput.1, hput.2, hspe⟩, does_value (v := .int .i64 r.length) (w' := w) ?_ ⟨p, post_same hI.zp hI.size (x := .v (.cell (.int r.length))) (.int _) (by simp [fresh, hop]) (by rw [hmv]; simp), .plain (put_plain rfl) (by rw [hmv]; simp)⟩⟩
  simp [execOp, hop, resolve, invoke, builtin, Builtin.len_, h0, run_underlying hu, hv, hsl, goInt]

theorem a_index (hL : LayOk P L) (hI : Inv st p w a.tmps s Own) {t : Nat} {x ix : Operand} (hop : o.op = .indexAddr t x ix) {e : TI} (he : L.el t = some e) {d0 : Nat} {r : List (List AC)} (hx : arrO s x = some (d0, e.size, r)) {n : Int} (hn : intO L s ix = some n) (h0 : 0 ≤ n) (hnr : n < r.length)
    {d : Nat} (hd : o.dst = some d) (hlt : d < s.σ.length) (hne : d ≠ d0) : AGoal P L S st o a p w s { (s.put (some d) .und) with pe := (d, .el d0 e.size n.toNat 0) :: (s.put (some d) .und).pe } := by
  obtain ⟨hv, hsr⟩ := arr_val hI hx
  obtain ⟨u, hu, hT⟩ := hL.el he
  obtain ⟨inf, z, h1, h2, _, _, _, _⟩ := hT.info
  have hin := intO_rep (p := p) (w := w) (a := a) hn (fun t _ => hI.slots t)
  rcases hsr.2.2 with ⟨_, rfl⟩ | ⟨b, o', cap, arr, T, us, hsl, hcap, hb, hus, hrep, hcell⟩
  · simp at hnr; omega
  have hfr : fresh L S o = [] := by simp [fresh, hop]
  have hmv : moved L st.spe o = [] := by simp [moved, hop]
  have hpf := ptr_frames (o := o) hI.once hd (.el d0 e.size n.toNat 0)
  have hspe : SPeOk (speNext L o st.spe) { (s.put (some d) .und) with pe := (d, .el d0 e.size n.toNat 0) :: (s.put (some d) .und).pe } := by
    unfold speNext
    rw [hd]
    simp only [hop]
    exact spe_ptr (spe_cut hI.spe hI.sonce hI.once d .und) _ _ (fun b off h => by cases h)
  refine ⟨⟨by simp [eats, hop], hpf.1, hpf.2, hspe⟩, does_value (v := .pointer (some ⟨b, o' + n.toNat * e.size, none⟩)) (w' := w) ?_ ⟨p, ⟨.refl _ _ _, hI.zp, fun d' hd' => ?_, ptr_bx hd _, (fun _ _ _ => .inr ⟨hfr, hmv⟩), by rw [hfr]; simp, by rw [hfr]; simp, by rw [hmv]; simp⟩, .plain (fun d' hd' => ?_) (by rw [hmv]; simp)⟩⟩
  · simp [execOp, hop, hin, hv, hsl, Instr.indexAt, run_underlying hu, asIntOf, h0, hnr, sizeOf, typeInfo, h1, h2, Addr.add_lit]
  · rw [hd] at hd' ⊢
    cases hd'
    refine slot_pointer hI.size hlt ⟨b, o', r.length, cap, ?_, rfl⟩
    rw [← hsl]
    simp [Act.put, hne]
  · rw [hd] at hd'
    cases hd'
    have : VS.get { (s.put (some d) .und) with pe := (d, .el d0 e.size n.toNat 0) :: (s.put (some d) .und).pe } d = (s.put (some d) .und).get d := rfl
    rw [this, get_put, if_pos hlt]
    rfl

/-- The cells of one row. -/
theorem flatten_row {k : Nat} {rows : List (List AC)} (h : ∀ r ∈ rows, r.length = k) {n j m : Nat} (hn : n < rows.length) (hj : j + m ≤ k) : (rows.flatten.drop (n * k + j)).take m = ((rows.getD n []).drop j).take m := by
  have hg : rows.getD n [] = rows[n] := by simp [List.getD, List.getElem?_eq_getElem hn]
  have hlen : (rows.getD n []).length = k := by rw [hg]; exact h _ (List.getElem_mem hn)
  rw [← List.drop_drop, ← flatten_drop rows n h, List.drop_eq_getElem_cons hn, List.flatten_cons, ← hg]
  rw [List.drop_append_of_le_length (by omega), List.take_append_of_le_length (by rw [List.length_drop]; omega)]

theorem a_load (hL : LayOk P L) (hI : Inv st p w a.tmps s Own) {t : Nat} {x : Operand} (hop : o.op = .load t x) {i : TI} (hi : L.ti t = some i) {d0 k n j : Nat} (hp : ptrO s x = some (.el d0 k n j)) {r : List (List AC)} (hd0 : s.get d0 = .arr k r) (hn : n < r.length) (hj : j + i.size ≤ k)
    {v : SV} (hv : mkV i (((r.getD n []).drop j).take i.size) = some v) : AGoal P L S st o a p w s (s.put o.dst (.v v)) := by
  obtain ⟨b, o', len, cap, hm, hx⟩ := ptrO_rep (p := p) (w := w) (a := a) hp (fun t _ => hI.slots t)
  have hsr := (hI.slots d0).1
  rw [hd0] at hsr
  obtain ⟨hk, hrows, hh⟩ := hsr
  rcases hh with ⟨_, rfl⟩ | ⟨b', o2, cap', arr, T, us, hsl, hcap, hb, hus, hrep, hcell⟩
  · simp at hn
  rw [hsl] at hm
  cases hm
  have hT := hL t i hi
  have hle : n * k + k ≤ r.length * k := by rw [← Nat.succ_mul]; exact Nat.mul_le_mul_right _ hn
  have hr' : RepL p w ((us.drop (n * k + j)).take i.size) (((r.getD n []).drop j).take i.size) := by
    rw [← flatten_row hrows hn hj]
    exact (hrep.drop _).take _
  have hrun := run_loadVar_cells (P := P) (w := w) hT (b := b) (o := o' + n * k + j) (us := (us.drop (n * k + j)).take i.size) (by rw [List.length_take, List.length_drop]; omega) (fun y u hy => by
    have hy := getElem?_take_some hy
    rw [List.getElem?_drop] at hy
    rw [cell_of_block hb, ← hcell _ u hy]
    congr 1
    omega)
  have hmv : moved L st.spe o = [] := by
    have : ptrS st.spe x = none := by
      unfold ptrO at hp
      split at hp
      · rename_i y
        unfold ptrS
        split at hp
        · rename_i r' hr2
          cases hp
          cases hqj : st.spe.lookup y with
          | none => rw [hI.spe.1 y hqj] at hr2; cases hr2
          | some z =>
            cases z with
            | none => simp [hqj]
            | some df => rw [hI.spe.2 y df.1 df.2 hqj] at hr2; cases hr2
        · split at hp <;> cases hp
      · cases hp
    simp [moved, hop, this]
  have hput := put_frames (o := o) hI.once (.v v)
  have hspe := spe_put (L := L) (o := o) hI.spe hI.sonce hI.once (.v v) (by simp [hop]) (by simp [hop])
  exact ⟨⟨by simp [eats, hop], hput.1, hput.2, hspe⟩, does_value (w' := w) (by simp [execOp, hop, hx, Instr.loadAt, Instr.sureAddr, hrun]) ⟨p, post_same hI.zp hI.size (x := .v v) (mkV_rep hr' hv) (by simp [fresh, hop]) (by rw [hmv]; simp), .plain (put_plain rfl) (by rw [hmv]; simp)⟩⟩

theorem a_make (hL : LayOk P L) (hI : Inv st p w a.tmps s Own) {t : Nat} {x y : Operand} (hop : o.op = .makeSlice t x y) {e : TI} (he : L.el t = some e) {l c : Int} (hl : intO L s x = some l) (hc : intO L s y = some c) (c1 : 0 ≤ l) (c2 : l ≤ c) (c3 : c ≤ lim36) (c4 : 0 < e.size)
    {d : Nat} (hd : o.dst = some d) (hlt : d < s.σ.length) (hhome : L.home 0 o.dst = true) (hf : e.zero.all flatC = true) : AGoal P L S st o a p w s (s.put (some d) (.arr e.size (List.replicate l.toNat e.zero))) := by
  obtain ⟨u, hu, hT⟩ := hL.el he
  obtain ⟨v, w', p', hrun, hrep, hrt, hev, hz', hblk⟩ := run_makeSlice_rep (t := t) hu hT c4 c1 c2 c3 hI.zp
  have hs1 := intO_rep (p := p) (w := w) (a := a) hl (fun t _ => hI.slots t)
  have hs2 := intO_rep (p := p) (w := w) (a := a) hc (fun t _ => hI.slots t)
  have hlow : ∀ b, upP p' w.heap.size 0 b ≤ p' b := fun b => by unfold upP; split <;> omega
  have hev' : Evo (fun _ => False) p w (upP p' w.heap.size 0) w' := ⟨hev.os, hev.tape, hev.output, hev.size, hev.block, fun b hb => by unfold upP; rw [if_neg (by omega)]; exact hev.keepP b hb, fun b hb hn => by unfold upP; rw [if_neg (by omega)]; exact hev.same b hb hn, hev.stable⟩
  have hput := put_frames (o := o) hI.once (.arr e.size (List.replicate l.toNat e.zero))
  have hspe := spe_put (L := L) (o := o) hI.spe hI.sonce hI.once (.arr e.size (List.replicate l.toNat e.zero)) (by simp [hop]) (by simp [hop])
  have hfr : fresh L S o = [(0, e.size)] := by simp [fresh, hop, he]
  have hmv : moved L st.spe o = [] := by simp [moved, hop]
  have hsr : SR (upP p' w.heap.size 0) w' v (.arr e.size (List.replicate l.toNat e.zero)) := arr_of_rep hrep hrt c4 (by simp [hf]) _
  have hpost := single_post (L := L) (S := S) (o := o) (a := a) (q := st.spe) (s' := s.put o.dst (.arr e.size (List.replicate l.toNat e.zero))) (e0 := (0, e.size)) (hev'.weaken fun b _ hb => hb.elim) (fun b hb => by unfold upP; split; rfl; exact hz' b hb)
    (slot_value hI.size hsr) (bx_put (by intro _ h; cases h)) (kind_put (by intro h; cases h)) hfr hmv (u := v) (by rw [cellOf_SV (x := .cell _) hrep, hrep.cells]; rfl) (hrt.lower hlow) (fun b hb => .inl (by rw [hblk b hb]; exact Nat.le_refl _))
  rw [hd] at hput hspe hpost
  refine ⟨⟨by simp [eats, hop], hput.1, hput.2, hspe⟩, does_value (v := v) (w' := w') (by simp [execOp, hop, hs1, hs2, hrun]) ⟨_, hpost, ?_⟩⟩
  have hg : (s.put (some d) (.arr e.size (List.replicate l.toNat e.zero))).get d = .arr e.size (List.replicate l.toNat e.zero) := by rw [get_put, if_pos hlt]
  refine ⟨fun d' k' rows hd' h => ?_, fun d' e hd' h => ?_, fun d' hd' h => ?_⟩
  · rw [hd] at hd'; cases hd'
    rw [hg] at h
    cases h
    refine ⟨by simpa [isMake, hop] using hhome, by rw [hfr]; simp, hmv, fun b hb => ⟨by rw [hblk b hb]; exact Nat.le_refl _, by rw [hblk b hb]; simp [upP], hrt.lt hb⟩⟩
  · rw [hd] at hd'; cases hd'; rw [hg] at h; cases h
  · rw [hd] at hd'; cases hd'; rw [hg] at h; cases h
end
end Go.Proofs.Ytoljlooeiljpfaa

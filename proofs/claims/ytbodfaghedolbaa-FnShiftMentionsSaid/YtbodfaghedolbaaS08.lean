/- Generic texts and models for the proofs of this seat: part 8. -/
import Derived.Test.YtbodfaghedolbaaS07
set_option linter.unusedVariables false
set_option linter.unusedSimpArgs false
namespace Go.Proofs.Ytbodfaghedolbaa
open Go Go.RowKit
section
variable {P : Program} {L : Lay} {S : Sig} {call : Orc} {p : Stb} {w : World} {a : Act} {s s' : VS} {q : SPe} {o : Oper}
def OpGoal (P : Program) (L : Lay) (S : Sig) (q : SPe) (o : Oper) (a : Act) (p : Stb) (w : World) (s' : VS) : Prop := Does P o a w fun v w' => ∃ p', OpPost L S q o a p w s' v p' w'
theorem nil_fresh (v : Value) (hv : v = .slice none 0 0) (hz : Zp p w) (hs : a.tmps.size = s.σ.length) {x : AV} (h : SR p w v x) {k : Nat} (hf : fresh L S o = [(0, k)]) (hm : moved L q o = []) (hx : ∀ cs, x ≠ .box cs := by intro _ h; cases h) (hu : x ≠ .und := by intro h; cases h) : OpPost L S q o a p w (s.put o.dst x) v p w := by
  subst hv
  refine ⟨.refl _ _ _, hz, slot_value hs h, bx_put hx, kind_put hu, ?_, ?_, by rw [hm]; simp⟩
  · rw [hf]
    intro e he
    simp at he
    subst he
    exact ⟨_, rfl, .inl rfl, fun b hb => by cases hb⟩
  · rw [hf]
    intro e e' u u' b he he' hne
    simp at he he'
    subst he he'
    exact absurd rfl hne
theorem op_move {x : Operand} (hop : o.op = .move x ∨ o.op = .assign x) (hs : (mvOf L s o.type x).map (fun v => s.put o.dst v) = some s') (hsee : Sees p w a.tmps s x) (hsz : a.tmps.size = s.σ.length) (hz : Zp p w) : OpGoal P L S q o a p w s' := by
  simp only [Option.map_eq_some_iff] at hs
  obtain ⟨v, hv, rfl⟩ := hs
  have hr := mvOf_rep hv hsee
  obtain ⟨_, hkb, hku⟩ := mvOf_kind hv
  refine does_value (v := a.eval x) (w' := w) (by rcases hop with hop | hop <;> simp [execOp, hop]) ⟨p, ?_⟩
  cases x with
  | tmp t =>
    refine post_same hz hsz hr (by rcases hop with hop | hop <;> simp [fresh, hop]) ?_ hkb hku
    have : ∀ e ∈ moved L q o, e.2 = (t, e.1) := by
      rcases hop with hop | hop <;> simp only [moved, hop] <;> split <;> simp
    intro e he u hu
    rw [this e he] at hu
    exact hu
  | const c =>
    have hmv : moved L q o = [] := by rcases hop with hop | hop <;> simp [moved, hop]
    by_cases hc : c = .slice none 0 0
    · subst hc
      cases he : L.el o.type with
      | none => exact post_same hz hsz hr (by rcases hop with hop | hop <;> simp [fresh, hop, he]) (by rw [hmv]; simp) hkb hku
      | some i => exact nil_fresh _ rfl hz hsz hr (k := i.size) (by rcases hop with hop | hop <;> simp [fresh, hop, he]) hmv hkb hku
    · refine post_same hz hsz hr ?_ (by rw [hmv]; simp) hkb hku
      rcases hop with hop | hop <;> simp only [fresh, hop] <;> split <;> first | rfl | (rename_i h; simp_all)
  | global g => cases hv
  | func f => cases hv
theorem op_pick {c x y : Operand} (hop : o.op = .pick c x y) (hs : ((boolO L s c).bind fun t => (if t then svOf L s o.type x else svOf L s o.type y).map fun v => s.put o.dst (.v v)) = some s')
    (h1 : Sees p w a.tmps s c) (h2 : Sees p w a.tmps s x) (h3 : Sees p w a.tmps s y) (hsz : a.tmps.size = s.σ.length) (hz : Zp p w) : OpGoal P L S q o a p w s' := by
  simp only [Option.bind_eq_some_iff, Option.map_eq_some_iff] at hs
  obtain ⟨t, ht, v, hv, rfl⟩ := hs
  have hb := boolO_rep ht h1
  have hf : fresh L S o = [] := by simp [fresh, hop]
  have hm : moved L q o = [] := by simp [moved, hop]
  cases t with
  | true => exact does_value (v := a.eval x) (w' := w) (by simp [execOp, hop, hb, asBool]) ⟨p, post_same hz hsz (svOf_rep hv h2) hf (by rw [hm]; simp)⟩
  | false => exact does_value (v := a.eval y) (w' := w) (by simp [execOp, hop, hb, asBool]) ⟨p, post_same hz hsz (svOf_rep hv h3) hf (by rw [hm]; simp)⟩
theorem op_bin {op : BinOp} {t u : Nat} {x y : Operand} (hop : o.op = .binOp op t x y u) (hs : ((intO L s x).bind fun m => (intO L s y).bind fun n => (binV op m n).map fun c => s.put o.dst (.v (.cell c))) = some s')
    (h1 : Sees p w a.tmps s x) (h2 : Sees p w a.tmps s y) (hsz : a.tmps.size = s.σ.length) (hz : Zp p w) : OpGoal P L S q o a p w s' := by
  simp only [Option.bind_eq_some_iff, Option.map_eq_some_iff] at hs
  obtain ⟨m, hm, n, hn, c, hc, rfl⟩ := hs
  have e1 := intO_rep hm h1
  have e2 := intO_rep hn h2
  have hf : fresh L S o = [] := by simp [fresh, hop]
  have hmv : moved L q o = [] := by simp [moved, hop]
  have key : ∀ v : Value, Rep p w v c → (execOp a.eval o).run P w = .ok (.value v) w → OpGoal P L S q o a p w (s.put o.dst (.v (.cell c))) := fun v hv hr =>
    does_value hr ⟨p, post_same hz hsz (x := .v (.cell c)) hv hf (by rw [hmv]; simp)⟩
  unfold binV at hc
  split at hc <;> (try split at hc) <;> cases hc
  · exact key _ (.int _) (by simp [execOp, hop, e1, e2, binOp, Op.intArith, wrapI, eqGuard_at_int])
  · exact key _ (.int _) (by simp [execOp, hop, e1, e2, binOp, Op.intArith, wrapI, eqGuard_at_int])
  · exact key _ (.int _) (by simp [execOp, hop, e1, e2, binOp, Op.intArith, wrapI, eqGuard_at_int])
  · exact key _ (.bool _) (by simp [execOp, hop, e1, e2, binOp, Op.intCmp, eqGuard_at_int])
  · exact key _ (.bool _) (by simp [execOp, hop, e1, e2, binOp, Op.intCmp, eqGuard_at_int])
  · exact key _ (.bool _) (by simp [execOp, hop, e1, e2, binOp, Op.intCmp, eqGuard_at_int])
  · exact key _ (.bool _) (by simp [execOp, hop, e1, e2, binOp, Op.intCmp, eqGuard_at_int])
  · exact key _ (.bool _) (by simp [execOp, hop, e1, e2, binOp, Op.intCmp, eqGuard_at_int])
  · exact key _ (.bool _) (by simp [execOp, hop, e1, e2, binOp, Op.intCmp, eqGuard_at_int])
  · rename_i h0
    exact key _ (.int _) (by simp [execOp, hop, e1, e2, binOp, Op.intDiv, wrapI, eqGuard_at_int, h0])
  · rename_i h0
    exact key _ (.int _) (by simp [execOp, hop, e1, e2, binOp, Op.intDiv, eqGuard_at_int, h0])
theorem run_equal_bool {t : TypeId} (h : P.underlying t = some .bool) (m n : Bool) (w : World) : (Op.equal t (.bool m) (.bool n)).run P w = .ok (m == n) w := run_equalIn_bool w 9999 t m n h
theorem op_binB (hL : LayOk P L) {op : BinOp} {t u : Nat} {x y : Operand} (hop : o.op = .binOp op t x y u) {m : Bool} (hm : boolO L s x = some m) (hs : ((L.ti t).bind fun i => if i.kind = 1 then (boolO L s y).bind fun n => (binB op m n).map fun c => s.put o.dst (.v (.cell c)) else none) = some s')
    (h1 : Sees p w a.tmps s x) (h2 : Sees p w a.tmps s y) (hsz : a.tmps.size = s.σ.length) (hz : Zp p w) : OpGoal P L S q o a p w s' := by
  simp only [Option.bind_eq_some_iff] at hs
  obtain ⟨i, hi, hs⟩ := hs
  split at hs
  case isFalse => cases hs
  rename_i hk1
  simp only [Option.bind_eq_some_iff, Option.map_eq_some_iff] at hs
  obtain ⟨n, hn, c, hc, rfl⟩ := hs
  have hu := (hL t i hi).bool hk1
  have e1 := boolO_rep hm h1
  have e2 := boolO_rep hn h2
  have hf : fresh L S o = [] := by simp [fresh, hop]
  have hmv : moved L q o = [] := by simp [moved, hop]
  have key : ∀ v : Value, Rep p w v c → (execOp a.eval o).run P w = .ok (.value v) w → OpGoal P L S q o a p w (s.put o.dst (.v (.cell c))) := fun v hv hr =>
    does_value hr ⟨p, post_same hz hsz (x := .v (.cell c)) hv hf (by rw [hmv]; simp)⟩
  unfold binB at hc
  split at hc <;> cases hc
  · exact key _ (.bool _) (by simp [execOp, hop, e1, e2, binOp, Go.eqGuard, run_equal_bool hu])
  · exact key _ (.bool _) (by simp [execOp, hop, e1, e2, binOp, Go.eqGuard, run_equal_bool hu]; cases m <;> cases n <;> rfl)
theorem op_not {t : Nat} {x : Operand} (hop : o.op = .unOp .not t x) (hs : ((boolO L s x).map fun b => s.put o.dst (.v (.cell (.bool (!b))))) = some s')
    (h1 : Sees p w a.tmps s x) (hsz : a.tmps.size = s.σ.length) (hz : Zp p w) : OpGoal P L S q o a p w s' := by
  simp only [Option.map_eq_some_iff] at hs
  obtain ⟨b, hb, rfl⟩ := hs
  have e1 := boolO_rep hb h1
  exact does_value (v := .bool (!b)) (w' := w) (by simp [execOp, hop, e1, Op.unary]) ⟨p, post_same hz hsz (x := .v (.cell (.bool (!b)))) (.bool _) (by simp [fresh, hop]) (by simp [moved, hop])⟩
theorem op_load (hL : LayOk P L) {t : Nat} {x : Operand} (hop : o.op = .load t x) (hs : ((L.ti t).bind fun i => (ptrO s x).bind fun r => match r with
      | .ref cs => if i.size ≤ cs.length then (mkV i (cs.take i.size)).map fun v => s.put o.dst (.v v) else none
      | .box d off => match s.get d with
        | .box cs => if off + i.size ≤ cs.length then (mkV i ((cs.drop off).take i.size)).map fun v => s.put o.dst (.v v) else none
        | _ => none
      | .el _ _ _ _ => none) = some s')
    (h1 : Sees p w a.tmps s x) (hsz : a.tmps.size = s.σ.length) (hz : Zp p w) (hq : SPeOk q s) : OpGoal P L S q o a p w s' := by
  simp only [Option.bind_eq_some_iff] at hs
  obtain ⟨i, hi, r, hr, hs⟩ := hs
  have hT := hL t i hi
  have hp := ptrO_rep hr h1
  have hf : fresh L S o = [] := by simp [fresh, hop]
  cases r with
  | el _ _ _ _ => cases hs
  | ref cs =>
    simp only at hs
    split at hs
    · rename_i hlen
      simp only [Option.map_eq_some_iff] at hs
      obtain ⟨v, hv, rfl⟩ := hs
      obtain ⟨u, hu, hru⟩ := run_load_ref (P := P) hT hp hlen hv
      refine does_value (v := u) (w' := w) (by simp [execOp, hop, hu]) ⟨p, post_same hz hsz (x := .v v) hru hf ?_⟩
      have : ptrS q x = none := by
        unfold ptrO at hr
        split at hr
        · rename_i j
          unfold ptrS
          split at hr
          · rename_i r' hr'
            cases hr
            cases hqj : q.lookup j with
            | none => rw [hq.1 j hqj] at hr'; cases hr'
            | some z =>
              cases z with
              | none => simp [hqj]
              | some df => rw [hq.2 j df.1 df.2 hqj] at hr'; cases hr'
          · split at hr <;> cases hr
        · cases hr
      have hmv : moved L q o = [] := by simp [moved, hop, this]
      rw [hmv]; simp
    · cases hs
  | box d off =>
    simp only at hs
    have hsl := ptrO_box hr h1
    obtain ⟨b, hd, hx⟩ := hp
    split at hs
    · rename_i cs hcs
      split at hs
      · rename_i hlen
        simp only [Option.map_eq_some_iff] at hs
        obtain ⟨v, hv, rfl⟩ := hs
        have hsr := hsl.1
        rw [hcs] at hsr
        obtain ⟨b', arr, T, e, hb, hrl⟩ := hsr
        rw [hd] at e
        cases e
        obtain ⟨u, hu, hru, hcells⟩ := run_load_box (P := P) hT hb hrl hlen hv
        refine does_value (v := u) (w' := w) (by simp [execOp, hop, hx, hu]) ⟨p, post_same hz hsz (x := .v v) hru hf ?_⟩
        intro e he y hy
        have hmem : ∃ n, n < i.size ∧ e = (n, (d, off + n)) ∨ False := by
          have hps : ptrS q x = some (d, off) ∨ ptrS q x = none := by
            unfold ptrO at hr
            split at hr
            · rename_i j
              unfold ptrS
              split at hr
              · rename_i r' hr'
                cases hr
                cases hqj : q.lookup j with
                | none => rw [hq.1 j hqj] at hr'; cases hr'
                | some z =>
                  cases z with
                  | none => exact .inr (by simp [hqj])
                  | some df => rw [hq.2 j df.1 df.2 hqj] at hr'; cases hr'; exact .inl (by simp [hqj])
              · rename_i hnone
                split at hr
                · cases hr
                  cases hqj : q.lookup d with
                  | none => exact .inl (by simp [hqj])
                  | some z =>
                    cases z with
                    | none => exact .inr (by simp [hqj])
                    | some df => rw [hq.2 d df.1 df.2 hqj] at hnone; cases hnone
                · cases hr
            · cases hr
          rcases hps with hps | hps
          · simp only [moved, hop, hi, hps, List.mem_map, List.mem_range] at he
            obtain ⟨n, hn, rfl⟩ := he
            exact ⟨n, .inl ⟨hn, rfl⟩⟩
          · simp [moved, hop, hi, hps] at he
        obtain ⟨n, ⟨hn, rfl⟩ | hF⟩ := hmem
        · simp only at hy ⊢
          rw [hd] at hy
          have hy' : w.cell? ⟨b, off + n, none⟩ = some y := hy
          rw [cell_of_block hb] at hy'
          rw [cellOf_SV hru]
          have : u.cells.toList[n]? = some y := by
            rw [hcells, List.getElem?_take, if_pos hn, List.getElem?_drop]
            simpa using hy'
          simpa using this
        · exact hF.elim
      · cases hs
    · cases hs
theorem slot_pointer (hsz : a.tmps.size = s.σ.length) {d : Nat} (hd : d < s.σ.length) {r : Ptr} {v : Value} (hr : PtrOk p w (a.put (some d) v).tmps v r) :
    SlotOk p w (a.put (some d) v).tmps { (s.put (some d) .und) with pe := (d, r) :: (s.put (some d) .und).pe } d := by
  constructor
  · have : VS.get { (s.put (some d) .und) with pe := (d, r) :: (s.put (some d) .und).pe } d = (s.put (some d) .und).get d := rfl
    rw [this, get_put, if_pos hd, put_tmps (by omega)]
    intro b hb
    subst hb
    cases r with
    | ref cs => obtain ⟨_, _, e, _⟩ := hr; cases e
    | box d' off => obtain ⟨_, _, e⟩ := hr; cases e
    | el d' k n j => obtain ⟨_, _, _, _, _, e⟩ := hr; cases e
  · intro r' hr'
    simp [List.lookup] at hr'
    subst hr'
    rw [put_tmps (by omega)]
    exact hr
theorem ptr_bx {d : Nat} (hd : o.dst = some d) (r : Ptr) {R : Prop} : ∀ d' cs, o.dst = some d' → VS.get { (s.put (some d) .und) with pe := (d, r) :: (s.put (some d) .und).pe } d' = .box cs → R := by
  intro d' cs hd' h
  rw [hd] at hd'
  cases hd'
  have : (s.put (some d) .und).get d = .box cs := h
  rw [get_put] at this
  split at this <;> cases this
theorem op_fieldAddr (hL : LayOk P L) {t f : Nat} {x : Operand} (hop : o.op = .fieldAddr t x f) (hs : ((L.ti t).bind fun i => (ptrO s x).bind fun r => (i.fields[f]?).bind fun f =>
      match o.dst with
      | some d => if d < s.σ.length ∧ r.at d = false ∧ i.kind = 3 ∧ r.fits f.1 = true then
          let s' := s.put (some d) .und
          some { s' with pe := (d, match r with | .box b off => .box b (off + f.1) | .ref cs => .ref (cs.drop f.1) | r => r) :: s'.pe }
        else none
      | none => none) = some s')
    (h1 : Sees p w a.tmps s x) (hsz : a.tmps.size = s.σ.length) (hz : Zp p w) : OpGoal P L S q o a p w s' := by
  simp only [Option.bind_eq_some_iff] at hs
  obtain ⟨i, hi, r, hr, ⟨off, n⟩, hf, hs⟩ := hs
  have hT := hL t i hi
  have hp := ptrO_rep hr h1
  split at hs
  · rename_i d hd
    split at hs
    · rename_i hc
      cases hs
      have hfr : fresh L S o = [] := by simp [fresh, hop]
      have hmv : moved L q o = [] := by simp [moved, hop]
      have fin : ∀ (v : Value), (execOp a.eval o).run P w = .ok (.value v) w → PtrOk p w (a.put (some d) v).tmps v (match r with | .box b off' => .box b (off' + off) | .ref cs => .ref (cs.drop off) | r => r) → OpGoal P L S q o a p w { (s.put (some d) .und) with pe := (d, match r with | .box b off' => .box b (off' + off) | .ref cs => .ref (cs.drop off) | r => r) :: (s.put (some d) .und).pe } := by
        intro v hv hpv
        refine does_value hv ⟨p, .refl _ _ _, hz, fun d' hd' => ?_, ptr_bx hd _, (fun _ _ _ => .inr ⟨hfr, hmv⟩), by rw [hfr]; simp, by rw [hfr]; simp, by rw [hmv]; simp⟩
        rw [hd] at hd' ⊢
        cases hd'
        exact slot_pointer hsz hc.1 hpv
      cases r with
      | el _ _ _ _ => simp [Ptr.fits] at hc
      | ref cs =>
        obtain ⟨b, o', e, hb, hpp, hcc⟩ := hp
        have hrun := run_fieldAt (w := w) hT (b := b) (o := o') hf hc.2.2.1
        refine fin (.pointer (some ⟨b, o' + off, none⟩)) (by simp [execOp, hop, e, hrun]) ?_
        exact PRef.drop (p := p) (w := w) ⟨b, o', rfl, hb, hpp, hcc⟩ off (by have := hc.2.2.2; simpa [Ptr.fits] using this)
      | box bd off' =>
        obtain ⟨b, e1, e2⟩ := hp
        have hrun := run_fieldAt (w := w) hT (b := b) (o := off') hf hc.2.2.1
        refine fin (.pointer (some ⟨b, off' + off, none⟩)) (by simp [execOp, hop, e2, hrun]) ⟨b, ?_, rfl⟩
        have hne : bd ≠ d := by
          have := hc.2.1
          simp [Ptr.at] at this
          exact this
        rw [← e1]
        simp [Act.put, Ne.symm hne]
    · cases hs
  · cases hs
theorem op_indexAddr (hL : LayOk P L) {t : Nat} {x ix : Operand} (hop : o.op = .indexAddr t x ix) (hs : ((L.el t).bind fun e => (rowsO L s t x).bind fun (k, r) => (intO L s ix).bind fun n =>
      if 0 ≤ n ∧ n < r.length ∧ k = e.size then
        match o.dst with
        | some d => if d < s.σ.length then
            let s' := s.put (some d) .und
            some { s' with pe := (d, .ref (r.getD n.toNat [])) :: s'.pe }
          else none
        | none => none
      else none) = some s')
    (h1 : Sees p w a.tmps s x) (h2 : Sees p w a.tmps s ix) (hsz : a.tmps.size = s.σ.length) (hz : Zp p w) : OpGoal P L S q o a p w s' := by
  simp only [Option.bind_eq_some_iff] at hs
  obtain ⟨e, he, ⟨k, r⟩, hr, n, hn, hs⟩ := hs
  obtain ⟨u, hu, hT⟩ := hL.el he
  have hrep := rowsO_rep hr h1
  have hin := intO_rep hn h2
  simp only at hs
  split at hs
  · rename_i hc
    obtain ⟨c1, c2, rfl⟩ := hc
    split at hs
    · rename_i d hd
      split at hs
      · rename_i hlt
        cases hs
        have hfr : fresh L S o = [] := by simp [fresh, hop]
        have hmv : moved L q o = [] := by simp [moved, hop]
        obtain ⟨v, hv, hpv⟩ := run_indexAt (P := P) hu hT hrep c1 c2
        refine does_value (v := v) (w' := w) (by simp [execOp, hop, hin, hv]) ⟨p, .refl _ _ _, hz, fun d' hd' => ?_, ptr_bx hd _, (fun _ _ _ => .inr ⟨hfr, hmv⟩), by rw [hfr]; simp, by rw [hfr]; simp, by rw [hmv]; simp⟩
        rw [hd] at hd' ⊢
        cases hd'
        exact slot_pointer hsz hlt hpv
      · cases hs
    · cases hs
  · cases hs
theorem op_slice (hL : LayOk P L) {t : Nat} {x : Operand} {lo hi : Option Operand} (hop : o.op = .slice t x lo hi none) (hs : ((L.el t).bind fun e => (rowsO L s t x).bind fun (k, r) =>
      (match lo with | none => some 0 | some l => intO L s l).bind fun l => (match hi with | none => some (r.length : Int) | some h => intO L s h).bind fun h =>
        if 0 ≤ l ∧ l ≤ h ∧ h ≤ r.length ∧ k = e.size then some (s.put o.dst (.v (.cell (.sl k ((r.drop l.toNat).take (h.toNat - l.toNat)))))) else none) = some s')
    (h1 : Sees p w a.tmps s x) (h2 : ∀ y, lo = some y → Sees p w a.tmps s y) (h3 : ∀ y, hi = some y → Sees p w a.tmps s y) (hsz : a.tmps.size = s.σ.length) (hz : Zp p w) : OpGoal P L S q o a p w s' := by
  simp only [Option.bind_eq_some_iff] at hs
  obtain ⟨e, he, ⟨k, r⟩, hr, l, hl, h, hh, hs⟩ := hs
  obtain ⟨u, hu, hT⟩ := hL.el he
  have hrep := rowsO_rep hr h1
  simp only at hs
  split at hs
  · rename_i hc
    obtain ⟨c1, c2, c3, rfl⟩ := hc
    cases hs
    have hfr : fresh L S o = [] := by simp [fresh, hop]
    have hmv : moved L q o = [] := by simp [moved, hop]
    obtain ⟨v, hv, hrv⟩ := run_sliceAt (P := P) hu hT hrep (lo := lo.map a.eval) (hi := hi.map a.eval) (l := l) (h := h)
      (by cases lo with
          | none => cases hl; exact .inl ⟨rfl, rfl⟩
          | some y => exact .inr (by simp [intO_rep hl (h2 y rfl)]))
      (by cases hi with
          | none => cases hh; exact .inl ⟨rfl, rfl⟩
          | some y => exact .inr (by simp [intO_rep hh (h3 y rfl)])) c1 c2 c3
    exact does_value (v := v) (w' := w) (by simp [execOp, hop, hv]) ⟨p, post_same hz hsz (x := .v (.cell _)) hrv hfr (by rw [hmv]; simp)⟩
  · cases hs
theorem op_extract (hop : ∃ x j, o.op = .extract (.tmp x) j ∧ (match s.get x with | .tup vs => (vs[j]?).map fun v => s.put o.dst (.v v) | _ => none) = some s' ∧ Sees p w a.tmps s (.tmp x)) (hsz : a.tmps.size = s.σ.length) (hz : Zp p w) : OpGoal P L S q o a p w s' := by
  obtain ⟨x, j, hop, hs, hsee⟩ := hop
  split at hs
  · rename_i vs hvs
    simp only [Option.map_eq_some_iff] at hs
    obtain ⟨v, hv, rfl⟩ := hs
    have hsr := (hsee x (looks_self s x)).1
    rw [hvs] at hsr
    obtain ⟨arr, e, hreps⟩ := hsr
    obtain ⟨u, hu, hru⟩ := hreps.get hv
    simp only [Array.getElem?_toList] at hu
    refine does_value (v := u) (w' := w) (by
      have : a.eval (.tmp x) = .tuple arr := e
      simp [execOp, hop, this, Instr.extract, hu]) ⟨p, post_same hz hsz (x := .v v) hru (by simp [fresh, hop]) ?_⟩
    intro m hm y hy
    simp only [moved, hop] at hm
    split at hm
    · split at hm
      · rename_i i hi hle
        simp only [List.mem_map, List.mem_range] at hm
        obtain ⟨n, hn, rfl⟩ := hm
        simp only at hy ⊢
        rw [e] at hy
        simp only [cellOf, show (j * 64 + n) / 64 = j by omega, show (j * 64 + n) % 64 = n by omega, hu, Option.bind_some] at hy
        rw [cellOf_SV hru]
        exact hy
      · cases hm
    · cases hm
  · cases hs
theorem op_max {x y : Operand} {ats : Array TypeId} (hop : o.op = .call { callee := .builtin .max, args := #[x, y], argTypes := ats }) (hs : ((intO L s x).bind fun m => (intO L s y).map fun n => s.put o.dst (.v (.cell (.int (max2I m n))))) = some s')
    (h1 : Sees p w a.tmps s x) (h2 : Sees p w a.tmps s y) (hsz : a.tmps.size = s.σ.length) (hz : Zp p w) : OpGoal P L S q o a p w s' := by
  simp only [Option.bind_eq_some_iff, Option.map_eq_some_iff] at hs
  obtain ⟨m, hm, n, hn, rfl⟩ := hs
  have e1 := intO_rep hm h1
  have e2 := intO_rep hn h2
  refine does_value (v := .int .i64 (max2I m n)) (w' := w) ?_ ⟨p, post_same hz hsz (x := .v (.cell (.int (max2I m n)))) (.int _) (by simp [fresh, hop]) (by simp [moved, hop])⟩
  simp [execOp, hop, resolve, invoke, builtin, Builtin.max_, Builtin.max2, e1, e2, max2I]
theorem op_len (hL : LayOk P L) {x : Operand} {t : Nat} {ats : Array TypeId} (hop : o.op = .call { callee := .builtin .len, args := #[x], argTypes := ats }) (ht : ats.getD 0 0 = t) (hats : ats.size = 1)
    (hs : ((L.el t).bind fun _ => (rowsO L s t x).map fun (_, r) => s.put o.dst (.v (.cell (.int r.length)))) = some s') (h1 : Sees p w a.tmps s x) (hsz : a.tmps.size = s.σ.length) (hz : Zp p w) : OpGoal P L S q o a p w s' := by
  simp only [Option.bind_eq_some_iff, Option.map_eq_some_iff] at hs
  obtain ⟨e, he, ⟨k, r⟩, hr, rfl⟩ := hs
  obtain ⟨u, hu, hT⟩ := hL.el he
  have hrep := rowsO_rep hr h1
  have h0 : ats[0]? = some t := by
    rw [← ht]
    simp [Array.getD, hats]
  have : ∃ ad cap, a.eval x = .slice ad r.length cap := by
    rcases hrep.row with ⟨⟨ad, e⟩, rfl⟩ | ⟨b, o, cap, us, e, _⟩
    · exact ⟨ad, 0, e⟩
    · exact ⟨_, cap, e⟩
  obtain ⟨ad, cap, hev⟩ := this
  refine does_value (v := .int .i64 r.length) (w' := w) ?_ ⟨p, post_same hz hsz (x := .v (.cell (.int r.length))) (.int _) (by simp [fresh, hop]) (by simp [moved, hop])⟩
  simp [execOp, hop, resolve, invoke, builtin, Builtin.len_, h0, run_underlying hu, hev, goInt]
theorem single_post {e0 : Nat × Nat} {v : Value} {s' : VS} {p' : Stb} {w' : World} (hev : Evo (eatB L S o a) p w p' w') (hz' : Zp p' w') (hsl : ∀ d, o.dst = some d → SlotOk p' w' (a.put o.dst v).tmps s' d)
    (hbx : ∀ d cs, o.dst = some d → s'.get d = .box cs → v = .pointer (some ⟨w.heap.size, 0, none⟩) ∧ p' w.heap.size = 0 ∧ ∀ e ∈ fresh L S o, cellOf w' v e.1 = some (.slice none 0 0)) (hki : ∀ d, o.dst = some d → d < s'.σ.length → s'.get d ≠ .und ∨ (fresh L S o = [] ∧ moved L q o = [])) (hf : fresh L S o = [e0]) (hm : moved L q o = []) {u : Value} (hc : cellOf w' v e0.1 = some u) (hr : Rt p' w' u e0.2) (hb : ∀ b, blkOf u = some b → w.heap.size ≤ b ∨ eatB L S o a b) : OpPost L S q o a p w s' v p' w' := by
  refine ⟨hev, hz', hsl, hbx, hki, ?_, ?_, by rw [hm]; simp⟩
  · rw [hf]
    intro e he
    simp at he
    subst he
    exact ⟨u, hc, hr, hb⟩
  · rw [hf]
    intro e e' u u' b he he' hne
    simp at he he'
    subst he he'
    exact absurd rfl hne
theorem op_append (hL : LayOk P L) {x y : Operand} {t : Nat} (hop : o.op = .call { callee := .builtin .append, args := #[x, y], argTypes := #[t, t] })
    (hs : ((L.el t).bind fun e => (rowsO L s t x).bind fun (k, r) => (rowsO L s t y).bind fun (k', r') => if k = e.size ∧ k' = e.size ∧ 0 < e.size ∧ (r ++ r').length ≤ lim36 then some (s.put o.dst (.v (.cell (.sl k (r ++ r'))))) else none) = some s')
    (h1 : Sees p w a.tmps s x) (h2 : Sees p w a.tmps s y) (hsz : a.tmps.size = s.σ.length) (hz : Zp p w) (hr : ∀ x ∈ eats L S o, Rt p w (a.eval x.1) x.2) : OpGoal P L S q o a p w s' := by
  simp only [Option.bind_eq_some_iff] at hs
  obtain ⟨e, he, ⟨k, r⟩, hrx, ⟨k', r'⟩, hry, hs⟩ := hs
  simp only at hs
  split at hs
  · rename_i hc
    obtain ⟨rfl, rfl, hpos, hlim⟩ := hc
    cases hs
    obtain ⟨u, hu, hT⟩ := hL.el he
    have heats : eats L S o = [(x, e.size)] := by simp [eats, hop, he]
    have hrt := hr (x, e.size) (by rw [heats]; simp)
    obtain ⟨v, w', p', hrun, hrep, hrt', hev, hz', hblk⟩ := run_append_rep hu hT hpos (rowsO_rep hrx h1) (rowsO_rep hry h2) hrt hz hlim o.type
    have heat : ∀ b, eatB L S o a b ↔ blkOf (a.eval x) = some b := fun b => by simp [eatB, heats]
    refine does_value (v := v) (w' := w') (by simp [execOp, hop, resolve, invoke, builtin, hrun]) ⟨p', ?_⟩
    refine single_post (e0 := (0, e.size)) (hev.weaken fun b _ hb => (heat b).2 hb) hz' (slot_value hsz (x := .v (.cell _)) hrep) (bx_put (by intro _ h; cases h)) (kind_put (by intro h; cases h)) (by simp [fresh, hop, he]) (by simp [moved, hop]) (u := v) ?_ hrt' (fun b hb => ?_)
    · rw [cellOf_SV (x := .cell _) hrep, hrep.cells]; rfl
    · rcases hblk b hb with h | h
      · exact .inr ((heat b).2 h)
      · exact .inl (by omega)
  · cases hs
end
end Go.Proofs.Ytbodfaghedolbaa

/- Parts of slices, new slices of zeroes; what an operation does, for the walk. -/
import Derived.Test.YtoljlooeiljpfaaNg
namespace Go.Proofs.Ytoljlooeiljpfaa
open Go Go.RowKit
section
variable {P : Program} {p : Nat → Nat} {w : World}

theorem flatten_drop {k : Nat} : ∀ (r : List (List AC)) (l : Nat), (∀ x ∈ r, x.length = k) → (r.drop l).flatten = r.flatten.drop (l * k)
  | r, 0, _ => by simp
  | [], l + 1, _ => by simp
  | x :: r, l + 1, h => by
    have hx := h x List.mem_cons_self
    simp only [List.drop_succ_cons, List.flatten_cons]
    rw [flatten_drop r l (fun y hy => h y (List.mem_cons_of_mem _ hy)), Nat.succ_mul, Nat.add_comm, ← hx, List.drop_length_add_append]
theorem flatten_take {k : Nat} : ∀ (r : List (List AC)) (l : Nat), (∀ x ∈ r, x.length = k) → (r.take l).flatten = r.flatten.take (l * k)
  | r, 0, _ => by simp
  | [], l + 1, _ => by simp
  | x :: r, l + 1, h => by
    have hx := h x List.mem_cons_self
    simp only [List.take_succ_cons, List.flatten_cons]
    rw [flatten_take r l (fun y hy => h y (List.mem_cons_of_mem _ hy)), Nat.succ_mul, Nat.add_comm, ← hx, List.take_length_add_append]

theorem run_sliceAt {t u : Nat} {e : TI} (hu : P.underlying t = some (.slice u)) (hT : TOk P u e) {x : Value} {r : List (List AC)} (hx : Rep p w x (.sl e.size r)) {lo hi : Option Value} {l h : Int}
    (hlo : (lo = none ∧ l = 0) ∨ lo = some (.int .i64 l)) (hhi : (hi = none ∧ h = r.length) ∨ hi = some (.int .i64 h)) (h0 : 0 ≤ l) (h1 : l ≤ h) (h2 : h ≤ r.length) :
    ∃ v, (Instr.sliceAt t x lo hi none).run P w = .ok v w ∧ Rep p w v (.sl e.size ((r.drop l.toNat).take (h.toNat - l.toNat))) := by
  obtain ⟨inf, z, i1, i2, _, _, _, _⟩ := hT.info
  have hb : ∀ (a : Option Addr) (cap : Nat), r.length ≤ cap → (Instr.sliceAt t (.slice a r.length cap) lo hi none).run P w = .ok (.slice (if cap = l.toNat then a else a.map (·.add (l.toNat * e.size))) (h.toNat - l.toNat) (cap - l.toNat)) w := by
    intro a cap hc
    have c1 : h ≤ (cap : Int) := by omega
    have c2 : (0 : Int) ≤ h := by omega
    have c3 : ((h.toNat : Nat) : Int) = h := by omega
    rcases hhi with ⟨rfl, rfl⟩ | rfl
    · rcases hlo with ⟨rfl, rfl⟩ | rfl
      · simp [Instr.sliceAt, run_underlying hu, Instr.slice, Instr.sliceBounds, sizeOf, typeInfo, i1]
      · simp [Instr.sliceAt, run_underlying hu, Instr.slice, Instr.sliceBounds, Instr.sliceBound, asIntOf, h0, h1, sizeOf, typeInfo, i1, i2]
    · rcases hlo with ⟨rfl, rfl⟩ | rfl
      · simp [Instr.sliceAt, run_underlying hu, Instr.slice, Instr.sliceBounds, Instr.sliceBound, asIntOf, c1, c2, sizeOf, typeInfo, i1]
      · simp [Instr.sliceAt, run_underlying hu, Instr.slice, Instr.sliceBounds, Instr.sliceBound, asIntOf, c1, c2, c3, h0, h1, sizeOf, typeInfo, i1, i2]
  rcases hx.row with ⟨⟨ax, rfl⟩, rfl⟩ | ⟨b, o, cap, us, rfl, hk, hrows, hlt, hp, hcap, hus, hrep, hcells⟩
  · have hl0 : l = 0 := by simp at h2; omega
    have hh0 : h = 0 := by simp at h2; omega
    subst hl0
    subst hh0
    refine ⟨_, hb ax 0 (by simp), ?_⟩
    simp
    exact .nil _ _
  · refine ⟨_, hb (some ⟨b, o, none⟩) cap hcap, ?_⟩
    have hlen : ((r.drop l.toNat).take (h.toNat - l.toNat)).length = h.toNat - l.toNat := by rw [List.length_take, List.length_drop]; omega
    have hsub : ∀ y ∈ (r.drop l.toNat).take (h.toNat - l.toNat), y.length = e.size := fun y hy => hrows y (List.mem_of_mem_drop (List.mem_of_mem_take hy))
    have hmul : h.toNat * e.size ≤ r.length * e.size := Nat.mul_le_mul_right _ (by omega)
    have hsum : l.toNat * e.size + (h.toNat - l.toNat) * e.size = h.toNat * e.size := by rw [← Nat.add_mul]; congr 1; omega
    by_cases hc : cap = l.toNat
    · rw [if_pos hc]
      have := rep_row (p := p) (w := w) (b := b) (o := o) (cap := cap - l.toNat) (rows := (r.drop l.toNat).take (h.toNat - l.toNat)) (us := []) hk hsub hlt (by rw [hlen, show h.toNat - l.toNat = 0 by omega]; omega) (by rw [hlen]; omega)
        (by rw [show h.toNat - l.toNat = 0 by omega]; simp [RepL]) (fun j u h => by simp at h)
      rw [hlen] at this
      exact this
    · rw [if_neg hc]
      have := rep_row (p := p) (w := w) (b := b) (o := o + l.toNat * e.size) (cap := cap - l.toNat) (rows := (r.drop l.toNat).take (h.toNat - l.toNat)) (us := (us.drop (l.toNat * e.size)).take ((h.toNat - l.toNat) * e.size)) hk hsub hlt (by rw [hlen]; omega) (by rw [hlen]; omega)
        (by rw [flatten_take _ _ (fun y hy => hrows y (List.mem_of_mem_drop hy)), flatten_drop _ _ hrows]; exact (hrep.drop _).take _) (fun j u h => by
          have h := getElem?_take_some h
          rw [List.getElem?_drop] at h
          rw [Nat.add_assoc]
          exact hcells _ u h)
      rw [hlen] at this
      simpa [Addr.add_lit] using this

theorem made_list (z : Array Value) {k : Nat} (hz : z.size = k) (hk : 0 < k) : ∀ c : Nat, (List.range (c * k)).map (fun x => z[x % z.size]!) = (List.replicate c z.toList).flatten
  | 0 => by simp
  | c + 1 => by
    rw [List.replicate_succ, List.flatten_cons, ← made_list z hz hk c, Nat.succ_mul, Nat.add_comm, List.range_add, List.map_append, List.map_map]
    congr 1
    · apply List.ext_getElem?
      intro j
      rw [List.getElem?_map]
      rcases Nat.lt_or_ge j k with hj | hj
      · rw [List.getElem?_range hj]
        simp [Nat.mod_eq_of_lt (show j < z.size by omega), show j < z.size by omega]
      · rw [List.getElem?_eq_none (by simpa using hj), List.getElem?_eq_none (by simp; omega)]
        rfl
    · apply List.map_congr_left
      intro x _
      simp [← hz]
theorem RepL.replicate {z : List Value} {c : List AC} (h : RepL p w z c) : ∀ n : Nat, RepL p w (List.replicate n z).flatten (List.replicate n c).flatten
  | 0 => trivial
  | n + 1 => by simp only [List.replicate_succ, List.flatten_cons]; exact h.append (RepL.replicate h n)

theorem run_makeSlice_rep {t u : Nat} {e : TI} (hu : P.underlying t = some (.slice u)) (hT : TOk P u e) (hk : 0 < e.size) {l c : Int} (h0 : 0 ≤ l) (h1 : l ≤ c) (h2 : c ≤ lim36) (hz : Zp p w) :
    ∃ v w' p', (Instr.makeSlice t (.int .i64 l) (.int .i64 c)).run P w = .ok v w' ∧ Rep p' w' v (.sl e.size (List.replicate l.toNat e.zero)) ∧ Rt p' w' v e.size ∧ Evo (fun _ => False) p w p' w' ∧ Zp p' w' ∧
      (∀ b, blkOf v = some b → b = w.heap.size) := by
  obtain ⟨inf, z, i1, i2, i3, i4, i5, i6⟩ := hT.info
  have h2' : c ≤ 68719476736 := h2
  have hbytes : (inf.bytes : Int) * c ≤ 281474976710656 := by
    have a1 : (inf.bytes : Int) ≤ 2048 := by omega
    have a2 : (inf.bytes : Int) * c ≤ 2048 * 68719476736 := Int.mul_le_mul a1 h2' (by omega) (by omega)
    omega
  have hrun := run_make (P := P) w t u inf z hu i1 i4 .i64 .i64 l c h0 h1 hbytes (by omega)
  have hzlen := (ZL.rep i5 p w).length
  have hcl : madeCells z.cells (c.toNat * inf.size) = ((List.replicate l.toNat z.cells.toList).flatten ++ (List.replicate (c.toNat - l.toNat) z.cells.toList).flatten).toArray := by
    apply Array.ext'
    have := made_list z.cells i6 hk c.toNat
    rw [show c.toNat = l.toNat + (c.toNat - l.toNat) by omega, ← List.replicate_append_replicate, List.flatten_append, show l.toNat + (c.toNat - l.toNat) = c.toNat by omega] at this
    simpa [madeCells, i2] using this
  have hflen : ∀ n : Nat, (List.replicate n z.cells.toList).flatten.length = n * e.size := fun n => by
    induction n with
    | zero => simp
    | succ n ih => rw [List.replicate_succ, List.flatten_cons, List.length_append, ih, Nat.succ_mul]; simp [i6]; omega
  have hzk : e.zero.length = e.size := by rw [← hzlen, ← i6]; simp
  have hnew := row_new (p := p) (w := w) (k := e.size) (cap := c.toNat) (T := u) (rows := List.replicate l.toNat e.zero) (us := (List.replicate l.toNat z.cells.toList).flatten) (rest := (List.replicate (c.toNat - l.toNat) z.cells.toList).flatten) hk
    (fun r hr => by rw [(List.mem_replicate.1 hr).2]; exact hzk) (by simp; omega) (RepL.replicate (ZL.rep i5 p w) _) (by rw [hflen]; simp) hz (by rw [hflen, hflen, ← Nat.add_mul]; congr 1; omega)
  obtain ⟨a1, a2, a3, a4⟩ := hnew
  rw [hcl] at hrun
  simp only [List.length_replicate] at a1 a2 a3 a4
  exact ⟨_, _, _, hrun, a1, a2, a3, a4, fun b hb => by cases hb; rfl⟩

/-- What an operation does: it leaves a value, or a world, that meets R. -/
def Does (P : Program) (o : Oper) (a : Act) (w : World) (R : Value → World → Prop) : Prop :=
  ∀ (K : Act → World → Prop) (Q : Exit → Act → World → Prop), (∀ v w', R v w' → K (a.put o.dst v) w') → o.wp P a w K Q
theorem does_value {o : Oper} {a : Act} {v : Value} {w' : World} {R : Value → World → Prop} (h : (execOp a.eval o).run P w = .ok (.value v) w') (hR : R v w') : Does P o a w R := fun K Q hK => by
  unfold Oper.wp; rw [h]; exact hK v w' hR
theorem does_skip {o : Oper} {a : Act} {w' : World} {R : Value → World → Prop} (h : (execOp a.eval o).run P w = .ok .skip w') (hR : R undef w') : Does P o a w R := fun K Q hK => by
  unfold Oper.wp; rw [h]; exact hK undef w' hR
theorem does_call {o : Oper} {a : Act} {f : FuncId} {args : Array Value} {R : Value → World → Prop} (h : (execOp a.eval o).run P w = .ok (.enter f args) w) (hc : Calls P f args w fun e w' => ∃ v, e = .returned v ∧ R v w') : Does P o a w R := fun K Q hK => by
  unfold Oper.wp; rw [h, Oper.upon_enter]
  refine hc.mono fun e w' he => ?_
  obtain ⟨v, rfl, hR⟩ := he
  exact hK v w' hR
theorem Does.mono {o : Oper} {a : Act} {R R' : Value → World → Prop} (h : Does P o a w R) (hr : ∀ v w', R v w' → R' v w') : Does P o a w R' := fun K Q hK => h K Q fun v w' hR => hK v w' (hr v w' hR)
end
end Go.Proofs.Ytoljlooeiljpfaa

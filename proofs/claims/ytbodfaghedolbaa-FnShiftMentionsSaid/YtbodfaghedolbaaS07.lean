/- Generic texts and models for the proofs of this seat: part 7. -/
import Derived.Test.YtbodfaghedolbaaS06
set_option linter.unusedVariables false
set_option linter.unusedSimpArgs false
namespace Go.Proofs.Ytbodfaghedolbaa
open Go Go.RowKit
section
variable {P : Program} {p : Stb} {w : World}
theorem flatten_drop {k : Nat} : ∀ (r : List (List AC)) (l : Nat), (∀ x ∈ r, x.length = k) → (r.drop l).flatten = r.flatten.drop (l * k)
  | r, 0, _ => by simp
  | [], l + 1, _ => by simp
  | x :: r, l + 1, h => by
    have hx := h x List.mem_cons_self
    simp only [List.drop_succ_cons, List.flatten_cons]
    rw [flatten_drop r l (fun y hy => h y (List.mem_cons_of_mem _ hy)), Nat.succ_mul, Nat.add_comm, ← hx, List.drop_length_add_append]
theorem flatten_take {k : Nat} : ∀ (r : List (List AC)) (l : Nat), (∀ x ∈ r, x.length = k) → (r.take l).flatten = r.flatten.take (l * k)
  | r, 0, _ => by simp
  | [], l + 1, _ => by simp
  | x :: r, l + 1, h => by
    have hx := h x List.mem_cons_self
    simp only [List.take_succ_cons, List.flatten_cons]
    rw [flatten_take r l (fun y hy => h y (List.mem_cons_of_mem _ hy)), Nat.succ_mul, Nat.add_comm, ← hx, List.take_length_add_append]
theorem run_sliceAt {t u : Nat} {e : TI} (hu : P.underlying t = some (.slice u)) (hT : TOk P u e) {x : Value} {r : List (List AC)} (hx : Rep p w x (.sl e.size r)) {lo hi : Option Value} {l h : Int}
    (hlo : (lo = none ∧ l = 0) ∨ lo = some (.int .i64 l)) (hhi : (hi = none ∧ h = r.length) ∨ hi = some (.int .i64 h)) (h0 : 0 ≤ l) (h1 : l ≤ h) (h2 : h ≤ r.length) :
    ∃ v, (Instr.sliceAt t x lo hi none).run P w = .ok v w ∧ Rep p w v (.sl e.size ((r.drop l.toNat).take (h.toNat - l.toNat))) := by
  obtain ⟨inf, z, i1, i2, _, _, _, _⟩ := hT.info
  have hb : ∀ (a : Option Addr) (cap : Nat), r.length ≤ cap → (Instr.sliceAt t (.slice a r.length cap) lo hi none).run P w = .ok (.slice (if cap = l.toNat then a else a.map (·.add (l.toNat * e.size))) (h.toNat - l.toNat) (cap - l.toNat)) w := by
    intro a cap hc
    have c1 : h ≤ (cap : Int) := by omega
    have c2 : (0 : Int) ≤ h := by omega
    have c3 : ((h.toNat : Nat) : Int) = h := by omega
    rcases hhi with ⟨rfl, rfl⟩ | rfl
    · rcases hlo with ⟨rfl, rfl⟩ | rfl
      · simp [Instr.sliceAt, run_underlying hu, Instr.slice, Instr.sliceBounds, sizeOf, typeInfo, i1]
      · simp [Instr.sliceAt, run_underlying hu, Instr.slice, Instr.sliceBounds, Instr.sliceBound, asIntOf, h0, h1, sizeOf, typeInfo, i1, i2]
    · rcases hlo with ⟨rfl, rfl⟩ | rfl
      · simp [Instr.sliceAt, run_underlying hu, Instr.slice, Instr.sliceBounds, Instr.sliceBound, asIntOf, c1, c2, sizeOf, typeInfo, i1]
      · simp [Instr.sliceAt, run_underlying hu, Instr.slice, Instr.sliceBounds, Instr.sliceBound, asIntOf, c1, c2, c3, h0, h1, sizeOf, typeInfo, i1, i2]
  rcases hx.row with ⟨⟨ax, rfl⟩, rfl⟩ | ⟨b, o, cap, us, rfl, hk, hrows, hlt, ⟨hok, hp⟩, hcap, hus, hrep, hcells⟩
  · have hl0 : l = 0 := by simp at h2; omega
    have hh0 : h = 0 := by simp at h2; omega
    subst hl0
    subst hh0
    refine ⟨_, hb ax 0 (by simp), ?_⟩
    simp
    exact .nil _ _
  · refine ⟨_, hb (some ⟨b, o, none⟩) cap hcap, ?_⟩
    have hlen : ((r.drop l.toNat).take (h.toNat - l.toNat)).length = h.toNat - l.toNat := by rw [List.length_take, List.length_drop]; omega
    have hsub : ∀ y ∈ (r.drop l.toNat).take (h.toNat - l.toNat), y.length = e.size := fun y hy => hrows y (List.mem_of_mem_drop (List.mem_of_mem_take hy))
    have hmul : h.toNat * e.size ≤ r.length * e.size := Nat.mul_le_mul_right _ (by omega)
    have hsum : l.toNat * e.size + (h.toNat - l.toNat) * e.size = h.toNat * e.size := by rw [← Nat.add_mul]; congr 1; omega
    by_cases hc : cap = l.toNat
    · rw [if_pos hc]
      have := rep_row (p := p) (w := w) (b := b) (o := o) (cap := cap - l.toNat) (rows := (r.drop l.toNat).take (h.toNat - l.toNat)) (us := []) hk hsub hlt (by rw [hlen, show h.toNat - l.toNat = 0 by omega]; omega) hok (by rw [hlen]; omega)
        (by rw [show h.toNat - l.toNat = 0 by omega]; simp [RepL]) (fun j u h => by simp at h)
      rw [hlen] at this
      exact this
    · rw [if_neg hc]
      have := rep_row (p := p) (w := w) (b := b) (o := o + l.toNat * e.size) (cap := cap - l.toNat) (rows := (r.drop l.toNat).take (h.toNat - l.toNat)) (us := (us.drop (l.toNat * e.size)).take ((h.toNat - l.toNat) * e.size)) hk hsub hlt (by rw [hlen]; omega) hok (by rw [hlen]; omega)
        (by rw [flatten_take _ _ (fun y hy => hrows y (List.mem_of_mem_drop hy)), flatten_drop _ _ hrows]; exact (hrep.drop _).take _) (fun j u h => by
          have h := getElem?_take_some h
          rw [List.getElem?_drop] at h
          rw [Nat.add_assoc]
          exact hcells _ u h)
      rw [hlen] at this
      simpa [Addr.add_lit] using this
theorem made_list (z : Array Value) {k : Nat} (hz : z.size = k) (hk : 0 < k) : ∀ c : Nat, (List.range (c * k)).map (fun x => z[x % z.size]!) = (List.replicate c z.toList).flatten
  | 0 => by simp
  | c + 1 => by
    rw [List.replicate_succ, List.flatten_cons, ← made_list z hz hk c, Nat.succ_mul, Nat.add_comm, List.range_add, List.map_append, List.map_map]
    congr 1
    · apply List.ext_getElem?
      intro j
      rw [List.getElem?_map]
      rcases Nat.lt_or_ge j k with hj | hj
      · rw [List.getElem?_range hj]
        simp [Nat.mod_eq_of_lt (show j < z.size by omega), show j < z.size by omega]
      · rw [List.getElem?_eq_none (by simpa using hj), List.getElem?_eq_none (by simp; omega)]
        rfl
    · apply List.map_congr_left
      intro x _
      simp [← hz]
theorem RepL.replicate {z : List Value} {c : List AC} (h : RepL p w z c) : ∀ n : Nat, RepL p w (List.replicate n z).flatten (List.replicate n c).flatten
  | 0 => trivial
  | n + 1 => by simp only [List.replicate_succ, List.flatten_cons]; exact h.append (RepL.replicate h n)
theorem run_makeSlice_rep {t u : Nat} {e : TI} (hu : P.underlying t = some (.slice u)) (hT : TOk P u e) (hk : 0 < e.size) {l c : Int} (h0 : 0 ≤ l) (h1 : l ≤ c) (h2 : c ≤ lim36) (hz : Zp p w) :
    ∃ v w' p', (Instr.makeSlice t (.int .i64 l) (.int .i64 c)).run P w = .ok v w' ∧ Rep p' w' v (.sl e.size (List.replicate l.toNat e.zero)) ∧ Rt p' w' v e.size ∧ Evo (fun _ => False) p w p' w' ∧ Zp p' w' ∧
      (∀ b, blkOf v = some b → b = w.heap.size) := by
  obtain ⟨inf, z, i1, i2, i3, i4, i5, i6⟩ := hT.info
  have h2' : c ≤ 68719476736 := h2
  have hbytes : (inf.bytes : Int) * c ≤ 281474976710656 := by
    have a1 : (inf.bytes : Int) ≤ 2048 := by omega
    have a2 : (inf.bytes : Int) * c ≤ 2048 * 68719476736 := Int.mul_le_mul a1 h2' (by omega) (by omega)
    omega
  have hrun := run_make (P := P) w t u inf z hu i1 i4 .i64 .i64 l c h0 h1 hbytes (by omega)
  have hzlen := (ZL.rep i5 p w).length
  have hcl : madeCells z.cells (c.toNat * inf.size) = ((List.replicate l.toNat z.cells.toList).flatten ++ (List.replicate (c.toNat - l.toNat) z.cells.toList).flatten).toArray := by
    apply Array.ext'
    have := made_list z.cells i6 hk c.toNat
    rw [show c.toNat = l.toNat + (c.toNat - l.toNat) by omega, ← List.replicate_append_replicate, List.flatten_append, show l.toNat + (c.toNat - l.toNat) = c.toNat by omega] at this
    simpa [madeCells, i2] using this
  have hflen : ∀ n : Nat, (List.replicate n z.cells.toList).flatten.length = n * e.size := fun n => by
    induction n with
    | zero => simp
    | succ n ih => rw [List.replicate_succ, List.flatten_cons, List.length_append, ih, Nat.succ_mul]; simp [i6]; omega
  have hzk : e.zero.length = e.size := by rw [← hzlen, ← i6]; simp
  have hnew := row_new (p := p) (w := w) (k := e.size) (cap := c.toNat) (T := u) (rows := List.replicate l.toNat e.zero) (us := (List.replicate l.toNat z.cells.toList).flatten) (rest := (List.replicate (c.toNat - l.toNat) z.cells.toList).flatten) hk
    (fun r hr => by rw [(List.mem_replicate.1 hr).2]; exact hzk) (by simp; omega) (RepL.replicate (ZL.rep i5 p w) _) (by rw [hflen]; simp) hz (by rw [hflen, hflen, ← Nat.add_mul]; congr 1; omega)
  obtain ⟨a1, a2, a3, a4⟩ := hnew
  rw [hcl] at hrun
  simp only [List.length_replicate] at a1 a2 a3 a4
  exact ⟨_, _, _, hrun, a1, a2, a3, a4, fun b hb => by cases hb; rfl⟩
def Does (P : Program) (o : Oper) (a : Act) (w : World) (R : Value → World → Prop) : Prop :=
  ∀ (K : Act → World → Prop) (Q : Exit → Act → World → Prop), (∀ v w', R v w' → K (a.put o.dst v) w') → o.wp P a w K Q
theorem does_value {o : Oper} {a : Act} {v : Value} {w' : World} {R : Value → World → Prop} (h : (execOp a.eval o).run P w = .ok (.value v) w') (hR : R v w') : Does P o a w R := fun K Q hK => by
  unfold Oper.wp; rw [h]; exact hK v w' hR
theorem does_skip {o : Oper} {a : Act} {w' : World} {R : Value → World → Prop} (h : (execOp a.eval o).run P w = .ok .skip w') (hR : R undef w') : Does P o a w R := fun K Q hK => by
  unfold Oper.wp; rw [h]; exact hK undef w' hR
theorem does_call {o : Oper} {a : Act} {f : FuncId} {args : Array Value} {R : Value → World → Prop} (h : (execOp a.eval o).run P w = .ok (.enter f args) w) (hc : Calls P f args w fun e w' => ∃ v, e = .returned v ∧ R v w') : Does P o a w R := fun K Q hK => by
  unfold Oper.wp; rw [h, Oper.upon_enter]
  refine hc.mono fun e w' he => ?_
  obtain ⟨v, rfl, hR⟩ := he
  exact hK v w' hR
theorem Does.mono {o : Oper} {a : Act} {R R' : Value → World → Prop} (h : Does P o a w R) (hr : ∀ v w', R v w' → R' v w') : Does P o a w R' := fun K Q hK => h K Q fun v w' hR => hK v w' (hr v w' hR)
end
end Go.Proofs.Ytbodfaghedolbaa
namespace Go.Proofs.Ytbodfaghedolbaa
open Go Go.RowKit
structure Sg where
  takes : List (Option Nat)
  gives : List (Nat × Nat)
abbrev Sig := List (Nat × Sg)
def Sig.sg (S : Sig) (f : Nat) : Sg := (S.lookup f).getD ⟨[], []⟩
def cellOf (w : World) (v : Value) (n : Nat) : Option Value :=
  match v with
  | .pointer (some ⟨b, 0, none⟩) => w.cell? ⟨b, n, none⟩
  | .tuple vs => (vs[n / 64]?).bind fun u => u.cells[n % 64]?
  | v => v.cells[n]?
abbrev SPe := List (Nat × Option (Nat × Nat))
def ptrS (q : SPe) : Operand → Option (Nat × Nat)
  | .tmp i => match q.lookup i with
    | none => some (i, 0)
    | some r => r
  | _ => none
def eats (L : Lay) (S : Sig) (o : Oper) : List (Operand × Nat) :=
  match o.op with
  | .call { callee := .builtin .append, args, argTypes } => match args.toList, L.el (argTypes.getD 0 0) with
    | [x, _], some e => [(x, e.size)]
    | _, _ => []
  | .call { callee := .value (.func f), args, .. } => (args.toList.zip (S.sg f).takes).filterMap fun xk => xk.2.map fun k => (xk.1, k)
  | _ => []
def nilsOf : Nat → List AC → List (Nat × Nat)
  | _, [] => []
  | n, .sl k [] :: r => (n, k) :: nilsOf (n + 1) r
  | n, _ :: r => nilsOf (n + 1) r
def builtFrom (i : TI) (n : Nat) : List (Nat × Operand) → Option (Option (Nat × Nat))
  | [] => none
  | (f, x) :: rest =>
    match builtFrom i n rest with
    | some r => some r
    | none => match i.fields[f]? with
      | some (off, sz) => if off ≤ n ∧ n < off + sz then (match x with | .tmp t => some (some (t, n - off)) | _ => some none) else none
      | none => none
def fresh (L : Lay) (S : Sig) (o : Oper) : List (Nat × Nat) :=
  match o.op with
  | .move (.const (.slice none 0 0)) | .assign (.const (.slice none 0 0)) => match L.el o.type with
    | some e => [(0, e.size)]
    | none => []
  | .alloc t => match L.ti t with
    | some i => nilsOf 0 i.zero
    | none => []
  | .build t ps => match L.ti t with
    | some i => (nilsOf 0 i.zero).filter fun e => (builtFrom i e.1 ps.toList).isNone
    | none => []
  | .buildSlice t _ _ | .makeSlice t _ _ => match L.el t with
    | some e => [(0, e.size)]
    | none => []
  | .call { callee := .builtin .append, argTypes, .. } => match L.el (argTypes.getD 0 0) with
    | some e => [(0, e.size)]
    | none => []
  | .call { callee := .value (.func f), .. } => (S.sg f).gives
  | _ => []
def moved (L : Lay) (q : SPe) (o : Oper) : List (Nat × (Nat × Nat)) :=
  match o.op with
  | .move (.tmp x) | .assign (.tmp x) => match L.ti o.type with
    | some i => (List.range i.size).map fun n => (n, (x, n))
    | none => []
  | .box t (.tmp x) => match L.ti t with
    | some i => (List.range i.size).map fun n => (n, (x, n))
    | none => []
  | .load t x => match L.ti t, ptrS q x with
    | some i, some (d, off) => (List.range i.size).map fun n => (n, (d, off + n))
    | _, _ => []
  | .build t ps => match L.ti t with
    | some i => (List.range i.size).filterMap fun n => match builtFrom i n ps.toList with
      | some (some r) => some (n, r)
      | _ => none
    | none => []
  | .extract (.tmp x) j => match L.ti o.type with
    | some i => if i.size ≤ 64 then (List.range i.size).map fun n => (n, (x, j * 64 + n)) else []
    | none => []
  | _ => []
def eatB (L : Lay) (S : Sig) (o : Oper) (a : Act) (b : Nat) : Prop := ∃ x ∈ eats L S o, blkOf (a.eval x.1) = some b
def Apart (vs : List Value) : Prop := ∀ (i j : Nat) (u v : Value) (b : Nat), i ≠ j → vs[i]? = some u → vs[j]? = some v → blkOf u = some b → blkOf v ≠ some b
def CallOk1 (P : Program) (S : Sig) (f : FuncId) (run : List SV → Option AV) : Prop := ∀ args r, run args = some r → (isVal r = true ∧ ∃ fn, P.funcs[f]? = some fn ∧ fn.body.isSome = true ∧ (fn.name == "runtime.NumGoroutine") = false) ∧ ∀ p w (vals : List Value), RepSs p w vals args → Zp p w →
  (∀ (i k : Nat), (S.sg f).takes[i]? = some (some k) → ∃ v : Value, vals[i]? = some v ∧ Rt p w v k) →
  Apart ((vals.zip (S.sg f).takes).filterMap fun xk => xk.2.map fun _ => xk.1) →
  Calls P f vals.toArray w fun e w' => ∃ v, e = .returned v ∧ ∃ p', SR p' w' v r ∧ (∀ cs, r ≠ .box cs) ∧ r ≠ .und ∧ Evo (fun b => ∃ (i k : Nat) (v : Value), (S.sg f).takes[i]? = some (some k) ∧ vals[i]? = some v ∧ blkOf v = some b) p w p' w' ∧ Zp p' w' ∧
    (∀ e ∈ (S.sg f).gives, ∃ u, cellOf w' v e.1 = some u ∧ Rt p' w' u e.2 ∧ ∀ b, blkOf u = some b → w.heap.size ≤ b ∨ ∃ (i k : Nat) (v : Value), (S.sg f).takes[i]? = some (some k) ∧ vals[i]? = some v ∧ blkOf v = some b) ∧
    (∀ (e e' : Nat × Nat) (u u' : Value) (b : Nat), e ∈ (S.sg f).gives → e' ∈ (S.sg f).gives → e.1 ≠ e'.1 → cellOf w' v e.1 = some u → cellOf w' v e'.1 = some u' → blkOf u = some b → blkOf u' ≠ some b)
def CallOk (P : Program) (S : Sig) (call : Orc) : Prop := ∀ f, CallOk1 P S f (call f)
def SPeOk (q : SPe) (s : VS) : Prop := (∀ t, q.lookup t = none → s.pe.lookup t = none) ∧ ∀ t d off, q.lookup t = some (some (d, off)) → s.pe.lookup t = some (.box d off)
structure OpPost (L : Lay) (S : Sig) (q : SPe) (o : Oper) (a : Act) (p : Stb) (w : World) (s' : VS) (v : Value) (p' : Stb) (w' : World) : Prop where
  evo : Evo (eatB L S o a) p w p' w'
  zp : Zp p' w'
  slot : ∀ d, o.dst = some d → SlotOk p' w' (a.put o.dst v).tmps s' d
  bx : ∀ d cs, o.dst = some d → s'.get d = .box cs → v = .pointer (some ⟨w.heap.size, 0, none⟩) ∧ p' w.heap.size = 0 ∧ ∀ e ∈ fresh L S o, cellOf w' v e.1 = some (.slice none 0 0)
  kind : ∀ d, o.dst = some d → d < s'.σ.length → s'.get d ≠ .und ∨ (fresh L S o = [] ∧ moved L q o = [])
  fr : ∀ e ∈ fresh L S o, ∃ u, cellOf w' v e.1 = some u ∧ Rt p' w' u e.2 ∧ ∀ b, blkOf u = some b → w.heap.size ≤ b ∨ eatB L S o a b
  ap : ∀ (e e' : Nat × Nat) (u u' : Value) (b : Nat), e ∈ fresh L S o → e' ∈ fresh L S o → e.1 ≠ e'.1 → cellOf w' v e.1 = some u → cellOf w' v e'.1 = some u' → blkOf u = some b → blkOf u' ≠ some b
  mv : ∀ e ∈ moved L q o, ∀ u, cellOf w (a.tmps.getD e.2.1 undef) e.2.2 = some u → cellOf w' v e.1 = some u
section
variable {P : Program} {L : Lay} {S : Sig} {p : Stb} {w : World} {a : Act} {s s' : VS} {q : SPe} {o : Oper}
theorem get_put (s : VS) (d : Nat) (x : AV) : (s.put (some d) x).get d = if d < s.σ.length then x else .und := by
  simp only [VS.get, VS.put, List.getD, List.getElem?_set]
  split
  · split <;> rfl
  · rename_i h; exact absurd trivial h
theorem lookup_put (s : VS) (d : Nat) (x : AV) : (s.put (some d) x).pe.lookup d = none := by
  rcases h : (s.put (some d) x).pe.lookup d with _ | r
  · rfl
  · have := mem_of_lookup h
    unfold VS.put at this
    simp at this
theorem slot_put {m : Array Value} {d : Nat} {x : AV} (hlt : d < s.σ.length) (h : SR p w (m.getD d undef) x) : SlotOk p w m (s.put (some d) x) d := by
  refine ⟨?_, fun q' hq => by rw [lookup_put] at hq; cases hq⟩
  rw [get_put, if_pos hlt]
  exact h
theorem put_tmps {d : Nat} {v : Value} (hd : d < a.tmps.size) : (a.put (some d) v).tmps.getD d undef = v := by
  simp [Act.put, hd]
theorem put_tmps_out {d : Nat} {v : Value} (hd : ¬ d < a.tmps.size) : (a.put (some d) v).tmps.getD d undef = undef := by
  simp [Act.put, hd]
theorem slot_value {x : AV} {v : Value} (hs : a.tmps.size = s.σ.length) (h : SR p w v x) : ∀ d, o.dst = some d → SlotOk p w (a.put o.dst v).tmps (s.put o.dst x) d := by
  intro d hd
  rw [hd]
  by_cases hlt : d < a.tmps.size
  · exact slot_put (by rw [← hs]; exact hlt) (by rw [put_tmps hlt]; exact h)
  · refine ⟨?_, fun q' hq => by rw [lookup_put] at hq; cases hq⟩
    rw [get_put, if_neg (by rw [← hs]; exact hlt), put_tmps_out hlt]
    intro b hb
    cases hb
theorem cellOf_SV {v : Value} {x : SV} (h : RepS p w v x) (w' : World) (n : Nat) : cellOf w' v n = v.cells[n]? := by
  cases x with
  | cell c => cases h <;> rfl
  | agg cs => obtain ⟨b, rfl, _⟩ := h; rfl
theorem bx_put {x : AV} (hx : ∀ cs, x ≠ .box cs) {R : Prop} : ∀ d cs, o.dst = some d → (s.put o.dst x).get d = .box cs → R := by
  intro d cs hd h
  rw [hd, get_put] at h
  split at h
  · exact absurd h (hx cs)
  · cases h
theorem kind_put {x : AV} (hx : x ≠ .und) {R : Prop} : ∀ d, o.dst = some d → d < (s.put o.dst x).σ.length → (s.put o.dst x).get d ≠ .und ∨ R := by
  intro d hd hlt
  rw [hd] at hlt ⊢
  refine .inl ?_
  rw [get_put, if_pos (by simpa [VS.put] using hlt)]
  exact hx
theorem post_same (hz : Zp p w) (hs : a.tmps.size = s.σ.length) {x : AV} {v : Value} (h : SR p w v x) (hf : fresh L S o = []) (hm : ∀ e ∈ moved L q o, ∀ u, cellOf w (a.tmps.getD e.2.1 undef) e.2.2 = some u → cellOf w v e.1 = some u) (hx : ∀ cs, x ≠ .box cs := by intro _ h; cases h) (hu : x ≠ .und := by intro h; cases h) :
    OpPost L S q o a p w (s.put o.dst x) v p w :=
  ⟨.refl _ _ _, hz, slot_value hs h, bx_put hx, kind_put hu, by rw [hf]; simp, by rw [hf]; simp, hm⟩
end
end Go.Proofs.Ytbodfaghedolbaa

/- Whatever comes in reads as cells that fit its type: all types made of integers, bools, slices and structs. Nothing here speaks of a program's code. -/
import Derived.Test.YtoljlooeiljpfaaNz
import Derived.OpenShut
import Derived.Deep.Draws
import Derived.Deep.Slices
namespace Go.Proofs.Ytoljlooeiljpfaa
open Go Go.RowKit Go.Deep Go.ChangeShapes

/-- Cells that fit a type. -/
inductive WT (P : Program) : TypeId → List AC → Prop
  | int {t : TypeId} (h : P.underlying t = some (.int .i64)) (n : Int) (h1 : -9223372036854775808 ≤ n) (h2 : n ≤ 9223372036854775807) : WT P t [.int n]
  | bool {t : TypeId} (h : P.underlying t = some .bool) (b : Bool) : WT P t [.bool b]
  | slice {t e : TypeId} (h : P.underlying t = some (.slice e)) (rows : List (List AC)) (hm : rows.length ≤ maxLen) (hr : ∀ r ∈ rows, r.length = P.cellsOf e) (hw : ∀ r ∈ rows, WT P e r) : WT P t [.sl (P.cellsOf e) rows]
  | struct {t : TypeId} {fs : Array Field} (h : P.underlying t = some (.struct fs)) (cs : List AC) (hl : cs.length = P.cellsOf t) (hf : ∀ (i : Nat) (f : Field), fs[i]? = some f → WT P f.type ((cs.drop f.offset).take (P.cellsOf f.type))) : WT P t cs

def fieldsOk (P : Program) : Nat → List Field → Nat → Bool
  | off, [], tot => Nat.beq off tot
  | off, f :: fs, tot => Nat.beq f.offset off && fieldsOk P (off + P.cellsOf f.type) fs tot
/-- Types of which each part is one of them. -/
def plainChk (P : Program) (T : List TypeId) : Bool := T.all fun t =>
  match P.underlying t with
  | some (.int .i64) => Nat.beq (P.cellsOf t) 1
  | some .bool => Nat.beq (P.cellsOf t) 1
  | some (.slice e) => T.contains e && Nat.blt 0 (P.cellsOf e) && Nat.beq (P.cellsOf t) 1
  | some (.struct fs) => fieldsOk P 0 fs.toList (P.cellsOf t) && fs.toList.all fun f => T.contains f.type
  | _ => false
/-- How much of each block there is. -/
def pW (w : World) (b : Nat) : Nat := match w.heap[b]? with
  | some (.cells a _ _) => a.size
  | _ => 0
theorem pW_zp (w : World) : Zp (pW w) w := fun b hb => by
  unfold pW
  rw [Array.getElem?_eq_none hb]
theorem pW_cell {w : World} {b o : Nat} {u : Value} (h : w.cell? ⟨b, o, none⟩ = some u) : o < pW w b := by
  unfold World.cell? at h
  unfold pW
  split at h
  · rename_i c _ _ hc
    simp only [hc]
    simp at h
    exact (Array.getElem?_eq_some_iff.1 h).1
  · cases h
section
variable {H : Type} {enc : TypeId × Value → H} {P : Program} {w : World} {held : Bool}
theorem addZ {b o i : Nat} : (⟨b, o, none⟩ : Addr).add i = ⟨b, o + i, none⟩ := by unfold Addr.add; split <;> simp_all
theorem add_zero' (a : Addr) : a.add 0 = a := by
  obtain ⟨b, o, s⟩ := a
  unfold Addr.add
  split <;> simp_all
theorem nbeq' {a b : Nat} : (Nat.beq a b = true) = (a = b) := propext ⟨Nat.eq_of_beq_eq_true, fun h => by subst h; exact Nat.beq_refl a⟩
theorem wf_i64 {n : Int} (h : (Lit.int .i64 n).wf = true) : -9223372036854775808 ≤ n ∧ n ≤ 9223372036854775807 := by
  simp [Lit.wf, IntKind.min, IntKind.max, IntKind.signed, IntKind.bits] at h
  omega
theorem open_fields {p : Nat → Nat} {tot : Nat} {cs : List Value} (hcs : cs.length = tot) : ∀ (fs : List Field) (off : Nat), fieldsOk P off fs tot = true → off ≤ tot →
    (∀ f ∈ fs, ∃ a, RepL p w ((cs.drop f.offset).take (P.cellsOf f.type)) a ∧ a.length = P.cellsOf f.type ∧ WT P f.type a) →
    ∃ acs, RepL p w (cs.drop off) acs ∧ ∀ f ∈ fs, off ≤ f.offset ∧ WT P f.type ((acs.drop (f.offset - off)).take (P.cellsOf f.type))
  | [], off, h, _, _ => by
    simp only [fieldsOk, nbeq'] at h
    refine ⟨[], ?_, fun f hf => by cases hf⟩
    rw [List.drop_eq_nil_of_le (by omega)]
    trivial
  | f :: fs, off, h, hle, hf => by
    simp only [fieldsOk, Bool.and_eq_true, nbeq'] at h
    obtain ⟨h0, h1⟩ := h
    obtain ⟨a, ha, hl, hw⟩ := hf f List.mem_cons_self
    have hal := ha.length
    rw [List.length_take, List.length_drop, h0, hl] at hal
    have hle' : off + P.cellsOf f.type ≤ tot := by omega
    obtain ⟨b, hb, hr⟩ := open_fields hcs fs (off + P.cellsOf f.type) h1 hle' (fun g hg => hf g (List.mem_cons_of_mem _ hg))
    refine ⟨a ++ b, ?_, fun g hg => ?_⟩
    · have e : cs.drop off = (cs.drop off).take (P.cellsOf f.type) ++ cs.drop (off + P.cellsOf f.type) := by
        rw [← List.drop_drop, List.take_append_drop]
      rw [e]
      rw [h0] at ha
      exact ha.append hb
    · rcases List.mem_cons.1 hg with rfl | hg
      · refine ⟨by omega, ?_⟩
        rw [h0, Nat.sub_self, List.drop_zero, List.take_append_of_le_length (by omega), List.take_of_length_le (by omega)]
        exact hw
      · obtain ⟨g1, g2⟩ := hr g hg
        refine ⟨by omega, ?_⟩
        rw [List.drop_append, List.drop_eq_nil_of_le (by omega : a.length ≤ g.offset - off), List.nil_append, show g.offset - off - a.length = g.offset - (off + P.cellsOf f.type) by omega]
        exact g2
/-- **What comes in, opened.** -/
theorem open_wt {T : List TypeId} (hT : plainChk P T = true) : ∀ (fuel : Nat) (t : TypeId) (cs : List Value) (x : DataW H × List MemPlace), T.contains t = true → DataW.trod enc P w 0 (fun _ => true) held fuel t cs = some x →
    ∃ acs, RepL (pW w) w cs acs ∧ acs.length = P.cellsOf t ∧ WT P t acs := by
  intro fuel
  induction fuel with
  | zero => intro t cs x _ h; simp [DataW.trod] at h
  | succ fuel ih =>
    intro t cs x ht h
    have hc := List.all_eq_true.1 hT t (by simpa using ht)
    split at hc
    · rename_i hu
      rw [nbeq'] at hc
      obtain ⟨n, rfl, _, hwf⟩ := DataW.trod_int hu h
      obtain ⟨b1, b2⟩ := wf_i64 hwf
      exact ⟨[.int n], ⟨.int n, trivial⟩, by simp [hc], .int hu n b1 b2⟩
    · rename_i hu
      rw [nbeq'] at hc
      obtain ⟨b, rfl, _⟩ := DataW.trod_bool hu h
      exact ⟨[.bool b], ⟨.bool b, trivial⟩, by simp [hc], .bool hu b⟩
    · rename_i e hu
      simp only [Bool.and_eq_true, Nat.blt_eq, nbeq'] at hc
      rcases DataW.trod_slice hu h with ⟨rfl, _⟩ | ⟨a, len, cap, elems, rest, n, hf, rfl, _, hb, hl, hm, hlen, hel, hre, _⟩
      · exact ⟨[.sl (P.cellsOf e) []], ⟨.nil _ _, trivial⟩, by simp [hc.2], .slice hu [] (Nat.zero_le _) (fun r h => by cases h) (fun r h => by cases h)⟩
      · cases hf
        rcases Nat.eq_zero_or_pos cap with h0 | h0
        · obtain rfl : cap = 0 := h0
          obtain rfl : len = 0 := by omega
          exact ⟨[.sl (P.cellsOf e) []], ⟨.nil _ _, trivial⟩, by simp [hc.2], .slice hu [] (Nat.zero_le _) (fun r h => by cases h) (fun r h => by cases h)⟩
        · -- there is a cell at the address
          have hcell : ∃ u, w.cell? a = some u := by
            rcases Nat.eq_zero_or_pos len with hl0 | hl0
            · subst hl0
              have h1 := (hre rfl).2 0 (by omega)
              rw [List.getElem?_eq_getElem (by have := (hre rfl).1; omega), Option.bind_eq_some_iff] at h1
              obtain ⟨cs', h2, _⟩ := h1
              obtain ⟨_, k1, k2⟩ := World.cells?_some h2
              have := k2 0 (by omega)
              rw [List.getElem?_eq_getElem (by omega), Nat.zero_add, Nat.zero_mul, add_zero', add_zero'] at this
              exact ⟨_, this⟩
            · have h1 := hel 0 hl0
              rw [List.getElem?_eq_getElem (by omega), Option.bind_eq_some_iff] at h1
              obtain ⟨cs', h2, _⟩ := h1
              obtain ⟨_, k1, k2⟩ := World.cells?_some h2
              have := k2 0 (by omega)
              rw [List.getElem?_eq_getElem (by omega), Nat.zero_mul, add_zero', add_zero'] at this
              exact ⟨_, this⟩
          obtain ⟨u0, hu0⟩ := hcell
          have hspot := World.cell?_spot hu0
          obtain ⟨b, o, s⟩ := a
          simp only at hspot
          subst hspot
          have hblt := World.block_lt_of_cell? (w := w) (a := ⟨b, o, none⟩) (u := u0) (h := hu0)
          simp only at hblt
          have each : ∀ i, i < len → ∃ y : List Value × List AC, (∀ j, j < P.cellsOf e → w.cell? ⟨b, o + i * P.cellsOf e + j, none⟩ = y.1[j]?) ∧ y.1.length = P.cellsOf e ∧ RepL (pW w) w y.1 y.2 ∧ y.2.length = P.cellsOf e ∧ WT P e y.2 := by
            intro i hi
            have h1 := hel i hi
            rw [List.getElem?_eq_getElem (by omega), Option.bind_eq_some_iff] at h1
            obtain ⟨cs', h2, h3⟩ := h1
            obtain ⟨_, k1, k2⟩ := World.cells?_some h2
            obtain ⟨acs, r1, r2, r3⟩ := ih e cs' _ hc.1.1 h3
            exact ⟨(cs', acs), fun j hj => by have := k2 j hj; rw [addZ, addZ] at this; exact this, k1, r1, r2, r3⟩
          obtain ⟨Y, hY⟩ := choose_lt each
          have hrowsl : ((List.range len).map fun i => (Y i).2).length = len := by simp
          have hpb : o + len * P.cellsOf e ≤ pW w b := by
            rcases Nat.eq_zero_or_pos len with hl0 | hl0
            · subst hl0
              have := pW_cell hu0
              omega
            · obtain ⟨k1, k2, _⟩ := hY (len - 1) (by omega)
              have := k1 (P.cellsOf e - 1) (by omega)
              rw [List.getElem?_eq_getElem (by omega)] at this
              have := pW_cell this
              have h4 : (len - 1) * P.cellsOf e + P.cellsOf e = len * P.cellsOf e := by rw [← Nat.succ_mul]; congr 1; omega
              omega
          have hget : ∀ (i j : Nat) (c : AC), (((List.range len).map fun i => (Y i).2).getD i [])[j]? = some c → i < len ∧ (Y i).2[j]? = some c := by
            intro i j c hx
            rcases Nat.lt_or_ge i len with hi | hi
            · simp [List.getD, hi] at hx
              exact ⟨hi, hx⟩
            · simp [List.getD, List.getElem?_eq_none (show ((List.range len).map fun i => (Y i).2).length ≤ i by omega)] at hx
          have hrep : Rep (pW w) w (.slice (some ⟨b, o, none⟩) ((List.range len).map fun i => (Y i).2).length cap) (.sl (P.cellsOf e) ((List.range len).map fun i => (Y i).2)) := by
            refine .sl b o cap _ _ (fun i j => (Y i).1.getD j undef) hc.1.2 (fun r hr => ?_) hblt (by rw [hrowsl]; exact hpb) (by rw [hrowsl]; exact hl) (fun i j c hx => ?_) (fun i j c hx => ?_)
            · simp only [List.mem_map, List.mem_range] at hr
              obtain ⟨i, hi, rfl⟩ := hr
              exact (hY i hi).2.2.2.1
            · obtain ⟨hi, hx⟩ := hget i j c hx
              obtain ⟨k1, k2, k3, k4, _⟩ := hY i hi
              have hj := (List.getElem?_eq_some_iff.1 hx).1
              rw [k1 j (by omega), List.getElem?_eq_getElem (by omega), List.getD_eq_getElem?_getD, List.getElem?_eq_getElem (by omega), Option.getD_some]
            · obtain ⟨hi, hx⟩ := hget i j c hx
              obtain ⟨v, hv, hr⟩ := (hY i hi).2.2.1.get hx
              rw [List.getD_eq_getElem?_getD, hv, Option.getD_some]
              exact hr
          rw [hrowsl] at hrep
          refine ⟨[.sl (P.cellsOf e) ((List.range len).map fun i => (Y i).2)], ⟨hrep, trivial⟩, by simp [hc.2], .slice hu _ (by rw [hrowsl]; omega) (fun r hr => ?_) (fun r hr => ?_)⟩
          · simp only [List.mem_map, List.mem_range] at hr
            obtain ⟨i, hi, rfl⟩ := hr
            exact (hY i hi).2.2.2.1
          · simp only [List.mem_map, List.mem_range] at hr
            obtain ⟨i, hi, rfl⟩ := hr
            exact (hY i hi).2.2.2.2
    · rename_i fs hu
      simp only [Bool.and_eq_true, List.all_eq_true] at hc
      obtain ⟨xs, n, hn, _, hlen, hxl, hf⟩ := DataW.trod_struct hu h
      cases hn
      obtain ⟨acs, r1, r2⟩ := open_fields (P := P) (w := w) (p := pW w) hlen fs.toList 0 hc.1 (Nat.zero_le _) (fun f hfm => by
        obtain ⟨i, hi, he⟩ := List.mem_iff_getElem.1 hfm
        have hi' : i < fs.size := by simpa using hi
        have h1 := hf i f (by rw [Array.getElem?_eq_getElem hi']; simpa using he)
        rw [List.getElem?_eq_getElem (by omega)] at h1
        exact ih _ _ _ (hc.2 f hfm) h1)
      rw [List.drop_zero] at r1
      have hal : acs.length = P.cellsOf t := by rw [← r1.length, hlen]
      refine ⟨acs, r1, hal, .struct hu acs hal fun i f hi => ?_⟩
      have := (r2 f (by
        obtain ⟨h1, h2⟩ := Array.getElem?_eq_some_iff.1 hi
        rw [← h2]
        exact Array.getElem_mem_toList _)).2
      simpa using this
    · cases hc
end
end Go.Proofs.Ytoljlooeiljpfaa

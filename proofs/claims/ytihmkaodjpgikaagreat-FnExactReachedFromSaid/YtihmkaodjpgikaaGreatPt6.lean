/- Contracts of chapter 2: the typing of expressions by their kids. -/
import Derived.Test.YtihmkaodjpgikaaGreatPt5
import Derived.Test.YtihmkaodjpgikaaGreatGb
namespace Go.Proofs.YtihmkaodjpgikaaGreat
open Go.RowKit Go.BigFrame
theorem own_up {w w' : World} {base : Nat} {v : Value} {xs : List Int} (h : Own w base v xs) (hB : Below w.heap.size w w') : Own w' base v xs := h.keep (Same.of_below hB (Nat.le_refl _))
mutual
/-- All numbers of an expression are integers of the machine. -/
def Ex.rng : Ex → Prop
  | .node _ n ks => n ≤ 9223372036854775807 ∧ rngL ks
def rngL : List Ex → Prop
  | [] => True
  | e :: es => e.rng ∧ rngL es
end
theorem rng_eq (e : Ex) : e.rng ↔ e.num ≤ 9223372036854775807 ∧ rngL e.kids := by cases e; simp [Ex.rng, Ex.num, Ex.kids]
theorem rngL_at {es : List Ex} (h : rngL es) : ∀ {k : Nat}, k < es.length → (nthX es k).rng := by
  induction es with
  | nil => intro k hk; simp at hk
  | cons e es ih =>
    intro k hk
    cases k with
    | zero => exact h.1
    | succ k => exact ih h.2 (by simpa using hk)
/-- What typing is told of the scope. -/
structure Sc (w : World) (p : Pg) (pv gv bv : Value) (g b : List Int) : Prop where
  p : Pgm w 0 w.heap.size pv p
  g : Ints w 0 w.heap.size gv g
  b : Ints w 0 w.heap.size bv b
theorem Sc.up {w w' : World} {p : Pg} {pv gv bv : Value} {g b : List Int} (h : Sc w p pv gv bv g b) (hB : Below w.heap.size w w') : Sc w' p pv gv bv g b :=
  ⟨(h.p.keep (Same.of_below hB (Nat.le_refl _))).wide (Nat.le_refl _) hB.size, (h.g.keep (Same.of_below hB (Nat.le_refl _))).wide (Nat.le_refl _) hB.size, (h.b.keep (Same.of_below hB (Nat.le_refl _))).wide (Nat.le_refl _) hB.size⟩
/-- A kid's typing. -/
def TyC (p : Pg) (w0 : World) (L U : Nat) (u : Value) (e : Ex) : Prop := ∀ (pv gv bv : Value) (g b : List Int) (w : World), Same L U w0 w → U ≤ w.heap.size → Sc w p pv gv bv g b → b.length + 3 * e.sum one_ ≤ 1000000 →
  Calls Tryz.prog 65 #[pv, .agg #[gv, bv], .agg #[.int .i64 e.op, .int .i64 e.num, u]] w fun x w' => x = .returned (.int .i64 (e.ty p (g ++ b))) ∧ Below w.heap.size w w'
theorem kid_le {es : List Ex} {k : Nat} (h : k < es.length) : (nthX es k).sum one_ ≤ sumL one_ es := sumL_mem one_ h
set_option maxHeartbeats 1600000 in
theorem typesIn_of {w0 : World} {L U : Nat} {A : Option Addr} {c : Nat} {V : Nat → Value} {ks : List Ex} (p : Pg) (r : Row w0 L U 3 A ks.length c (fun i j => exCell (nthX ks i) (V i) j)) (HV : Hid (∀ i, i < ks.length → ∃ A' c', V i = .slice A' (nthX ks i).kids.length c')) (HC : Hid (∀ i, i < ks.length → TyC p w0 L U (V i) (nthX ks i))) (pv gv bv : Value) (g b : List Int) (w : World) (hS : Same L U w0 w) (hU : U ≤ w.heap.size) (sc : Sc w p pv gv bv g b) (hl : b.length + 3 * sumL one_ ks ≤ 1000000) (hn : ks.length ≤ 1000000) :
    Calls Tryz.prog 86 #[pv, .agg #[gv, bv], .slice A ks.length c] w fun x w' => ∃ u, x = .returned u ∧ Below w.heap.size w w' ∧ Ints w' w.heap.size w'.heap.size u (tysL p (g ++ b) ks) := by
  have hrl := r.le
  have hrc : c ≤ 9223372036854775807 := r.cap
  have hd0 := sc.p
  obtain ⟨dd, ff, rfl, hd, hf⟩ := hd0
  obtain ⟨B1, b1, rfl, l1, m1⟩ := hd.open_
  obtain ⟨B2, b2, rfl, l2, m2⟩ := hf.open_
  obtain ⟨A3, c3, rfl, l3, m3⟩ := sc.g.open_
  obtain ⟨A4, c4, rfl, l4, m4⟩ := sc.b.open_
  obtain ⟨W0, hW0⟩ : ∃ W0, W0 = (w.alloc (.cells #[.slice B1 p.decls.length b1, .slice B2 p.funcs.length b2] 32)).alloc (.cells #[.slice A3 g.length c3, .slice A4 b.length c4] 97) := ⟨_, rfl⟩
  have hB0 : Below w.heap.size w W0 := by rw [hW0]; exact ((Below.refl _ w).alloc (Nat.le_refl _) _).alloc (by simp) _
  have hz0 : W0.heap.size = w.heap.size + 2 := by rw [hW0]; simp
  have x0 : W0.heap[w.heap.size]? = some (.cells #[.slice B1 p.decls.length b1, .slice B2 p.funcs.length b2] 32 (0, 0)) := by rw [hW0]; refine Eq.trans (Below.heap_alloc _ _ _ (by simp only [World.size_alloc]; omega)) ?_; exact alloc_last _ _ _ (by simp)
  have x1 : W0.heap[w.heap.size + 1]? = some (.cells #[.slice A3 g.length c3, .slice A4 b.length c4] 97 (0, 0)) := by rw [hW0]; exact alloc_last _ _ _ (by simp)
  have HX := Lib.hid fun W (hB : Below W0.heap.size W0 W) => (show (W.cell? ⟨w.heap.size, 0, none⟩ = some (.slice B1 p.decls.length b1) ∧ W.cell? ⟨w.heap.size, 1, none⟩ = some (.slice B2 p.funcs.length b2)) ∧ (W.cell? ⟨w.heap.size + 1, 0, none⟩ = some (.slice A3 g.length c3) ∧ W.cell? ⟨w.heap.size + 1, 1, none⟩ = some (.slice A4 b.length c4)) from ⟨cells2 ((hB.block (w.heap.size) (by omega)).trans x0), cells2 ((hB.block (w.heap.size + 1) (by omega)).trans x1)⟩)
  have HSC := Lib.hid fun W (hB : Below W0.heap.size W0 W) => (sc.up hB0).up hB
  have HE := Lib.hid fun W (hB : Below W0.heap.size W0 W) => hB0.trans (hB.mono (show w.heap.size ≤ W0.heap.size by omega))
  have HS0 := Lib.hid fun W (hB : Below W0.heap.size W0 W) => hS.trans (Same.of_below (hB0.trans (hB.mono (show w.heap.size ≤ W0.heap.size by omega))) hU)
  have HZ := Lib.hid hz0
  clear sc hd hf hS x0 x1
  have q := HX.out W0 (Below.refl _ _)
  clear q hz0
  go_enter Tryz.func86, Tryz.ntmps86
  go_wp2_with fail
  rw [← hW0]
  clear hW0
  go_loopw [7, 12] (fun u i wr => ∃ k : Nat, k ≤ ks.length ∧ i = .int .i64 k ∧ Own wr W0.heap.size u (tysL p (g ++ b) (ks.take k)) ∧ Below W0.heap.size W0 wr) (fun _ i _ => ks.length - (intOf i).toNat)
  case atStart => exact ⟨0, by omega, rfl, Own.nil _ _, Below.refl _ _⟩
  case round =>
    obtain ⟨k, hk, rfl, hown, hB⟩ := hrel
    have hz := hB.size
    by_cases hlt : k < ks.length
    · have hS1 := HS0.out wr hB
      obtain ⟨bb, oo, rfl, _, hbb, e0, e1, e2⟩ := row_at (r.keep hS1) hlt
      obtain ⟨A', c', hV⟩ := HV.out k hlt
      have hln : (tysL p (g ++ b) (ks.take k)).length ≤ 10000000 := by rw [length_tysL, List.length_take]; omega
      have hBa := hB.alloc hz (.cells #[.int .i64 (nthX ks k).op, .int .i64 (nthX ks k).num, .slice A' (nthX ks k).kids.length c'] 64)
      obtain ⟨⟨P0, P1⟩, ⟨S0, S1⟩⟩ := HX.out _ hBa
      have hBb := (Below.refl wr.heap.size wr).alloc (Nat.le_refl _) (.cells #[.int .i64 (nthX ks k).op, .int .i64 (nthX ks k).num, .slice A' (nthX ks k).kids.length c'] 64)
      have hke := kid_le hlt
      have z0 := HZ.out
      have CK := HC.out k hlt _ _ _ g b _ (HS0.out _ hBa) (by have := hBa.size; omega) (HSC.out _ hBa) (by omega)
      rw [hV] at e2 CK
      have CK := Lib.hid CK
      have HBa := Lib.hid hBa
      have HO := Lib.hid (own_up hown hBb)
      obtain ⟨X, x, rfl, _, _⟩ := hown.ints.open_
      have st := tysL_step p (g ++ b) hlt
      have ST := Lib.hid st
      obtain ⟨t, ht⟩ : ∃ t, (nthX ks k).ty p (g ++ b) = t := ⟨_, rfl⟩
      rw [ht] at ST CK
      obtain ⟨ys, hys⟩ : ∃ ys, tysL p (g ++ b) (ks.take k) = ys := ⟨_, rfl⟩
      rw [hys] at ST HO hln
      clear hV hke hS1 hB hBb hown st ht hBa z0 hz
      go_wp2_with fail
      simp only [hys]
      refine CK.out.mono ?_
      rintro e w2 ⟨rfl, hB2⟩
      have ho2 := own_up HO.out hB2
      have hB3 := HBa.out.trans (hB2.mono HBa.out.size)
      have hz3 := hB3.size
      clear hB2 CK
      go_wp2_with (at_builtin; refine wp_push rfl (.tmp 16) (.tmp 21) rfl rfl ho2 rfl hln hz3 ?_)
      intro u3 w3 ho3 hB4 _
      have HH := Lib.hid (And.intro (show Own w3 W0.heap.size u3 (tysL p (g ++ b) (ks.take (k + 1))) by rw [ST.out]; exact ho3) (hB3.trans hB4))
      clear ho3 hB4 hB3 ho2
      go_wp2_with fail
      go_roundw
      case rel => exact ⟨k + 1, by omega, by go_num, HH.out.1, HH.out.2⟩
      case measure => simp [intOf]; omega
    · rw [tysL_all p (g ++ b) hlt] at hown
      obtain ⟨X, x, rfl, _, _⟩ := hown.ints.open_
      go_wp2_with fail
      go_ret
      exact ⟨_, rfl, HE.out _ hB, hown.ints.wide (by have := HZ.out; omega) (Nat.le_refl _)⟩
end Go.Proofs.YtihmkaodjpgikaaGreat

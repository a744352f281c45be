/- Copies of programs that the exact laws make. -/
import Derived.Test.YtdooageiopnhaabPg1
import Derived.Test.YtdooageiopnhaabT5
import Derived.Test.YtdooageiopnhaabX4
namespace Go.Proofs.Ytdooageiopnhaab
open Go.RowKit Go.BigFrame Go.Deep
theorem infoF : (Try.prog.info? 72).map (fun i => (i.zero, i.size, i.bytes)) = some (some (.agg #[.slice none 0 0, .int .i64 0, .int .i64 0, .int .i64 0, .slice none 0 0]), 5, 72) := by kernel_rfl
/-- Functions in blocks of the call's own. -/
def OFns (w : World) (L U : Nat) (v : Value) (fs : List Fn) : Prop := ∃ P K : Nat → Value, Blk w L U 72 v fs.length (cellsOf 5 fs.length fun i j => fnCell (nthF fs i) (P i) (K i) j) ∧
  (∀ i, i < fs.length → OInts w L U (P i) (nthF fs i).params) ∧ ∀ i, i < fs.length → OExs w L U (K i) (nthF fs i).body.kids
theorem OFns.keep {w w' : World} {L U : Nat} {v : Value} {fs : List Fn} (h : OFns w L U v fs) (s : Same L U w w') : OFns w' L U v fs := by
  obtain ⟨P, K, b, hp, hk⟩ := h
  exact ⟨P, K, b.keep s, fun i hi => (hp i hi).keep s, fun i hi => (hk i hi).keep s⟩
theorem OFns.wide {w : World} {L U L' U' : Nat} {v : Value} {fs : List Fn} (h : OFns w L U v fs) (hL : L' ≤ L) (hU : U ≤ U') : OFns w L' U' v fs := by
  obtain ⟨P, K, b, hp, hk⟩ := h
  exact ⟨P, K, b.wide hL hU, fun i hi => (hp i hi).wide hL hU, fun i hi => (hk i hi).wide hL hU⟩
theorem OFns.form {w : World} {L U : Nat} {v : Value} {fs : List Fn} (h : OFns w L U v fs) : ∃ g, v = .slice (some ⟨g, 0, none⟩) fs.length fs.length := by
  obtain ⟨P, K, ⟨g, a, e, _⟩, _⟩ := h
  exact ⟨g, e⟩
theorem OFns.fns {w : World} {L U : Nat} {v : Value} {fs : List Fn} (h : OFns w L U v fs) : Fns w L U v fs := by
  obtain ⟨P, K, b, hp, hk⟩ := h
  obtain ⟨g, e, r⟩ := b.row
  exact ⟨_, _, P, K, e, r, fun i hi => (hp i hi).ints, fun i hi => (hk i hi).exs⟩
/-- A program in blocks of the call's own. -/
def OPg (w : World) (L U : Nat) (v : Value) (p : Pg) : Prop := ∃ d f, v = .agg #[d, f] ∧ ODecs w L U d p.decls ∧ OFns w L U f p.funcs
theorem OPg.keep {w w' : World} {L U : Nat} {v : Value} {p : Pg} (h : OPg w L U v p) (s : Same L U w w') : OPg w' L U v p := by
  obtain ⟨d, f, e, hd, hf⟩ := h
  exact ⟨d, f, e, hd.keep s, hf.keep s⟩
theorem ODecs.wide {w : World} {L U L' U' : Nat} {v : Value} {ds : List Dec} (h : ODecs w L U v ds) (hL : L' ≤ L) (hU : U ≤ U') : ODecs w L' U' v ds := by
  obtain ⟨V, h1, h2⟩ := h
  exact ⟨V, h1.wide hL hU, fun i hi => (h2 i hi).wide hL hU⟩
theorem ODecs.form {w : World} {L U : Nat} {v : Value} {ds : List Dec} (h : ODecs w L U v ds) : ∃ g, v = .slice (some ⟨g, 0, none⟩) ds.length ds.length := by
  obtain ⟨V, ⟨g, a, e, _⟩, _⟩ := h
  exact ⟨g, e⟩
theorem OPg.wide {w : World} {L U L' U' : Nat} {v : Value} {p : Pg} (h : OPg w L U v p) (hL : L' ≤ L) (hU : U ≤ U') : OPg w L' U' v p := by
  obtain ⟨d, f, e, hd, hf⟩ := h
  exact ⟨d, f, e, hd.wide hL hU, hf.wide hL hU⟩
theorem OPg.pgm {w : World} {L U : Nat} {v : Value} {p : Pg} (h : OPg w L U v p) : Pgm w L U v p := by
  obtain ⟨d, f, e, hd, hf⟩ := h
  exact ⟨d, f, e, hd.decs, hf.fns⟩
theorem OPg.form {w : World} {L U : Nat} {v : Value} {p : Pg} (h : OPg w L U v p) : ∃ g g', v = .agg #[.slice (some ⟨g, 0, none⟩) p.decls.length p.decls.length, .slice (some ⟨g', 0, none⟩) p.funcs.length p.funcs.length] := by
  obtain ⟨d, f, rfl, hd, hf⟩ := h
  obtain ⟨g, rfl⟩ := hd.form
  obtain ⟨g', rfl⟩ := hf.form
  exact ⟨g, g', rfl⟩
set_option maxHeartbeats 800000 in
theorem toFunc_any {w0 : World} {L U : Nat} {A1 A2 : Option Addr} {c1 c2 : Nat} (f : Fn) (w : World) (hI : Ints w0 L U (.slice A1 f.params.length c1) f.params) (hX : Exs w0 L U (.slice A2 f.body.kids.length c2) f.body.kids) (hS : Same L U w0 w) (hU : U ≤ w.heap.size) (hs : SmallF f) :
    Calls Try.prog 75 #[.agg #[.slice A1 f.params.length c1, .int .i64 f.result, .int .i64 f.body.op, .int .i64 f.body.num, .slice A2 f.body.kids.length c2]] w fun e w' => ∃ up uk, e = .returned (.agg #[up, .int .i64 f.result, .int .i64 f.body.op, .int .i64 f.body.num, uk]) ∧ Below w.heap.size w w' ∧ OInts w' w.heap.size w'.heap.size up f.params ∧ OExs w' w.heap.size w'.heap.size uk f.body.kids := by
  have HC0 := Lib.hid hX
  have HI0 := Lib.hid hI
  have HS := Lib.hid hs
  clear hX hI hs
  go_enter Try.func75, Try.ntmps75
  go_wp2_with fail
  refine named ?_
  intro W hW
  have hB : Below w.heap.size w W := by
    rw [hW]
    iterate 2 (refine Below.alloc ?_ (by simp only [World.size_alloc]; omega) _)
    exact (Below.refl _ w).alloc (Nat.le_refl _) _
  have hsz : W.heap.size = w.heap.size + 3 := by rw [hW]; simp
  have b0 : W.heap[w.heap.size]? = some (.cells #[.slice A1 f.params.length c1, .int .i64 f.result, .int .i64 f.body.op, .int .i64 f.body.num, .slice A2 f.body.kids.length c2] 92 (0, 0)) := by
    rw [hW]
    iterate 2 (refine Eq.trans (Below.heap_alloc _ _ _ (by simp only [World.size_alloc]; omega)) ?_)
    exact alloc_last _ _ _ rfl
  have b1 : W.heap[w.heap.size + 1]? = some (.cells #[.slice none 0 0, .int .i64 0, .int .i64 0, .int .i64 0, .slice none 0 0] 72 (0, 0)) := by
    rw [hW]
    refine Eq.trans (Below.heap_alloc _ _ _ (by simp only [World.size_alloc]; omega)) ?_
    exact alloc_last _ _ _ (by simp)
  have b2 : W.heap[w.heap.size + 1 + 1]? = some (.cells #[.slice none 0 0, .int .i64 0, .int .i64 0, .int .i64 0, .slice none 0 0] 72 (0, 0)) := by
    rw [hW]
    exact alloc_last _ _ _ (by simp)
  clear hW
  refine (toIntS_any _ _ _ _ W (HI0.out.keep (hS.trans (Same.of_below hB hU))) (by omega) HS.out.1).mono ?_
  rintro e w1 ⟨u, rfl, hB1, ho⟩
  have c0 := (hB1.block _ (by omega)).trans b0
  have c1' := (hB1.block _ (by omega)).trans b1
  have c2' := (hB1.block _ (by omega)).trans b2
  obtain ⟨_, q01, q02, q03, q04⟩ := cells5 c0
  obtain ⟨q20, q21, q22, q23, q24⟩ := cells5 c2'
  have f20 := frozen_of_row w1 _ 0 _ _ c2'
  have f21 := frozen_of_row w1 _ 1 _ _ c2'
  have HO := Lib.hid ho
  obtain ⟨ga, aa, rfl, _, _, _, _, _⟩ := ho
  obtain ⟨W2, hW2⟩ : ∃ W2, W2 = (w1.setCell ⟨w.heap.size + 1 + 1, 0, none⟩ (.slice (some ⟨ga, 0, none⟩) f.params.length f.params.length)).setCell ⟨w.heap.size + 1 + 1, 1, none⟩ (.int .i64 f.result) := ⟨_, rfl⟩
  have hz2 : W2.heap.size = w1.heap.size := by rw [hW2]; simp
  have B2 : Below w.heap.size w W2 := by rw [hW2]; exact ((hB.trans (hB1.mono hB.size)).setCell (by simp; omega) _).setCell (by simp; omega) _
  have d1 : W2.heap[w.heap.size + 1]? = some (.cells #[.slice none 0 0, .int .i64 0, .int .i64 0, .int .i64 0, .slice none 0 0] 72 (0, 0)) := by rw [hW2]; exact (heap_setCell_other _ ⟨w.heap.size + 1 + 1, 1, none⟩ (w.heap.size + 1) _ (by simp)).trans ((heap_setCell_other w1 ⟨w.heap.size + 1 + 1, 0, none⟩ (w.heap.size + 1) _ (by simp)).trans c1')
  have d2 : W2.heap[w.heap.size + 1 + 1]? = some (.cells #[.slice (some ⟨ga, 0, none⟩) f.params.length f.params.length, .int .i64 f.result, .int .i64 0, .int .i64 0, .slice none 0 0] 72 (0, 0)) := by rw [hW2]; exact heap_setCell_same _ _ 1 _ _ _ (heap_setCell_same w1 _ 0 _ _ _ c2')
  have ho2 : OInts W2 W.heap.size W2.heap.size (.slice (some ⟨ga, 0, none⟩) f.params.length f.params.length) f.params := by
    rw [hW2]
    refine (HO.out.keep (fun k h1 h2 => ?_)).wide (Nat.le_refl _) (by simp)
    rw [heap_setCell_other _ _ _ _ (by simp; omega), heap_setCell_other _ _ _ _ (by simp; omega)]
  have hsz1 : W.heap.size ≤ w1.heap.size := hB1.size
  have HC := Lib.hid (And.intro d1 (And.intro d2 ho2))
  clear b0 b1 b2 c0 c1' c2' HO d1 d2 ho2 hB1
  go_wp2_with fail
  rw [← hW2]
  refine (toExpr_any (HC0.out.keep (hS.trans (Same.of_below B2 hU))) f.body.op f.body.num (by have := B2.size; omega) HS.out.2).mono ?_
  rintro e w3 ⟨u2, rfl, hB3, ho3⟩
  have e1 := (hB3.block _ (by omega)).trans HC.out.1
  have e2 := (hB3.block _ (by omega)).trans HC.out.2.1
  obtain ⟨r10, r11, r12, r13, r14⟩ := cells5 e1
  obtain ⟨r20, r21, r22, r23, r24⟩ := cells5 e2
  have f10 := frozen_of_row w3 _ 0 _ _ e1
  have f11 := frozen_of_row w3 _ 1 _ _ e1
  have f12 := frozen_of_row w3 _ 2 _ _ e1
  have f13 := frozen_of_row w3 _ 3 _ _ e1
  have f14 := frozen_of_row w3 _ 4 _ _ e1
  have f22 := frozen_of_row w3 _ 2 _ _ e2
  have f23 := frozen_of_row w3 _ 3 _ _ e2
  have f24 := frozen_of_row w3 _ 4 _ _ e2
  have HO3 := Lib.hid (And.intro (HC.out.2.2.keep (Same.of_below hB3 (Nat.le_refl _))) ho3)
  obtain ⟨gk, rfl⟩ := ho3.form
  have HE := Lib.hid e1
  have B3 := B2.trans (hB3.mono B2.size)
  have hsz3 : W2.heap.size ≤ w3.heap.size := hB3.size
  have HB3 := Lib.hid B3
  clear e1 e2 ho3 hW2 hB3 B3 q01 q02 q03 q04 q20 q21 q22 q23 q24 f20 f21 HC
  go_wp2_with fail
  (try simp only [Exit.inBlock, Exit.then])
  refine ended ?_
  intro W4 hW4
  have e4 : W4.heap[w.heap.size + 1]? = some (.cells #[.slice (some ⟨ga, 0, none⟩) f.params.length f.params.length, .int .i64 f.result, .int .i64 f.body.op, .int .i64 f.body.num, .slice (some ⟨gk, 0, none⟩) f.body.kids.length f.body.kids.length] 72 (0, 0)) := by
    rw [hW4]
    exact heap_setCell_same _ _ 4 _ _ _ (heap_setCell_same _ _ 3 _ _ _ (heap_setCell_same _ _ 2 _ _ _ (heap_setCell_same _ _ 1 _ _ _ (heap_setCell_same _ _ 0 _ _ _ ((heap_setCell_other _ ⟨w.heap.size + 1 + 1, 4, none⟩ (w.heap.size + 1) _ (by simp)).trans ((heap_setCell_other _ ⟨w.heap.size + 1 + 1, 3, none⟩ (w.heap.size + 1) _ (by simp)).trans ((heap_setCell_other w3 ⟨w.heap.size + 1 + 1, 2, none⟩ (w.heap.size + 1) _ (by simp)).trans HE.out)))))))
  obtain ⟨t0, t1, t2, t3, t4⟩ := cells5 e4
  have hz4 : W4.heap.size = w3.heap.size := by rw [hW4]; simp
  have kp : ∀ g, w.heap.size + 3 ≤ g → W4.heap[g]? = w3.heap[g]? := fun g hg => by
    rw [hW4, heap_setCell_other _ _ _ _ (by simp; omega), heap_setCell_other _ _ _ _ (by simp; omega), heap_setCell_other _ _ _ _ (by simp; omega), heap_setCell_other _ _ _ _ (by simp; omega), heap_setCell_other _ _ _ _ (by simp; omega), heap_setCell_other _ _ _ _ (by simp; omega), heap_setCell_other _ _ _ _ (by simp; omega), heap_setCell_other _ _ _ _ (by simp; omega)]
  have hB4 : Below w.heap.size w W4 := by
    rw [hW4]
    exact ((((((((HB3.out.setCell (by simp; omega) _).setCell (by simp; omega) _).setCell (by simp; omega) _).setCell (by simp) _).setCell (by simp) _).setCell (by simp) _).setCell (by simp) _).setCell (by simp) _)
  have ha4 : OInts W4 w.heap.size W4.heap.size (.slice (some ⟨ga, 0, none⟩) f.params.length f.params.length) f.params := (HO3.out.1.keep (fun g h1 _ => kp g (by omega))).wide (by omega) (by omega)
  have hk4 : OExs W4 w.heap.size W4.heap.size (.slice (some ⟨gk, 0, none⟩) f.body.kids.length f.body.kids.length) f.body.kids := (HO3.out.2.keep (fun g h1 _ => kp g (by omega))).wide (by omega) (by omega)
  clear hW4 e4 kp
  refine bodyPost_ret (v := .agg #[.slice (some ⟨ga, 0, none⟩) f.params.length f.params.length, .int .i64 f.result, .int .i64 f.body.op, .int .i64 f.body.num, .slice (some ⟨gk, 0, none⟩) f.body.kids.length f.body.kids.length]) ?_ rfl ⟨_, _, rfl, hB4, ha4, hk4⟩
  rw [results_one rfl]
  go_simp
set_option maxHeartbeats 1600000 in
theorem toFuncS_any (L U : Nat) (fs : List Fn) (v : Value) (w : World) (hv : Fns w L U v fs) (hU : U ≤ w.heap.size) (hs : SmallFs fs) :
    Calls Try.prog 51 #[v] w fun e w' => ∃ u, e = .returned u ∧ Below w.heap.size w w' ∧ OFns w' w.heap.size w'.heap.size u fs := by
  obtain ⟨B, d, rfl, hl, hd⟩ := hv.open_
  obtain ⟨i0, hi, hz0, hz1, hz2⟩ := info_parts infoF
  have hs1 := hs.1
  have HS := Lib.hid hs
  have HV0 := Lib.hid hv
  clear hs hv
  go_enter Try.func51, Try.ntmps51
  go_wp2_with (at_make; refine wpList_make_full _ rfl _ _ 42 rfl w.heap.size 72 i0 (.agg #[.slice none 0 0, .int .i64 0, .int .i64 0, .int .i64 0, .slice none 0 0]) 5 Try.underlying42 hi hz0 hz1 .i64 .i64 _ _ fs.length rfl rfl rfl rfl (by rw [hz2]; omega) (by unfold maxLen; omega) (Nat.le_refl _) ?_)
  intro w1 hown hg
  have hB1 : Below w.heap.size w w1 := (Below.refl _ w).grown hg (Nat.le_refl _) (fun k e => by cases e)
  have hF := Fill.made (k := 5) (z := #[.slice none 0 0, .int .i64 0, .int .i64 0, .int .i64 0, .slice none 0 0]) hown rfl (fun _ _ => undef)
  have hsz : w.heap.size < w1.heap.size := (hown.lt _ rfl).2
  clear hown hg
  go_wp2_with fail
  go_loopw [4] (fun i wr => ∃ (k : Nat) (VA VK : Nat → Value), k ≤ fs.length ∧ i = .int .i64 k ∧ Fill wr w.heap.size 5 fs.length k 72 (fun i j => fnCell (nthF fs i) (VA i) (VK i) j) (fun j => #[Value.slice none 0 0, .int .i64 0, .int .i64 0, .int .i64 0, .slice none 0 0][j]!) ∧ Hid (∀ i, i < k → OInts wr (w.heap.size + 1) wr.heap.size (VA i) (nthF fs i).params ∧ OExs wr (w.heap.size + 1) wr.heap.size (VK i) (nthF fs i).body.kids) ∧ Below w.heap.size w wr ∧ w.heap.size < wr.heap.size) (fun i _ => fs.length - (intOf i).toNat)
  case atStart => exact ⟨0, fun _ => undef, fun _ => undef, by omega, rfl, hF, fun i hi => absurd hi (by omega), hB1, hsz⟩
  case round =>
    obtain ⟨k, VA, VK, hk, rfl, hF, HV, hB, hsz⟩ := hrel
    by_cases hlt : k < fs.length
    · have hv1 := HV0.out.keep (Same.of_below hB hU)
      obtain ⟨b, o, A1, c1, A2, c2, rfl, _, hb, e0, e1, e2, e3, e4, hI, hX⟩ := hv1.at_ hlt
      have hz := hB.size
      have CK := Lib.hid (toFunc_any (nthF fs k) wr hI hX (Same.refl _ _ _) (by omega) (HS.out.2 k hlt))
      clear hI hX hv1
      go_wp2_with fail
      refine CK.out.mono ?_
      rintro e w2 ⟨ua, uk, rfl, hB2, hoa, hok⟩
      have hF2 := hF.keep (hB2.block _ hsz)
      have hq0 := hF2.cell hlt (j := 0) (by omega)
      have hq1 := hF2.cell hlt (j := 1) (by omega)
      have hq2 := hF2.cell hlt (j := 2) (by omega)
      have hq3 := hF2.cell hlt (j := 3) (by omega)
      have hq4 := hF2.cell hlt (j := 4) (by omega)
      have hf0 := hF2.free (k * 5)
      have hf1 := hF2.free (k * 5 + 1)
      have hf2 := hF2.free (k * 5 + 2)
      have hf3 := hF2.free (k * 5 + 3)
      have hf4 := hF2.free (k * 5 + 4)
      rw [Nat.add_zero] at hq0
      obtain ⟨W3, hW3⟩ : ∃ W3, W3 = ((((w2.setCell ⟨w.heap.size, k * 5, none⟩ ua).setCell ⟨w.heap.size, k * 5 + 1, none⟩ (.int .i64 (nthF fs k).result)).setCell ⟨w.heap.size, k * 5 + 2, none⟩ (.int .i64 (nthF fs k).body.op)).setCell ⟨w.heap.size, k * 5 + 3, none⟩ (.int .i64 (nthF fs k).body.num)).setCell ⟨w.heap.size, k * 5 + 4, none⟩ uk := ⟨_, rfl⟩
      have hz3 : W3.heap.size = w2.heap.size := by rw [hW3]; simp
      have hF3 : Fill W3 w.heap.size 5 fs.length (k + 1) 72 (fun i j => fnCell (nthF fs i) (if i = k then ua else VA i) (if i = k then uk else VK i) j) (fun j => #[Value.slice none 0 0, .int .i64 0, .int .i64 0, .int .i64 0, .slice none 0 0][j]!) := by
        rw [hW3]
        exact (hF2.congr (V' := fun i j => fnCell (nthF fs i) (if i = k then ua else VA i) (if i = k then uk else VK i) j) (fun i j hi _ => by rw [if_neg (by omega), if_neg (by omega)])).five (by simp [fnCell]) rfl rfl rfl (by simp [fnCell])
      have hB3 : Below w.heap.size w W3 := by
        rw [hW3]
        exact (((((hB.trans (hB2.mono hz)).setCell (Nat.le_refl _) _).setCell (Nat.le_refl _) _).setCell (Nat.le_refl _) _).setCell (Nat.le_refl _) _).setCell (Nat.le_refl _) _
      have kp0 : ∀ g, w.heap.size + 1 ≤ g → W3.heap[g]? = w2.heap[g]? := fun g hg => by
        rw [hW3, heap_setCell_other _ _ _ _ (by simp; omega), heap_setCell_other _ _ _ _ (by simp; omega), heap_setCell_other _ _ _ _ (by simp; omega), heap_setCell_other _ _ _ _ (by simp; omega), heap_setCell_other _ _ _ _ (by simp; omega)]
      have HV3 : Hid (∀ i, i < k + 1 → OInts W3 (w.heap.size + 1) W3.heap.size (if i = k then ua else VA i) (nthF fs i).params ∧ OExs W3 (w.heap.size + 1) W3.heap.size (if i = k then uk else VK i) (nthF fs i).body.kids) := by
        intro i hi
        by_cases e : i = k
        · rw [if_pos e, if_pos e, e]
          exact ⟨((hoa.wide (L' := w.heap.size + 1) (by omega) (Nat.le_refl _)).keep (fun g h1 _ => kp0 g h1)).wide (Nat.le_refl _) (by omega), ((hok.wide (L' := w.heap.size + 1) (by omega) (Nat.le_refl _)).keep (fun g h1 _ => kp0 g h1)).wide (Nat.le_refl _) (by omega)⟩
        · rw [if_neg e, if_neg e]
          obtain ⟨h1, h2⟩ := HV.out i (by omega)
          exact ⟨(((h1.keep (Same.of_below hB2 (Nat.le_refl _))).wide (Nat.le_refl _) hB2.size).keep (fun g h1 _ => kp0 g h1)).wide (Nat.le_refl _) (by omega), (((h2.keep (Same.of_below hB2 (Nat.le_refl _))).wide (Nat.le_refl _) hB2.size).keep (fun g h1 _ => kp0 g h1)).wide (Nat.le_refl _) (by omega)⟩
      have hsz3 : w.heap.size < W3.heap.size := by have := hB2.size; omega
      obtain ⟨ga, aa, rfl, _, _, _, _, _⟩ := hoa
      obtain ⟨gk, rfl⟩ := hok.form
      subst hW3
      have HH := Lib.hid (And.intro hF3 (And.intro hB3 hsz3))
      clear hF hF2 hB HV hB2 hF3 hB3 hsz3 hz3 kp0 hok CK
      go_wp2_with fail
      go_roundw
      case rel => exact ⟨k + 1, _, _, by omega, by go_num, HH.out.1, HV3, HH.out.2.1, HH.out.2.2⟩
      case measure => simp [intOf]; omega
    · go_wp2_with fail
      go_ret
      obtain rfl : k = fs.length := by omega
      exact ⟨_, rfl, hB, VA, VK, hF.blk (Nat.le_refl _) hsz (by unfold maxLen; omega), fun i hi => (HV.out i hi).1.wide (by omega) (Nat.le_refl _), fun i hi => (HV.out i hi).2.wide (by omega) (Nat.le_refl _)⟩
set_option maxHeartbeats 800000 in
theorem toProgram_any {w0 : World} {L U : Nat} {v : Value} {p : Pg} (w : World) (hv : Pgm w0 L U v p) (hS : Same L U w0 w) (hU : U ≤ w.heap.size) (hs : SmallP p) :
    Calls Try.prog 18 #[v] w fun e w' => ∃ u, e = .returned u ∧ Below w.heap.size w w' ∧ OPg w' w.heap.size w'.heap.size u p := by
  obtain ⟨dd, ff, rfl, hd, hf⟩ := hv
  obtain ⟨B1, b1, rfl, _, _⟩ := hd.open_
  obtain ⟨B2, b2, rfl, _, _⟩ := hf.open_
  have HD0 := Lib.hid hd
  have HF0 := Lib.hid hf
  have HS := Lib.hid hs
  clear hd hf hs
  go_enter Try.func18, Try.ntmps18
  go_wp2_with fail
  refine named ?_
  intro W hW
  have hB : Below w.heap.size w W := by
    rw [hW]
    iterate 2 (refine Below.alloc ?_ (by simp only [World.size_alloc]; omega) _)
    exact (Below.refl _ w).alloc (Nat.le_refl _) _
  have hsz : W.heap.size = w.heap.size + 3 := by rw [hW]; simp
  have b0 : W.heap[w.heap.size]? = some (.cells #[.slice B1 p.decls.length b1, .slice B2 p.funcs.length b2] 38 (0, 0)) := by
    rw [hW]
    iterate 2 (refine Eq.trans (Below.heap_alloc _ _ _ (by simp only [World.size_alloc]; omega)) ?_)
    exact alloc_last _ _ _ rfl
  have b1' : W.heap[w.heap.size + 1]? = some (.cells #[.slice none 0 0, .slice none 0 0] 44 (0, 0)) := by
    rw [hW]
    refine Eq.trans (Below.heap_alloc _ _ _ (by simp only [World.size_alloc]; omega)) ?_
    exact alloc_last _ _ _ (by simp)
  have b2' : W.heap[w.heap.size + 1 + 1]? = some (.cells #[.slice none 0 0, .slice none 0 0] 44 (0, 0)) := by
    rw [hW]
    exact alloc_last _ _ _ (by simp)
  clear hW
  refine (toDeclS_any _ _ _ _ W (HD0.out.keep (hS.trans (Same.of_below hB hU))) (by omega) HS.out.1).mono ?_
  rintro e w1 ⟨u, rfl, hB1, ho⟩
  have c0 := (hB1.block _ (by omega)).trans b0
  have c1' := (hB1.block _ (by omega)).trans b1'
  have c2' := (hB1.block _ (by omega)).trans b2'
  obtain ⟨_, q01⟩ := cells2 c0
  obtain ⟨q20, q21⟩ := cells2 c2'
  have f20 := frozen_of_row w1 _ 0 _ _ c2'
  have HO := Lib.hid ho
  obtain ⟨ga, rfl⟩ := ho.form
  obtain ⟨W2, hW2⟩ : ∃ W2, W2 = w1.setCell ⟨w.heap.size + 1 + 1, 0, none⟩ (.slice (some ⟨ga, 0, none⟩) p.decls.length p.decls.length) := ⟨_, rfl⟩
  have hz2 : W2.heap.size = w1.heap.size := by rw [hW2]; simp
  have B2' : Below w.heap.size w W2 := by rw [hW2]; exact (hB.trans (hB1.mono hB.size)).setCell (by simp; omega) _
  have d1 : W2.heap[w.heap.size + 1]? = some (.cells #[.slice none 0 0, .slice none 0 0] 44 (0, 0)) := by rw [hW2]; exact (heap_setCell_other w1 ⟨w.heap.size + 1 + 1, 0, none⟩ (w.heap.size + 1) _ (by simp)).trans c1'
  have d2 : W2.heap[w.heap.size + 1 + 1]? = some (.cells #[.slice (some ⟨ga, 0, none⟩) p.decls.length p.decls.length, .slice none 0 0] 44 (0, 0)) := by rw [hW2]; exact heap_setCell_same w1 _ 0 _ _ _ c2'
  have ho2 : ODecs W2 W.heap.size W2.heap.size (.slice (some ⟨ga, 0, none⟩) p.decls.length p.decls.length) p.decls := by
    rw [hW2]
    refine (HO.out.keep (fun k h1 h2 => ?_)).wide (Nat.le_refl _) (by simp)
    rw [heap_setCell_other _ _ _ _ (by simp; omega)]
  have hsz1 : W.heap.size ≤ w1.heap.size := hB1.size
  have HC := Lib.hid (And.intro d1 (And.intro d2 ho2))
  clear b0 b1' b2' c0 c1' c2' HO d1 d2 ho2 hB1 ho
  go_wp2_with fail
  rw [← hW2]
  refine (toFuncS_any _ _ _ _ W2 (HF0.out.keep (hS.trans (Same.of_below B2' hU))) (by have := B2'.size; omega) HS.out.2).mono ?_
  rintro e w3 ⟨u2, rfl, hB3, ho3⟩
  have e1 := (hB3.block _ (by omega)).trans HC.out.1
  have e2 := (hB3.block _ (by omega)).trans HC.out.2.1
  obtain ⟨r10, r11⟩ := cells2 e1
  obtain ⟨r20, r21⟩ := cells2 e2
  have f10 := frozen_of_row w3 _ 0 _ _ e1
  have f11 := frozen_of_row w3 _ 1 _ _ e1
  have f21 := frozen_of_row w3 _ 1 _ _ e2
  have HO3 := Lib.hid (And.intro (HC.out.2.2.keep (Same.of_below hB3 (Nat.le_refl _))) ho3)
  obtain ⟨gk, rfl⟩ := ho3.form
  have HE := Lib.hid e1
  have hsz3 : W2.heap.size ≤ w3.heap.size := hB3.size
  have HB3 := Lib.hid (B2'.trans (hB3.mono B2'.size))
  clear e1 e2 ho3 hW2 hB3 q01 q20 q21 f20 HC
  go_wp2_with fail
  (try simp only [Exit.inBlock, Exit.then])
  refine ended ?_
  intro W4 hW4
  have e4 : W4.heap[w.heap.size + 1]? = some (.cells #[.slice (some ⟨ga, 0, none⟩) p.decls.length p.decls.length, .slice (some ⟨gk, 0, none⟩) p.funcs.length p.funcs.length] 44 (0, 0)) := by
    rw [hW4]
    exact heap_setCell_same _ _ 1 _ _ _ (heap_setCell_same _ _ 0 _ _ _ ((heap_setCell_other w3 ⟨w.heap.size + 1 + 1, 1, none⟩ (w.heap.size + 1) _ (by simp)).trans HE.out))
  obtain ⟨t0, t1⟩ := cells2 e4
  have hz4 : W4.heap.size = w3.heap.size := by rw [hW4]; simp
  have kp : ∀ g, w.heap.size + 3 ≤ g → W4.heap[g]? = w3.heap[g]? := fun g hg => by
    rw [hW4, heap_setCell_other _ _ _ _ (by simp; omega), heap_setCell_other _ _ _ _ (by simp; omega), heap_setCell_other _ _ _ _ (by simp; omega)]
  have hB4 : Below w.heap.size w W4 := by
    rw [hW4]
    exact (((HB3.out.setCell (by simp; omega) _).setCell (by simp) _).setCell (by simp) _)
  have ha4 : ODecs W4 w.heap.size W4.heap.size (.slice (some ⟨ga, 0, none⟩) p.decls.length p.decls.length) p.decls := (HO3.out.1.keep (fun g h1 _ => kp g (by omega))).wide (by omega) (by omega)
  have hk4 : OFns W4 w.heap.size W4.heap.size (.slice (some ⟨gk, 0, none⟩) p.funcs.length p.funcs.length) p.funcs := (HO3.out.2.keep (fun g h1 _ => kp g (by omega))).wide (by omega) (by omega)
  clear hW4 e4 kp
  refine bodyPost_ret (v := .agg #[.slice (some ⟨ga, 0, none⟩) p.decls.length p.decls.length, .slice (some ⟨gk, 0, none⟩) p.funcs.length p.funcs.length]) ?_ rfl ⟨_, rfl, hB4, _, _, rfl, ha4, hk4⟩
  rw [results_one rfl]
  go_simp
end Go.Proofs.Ytdooageiopnhaab

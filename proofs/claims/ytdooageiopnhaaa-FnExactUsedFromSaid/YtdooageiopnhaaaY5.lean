/- Copies of blocks that the exact laws make. -/
import Derived.Test.YtdooageiopnhaaaY4
import Derived.Deep.Slices
namespace Go.Proofs.Ytdooageiopnhaaa
open Go.RowKit Go.BigFrame Go.Deep
theorem infoSt : (Try.prog.info? 54).map (fun i => (i.zero, i.size, i.bytes)) = some (some (.agg #[.int .i64 0, .int .i64 0, .int .i64 0, .slice none 0 0, .slice none 0 0]), 5, 72) := by kernel_rfl
theorem infoBl : (Try.prog.info? 30).map (fun i => (i.zero, i.size, i.bytes)) = some (some (.agg #[.slice none 0 0, .int .i64 0]), 2, 32) := by kernel_rfl
/-- Steps in blocks of the call's own. -/
inductive OSts (w : World) (L U : Nat) : Value → List St → Prop
  | mk (v : Value) (VA VK : Nat → Value) (KV : Nat → Nat → Value) (ss : List St) (b : Blk w L U 54 v ss.length (cellsOf 5 ss.length fun i j => stCell (nthS ss i) (VA i) (VK i) j))
      (ha : ∀ i, i < ss.length → OInts w L U (VA i) (nthS ss i).args)
      (hk : ∀ i, i < ss.length → Blk w L U 30 (VK i) (nthS ss i).kids.length (cellsOf 2 (nthS ss i).kids.length fun j x => blCell (nthB (nthS ss i).kids j) (KV i j) x))
      (h : ∀ i, i < ss.length → ∀ j, j < (nthS ss i).kids.length → OSts w L U (KV i j) (nthB (nthS ss i).kids j).steps) : OSts w L U v ss
theorem OSts.keep {w w' : World} {L U : Nat} {v : Value} {ss : List St} (h : OSts w L U v ss) (s : Same L U w w') : OSts w' L U v ss := by
  induction h with
  | mk v VA VK KV ss b ha hk _ ih => exact .mk v VA VK KV ss (b.keep s) (fun i hi => (ha i hi).keep s) (fun i hi => (hk i hi).keep s) ih
theorem OSts.wide {w : World} {L U L' U' : Nat} {v : Value} {ss : List St} (h : OSts w L U v ss) (hL : L' ≤ L) (hU : U ≤ U') : OSts w L' U' v ss := by
  induction h with
  | mk v VA VK KV ss b ha hk _ ih => exact .mk v VA VK KV ss (b.wide hL hU) (fun i hi => (ha i hi).wide hL hU) (fun i hi => (hk i hi).wide hL hU) ih
theorem OSts.form {w : World} {L U : Nat} {v : Value} {ss : List St} (h : OSts w L U v ss) : ∃ g, v = .slice (some ⟨g, 0, none⟩) ss.length ss.length := by
  cases h with
  | mk v VA VK KV ss b _ _ _ => obtain ⟨g, a, e, _⟩ := b; exact ⟨g, e⟩
theorem Row.congr {w : World} {L U k : Nat} {A : Option Addr} {n c : Nat} {V V' : Nat → Nat → Value} (h : Row w L U k A n c V) (e : ∀ i j, i < n → j < k → V i j = V' i j) : Row w L U k A n c V' :=
  ⟨h.le, h.cap, h.nil, fun hn => by
    obtain ⟨b, o, e0, h1, h2, hc⟩ := h.place hn
    exact ⟨b, o, e0, h1, h2, fun i j hi hj => by rw [← e i j hi hj]; exact hc i j hi hj⟩⟩
theorem OSts.sts {w : World} {L U : Nat} {v : Value} {ss : List St} (h : OSts w L U v ss) : Sts w L U v ss := by
  induction h with
  | mk v VA VK KV ss b ha hk _ ih =>
    obtain ⟨g, rfl, r⟩ := b.row
    obtain ⟨G, hG⟩ := choose_lt fun i (hi : i < ss.length) => (hk i hi).row
    refine .mk _ _ VA (fun i => some ⟨G i, 0, none⟩) (fun i => (nthS ss i).kids.length) KV ss (r.congr fun i j hi hj => ?_) (fun i hi => (ha i hi).ints) (fun i hi => (hG i hi).2) ih
    rw [(hG i hi).1]
/-- Blocks in blocks of the call's own. -/
def OBls (w : World) (L U : Nat) (v : Value) (bs : List Bl) : Prop := ∃ V : Nat → Value, Blk w L U 30 v bs.length (cellsOf 2 bs.length fun j x => blCell (nthB bs j) (V j) x) ∧ ∀ j, j < bs.length → OSts w L U (V j) (nthB bs j).steps
theorem OBls.keep {w w' : World} {L U : Nat} {v : Value} {bs : List Bl} (h : OBls w L U v bs) (s : Same L U w w') : OBls w' L U v bs := by
  obtain ⟨V, b, hi⟩ := h
  exact ⟨V, b.keep s, fun j hj => (hi j hj).keep s⟩
theorem OBls.wide {w : World} {L U L' U' : Nat} {v : Value} {bs : List Bl} (h : OBls w L U v bs) (hL : L' ≤ L) (hU : U ≤ U') : OBls w L' U' v bs := by
  obtain ⟨V, b, hi⟩ := h
  exact ⟨V, b.wide hL hU, fun j hj => (hi j hj).wide hL hU⟩
theorem OBls.form {w : World} {L U : Nat} {v : Value} {bs : List Bl} (h : OBls w L U v bs) : ∃ g, v = .slice (some ⟨g, 0, none⟩) bs.length bs.length := by
  obtain ⟨V, ⟨g, a, e, _⟩, _⟩ := h
  exact ⟨g, e⟩
set_option maxHeartbeats 400000 in
theorem toBlock_of {A : Option Addr} {d : Nat} {ss : List St} (y : Int) (w : World)
    (C : ∀ W, Below w.heap.size w W → Calls Try.prog 19 #[.slice A ss.length d] W fun e w' => ∃ u, e = .returned u ∧ Below W.heap.size W w' ∧ OSts w' W.heap.size w'.heap.size u ss) :
    Calls Try.prog 7 #[.agg #[.slice A ss.length d, .int .i64 y]] w fun e w' => ∃ u, e = .returned (.agg #[u, .int .i64 y]) ∧ Below w.heap.size w w' ∧ OSts w' w.heap.size w'.heap.size u ss := by
  have HC0 := Lib.hid C
  clear C
  go_enter Try.func7, Try.ntmps7
  go_wp2_with fail
  refine named ?_
  intro W hW
  have hB : Below w.heap.size w W := by
    rw [hW]
    iterate 2 (refine Below.alloc ?_ (by simp only [World.size_alloc]; omega) _)
    exact (Below.refl _ w).alloc (Nat.le_refl _) _
  have hsz : W.heap.size = w.heap.size + 3 := by rw [hW]; simp
  have b0 : W.heap[w.heap.size]? = some (.cells #[.slice A ss.length d, .int .i64 y] 24 (0, 0)) := by
    rw [hW]
    iterate 2 (refine Eq.trans (Below.heap_alloc _ _ _ (by simp only [World.size_alloc]; omega)) ?_)
    exact alloc_last _ _ _ rfl
  have b1 : W.heap[w.heap.size + 1]? = some (.cells #[.slice none 0 0, .int .i64 0] 30 (0, 0)) := by
    rw [hW]
    refine Eq.trans (Below.heap_alloc _ _ _ (by simp only [World.size_alloc]; omega)) ?_
    exact alloc_last _ _ _ (by simp)
  have b2 : W.heap[w.heap.size + 1 + 1]? = some (.cells #[.slice none 0 0, .int .i64 0] 30 (0, 0)) := by
    rw [hW]
    exact alloc_last _ _ _ (by simp)
  clear hW
  refine (HC0.out W hB).mono ?_
  rintro e w1 ⟨u, rfl, hB1, ho⟩
  have c0 := (hB1.block _ (by omega)).trans b0
  have c1 := (hB1.block _ (by omega)).trans b1
  have c2 := (hB1.block _ (by omega)).trans b2
  obtain ⟨q00, q01⟩ := two c0
  obtain ⟨q10, q11⟩ := two c1
  obtain ⟨q20, q21⟩ := two c2
  have f10 := frozen_of_row w1 _ 0 _ _ c1
  have f11 := frozen_of_row w1 _ 1 _ _ c1
  have f20 := frozen_of_row w1 _ 0 _ _ c2
  have f21 := frozen_of_row w1 _ 1 _ _ c2
  have HO := Lib.hid ho
  obtain ⟨g, rfl⟩ := ho.form
  have HC := Lib.hid (And.intro c1 c2)
  clear b0 b1 b2 c0 c1 c2 ho
  go_wp2_with fail
  (try simp only [Exit.inBlock, Exit.then])
  refine ended ?_
  intro W4 hW4
  have e4 : W4.heap[w.heap.size + 1]? = some (.cells #[.slice (some ⟨g, 0, none⟩) ss.length ss.length, .int .i64 y] 30 (0, 0)) := by
    rw [hW4]
    exact heap_setCell_same _ _ 1 _ _ _ (heap_setCell_same _ _ 0 _ _ _ ((heap_setCell_other _ ⟨w.heap.size + 1 + 1, 1, none⟩ (w.heap.size + 1) _ (by simp)).trans ((heap_setCell_other w1 ⟨w.heap.size + 1 + 1, 0, none⟩ (w.heap.size + 1) _ (by simp)).trans HC.out.1)))
  obtain ⟨r0, r1⟩ := two e4
  have hB4 : Below w.heap.size w W4 := by
    rw [hW4]
    exact (((((hB.trans (hB1.mono hB.size)).setCell (by simp; omega) _).setCell (by simp; omega) _).setCell (by simp) _).setCell (by simp) _)
  have ho4 : OSts W4 w.heap.size W4.heap.size (.slice (some ⟨g, 0, none⟩) ss.length ss.length) ss := by
    rw [hW4]
    refine (HO.out.keep (fun k h1 h2 => ?_)).wide (by omega) (by simp)
    rw [heap_setCell_other _ _ _ _ (by simp; omega), heap_setCell_other _ _ _ _ (by simp; omega), heap_setCell_other _ _ _ _ (by simp; omega), heap_setCell_other _ _ _ _ (by simp; omega)]
  clear hW4 e4
  refine bodyPost_ret (v := .agg #[.slice (some ⟨g, 0, none⟩) ss.length ss.length, .int .i64 y]) ?_ rfl ⟨_, rfl, hB4, ho4⟩
  rw [results_one rfl]
  go_simp
set_option maxHeartbeats 800000 in
theorem toBlockS_of {w0 : World} {L U : Nat} {A : Option Addr} {c : Nat} {V0 : Nat → Value} {bs : List Bl} (r : Row w0 L U 2 A bs.length c (fun j x => blCell (nthB bs j) (V0 j) x)) (hV : ∀ j, j < bs.length → ∃ A c, V0 j = .slice A (nthB bs j).steps.length c)
    (C : ∀ j, j < bs.length → ∀ W : World, Same L U w0 W → U ≤ W.heap.size → Calls Try.prog 19 #[V0 j] W fun e w' => ∃ u, e = .returned u ∧ Below W.heap.size W w' ∧ OSts w' W.heap.size w'.heap.size u (nthB bs j).steps)
    (w : World) (hS : Same L U w0 w) (hU : U ≤ w.heap.size) (hs1 : bs.length ≤ 1048576) :
    Calls Try.prog 40 #[.slice A bs.length c] w fun e w' => ∃ u, e = .returned u ∧ Below w.heap.size w w' ∧ OBls w' w.heap.size w'.heap.size u bs := by
  have hl := r.le
  have hc : c ≤ 9223372036854775807 := r.cap
  obtain ⟨i0, hi, hz0, hz1, hz2⟩ := info_parts infoBl
  have HV0 := Lib.hid hV
  have HC := Lib.hid C
  clear hV C
  go_enter Try.func40, Try.ntmps40
  go_wp2_with (at_make; refine wpList_make_full _ rfl _ _ 52 rfl w.heap.size 30 i0 (.agg #[.slice none 0 0, .int .i64 0]) 2 Try.underlying52 hi hz0 hz1 .i64 .i64 _ _ bs.length rfl rfl rfl rfl (by rw [hz2]; omega) (by unfold maxLen; omega) (Nat.le_refl _) ?_)
  intro w1 hown hg
  have hB1 : Below w.heap.size w w1 := (Below.refl _ w).grown hg (Nat.le_refl _) (fun k e => by cases e)
  have hF := Fill.made (k := 2) (z := #[.slice none 0 0, .int .i64 0]) hown rfl (fun _ _ => undef)
  have hsz : w.heap.size < w1.heap.size := (hown.lt _ rfl).2
  clear hown hg
  go_wp2_with fail
  go_loopw [4] (fun i wr => ∃ (k : Nat) (V : Nat → Value), k ≤ bs.length ∧ i = .int .i64 k ∧ Fill wr w.heap.size 2 bs.length k 30 (fun j x => blCell (nthB bs j) (V j) x) (fun j => #[Value.slice none 0 0, .int .i64 0][j]!) ∧ Hid (∀ i, i < k → OSts wr (w.heap.size + 1) wr.heap.size (V i) (nthB bs i).steps) ∧ Below w.heap.size w wr ∧ w.heap.size < wr.heap.size) (fun i _ => bs.length - (intOf i).toNat)
  case atStart => exact ⟨0, fun _ => undef, by omega, rfl, hF, fun i hi => absurd hi (by omega), hB1, hsz⟩
  case round =>
    obtain ⟨k, V, hk, rfl, hF, HV, hB, hsz⟩ := hrel
    by_cases hlt : k < bs.length
    · have hS1 : Same L U w0 wr := hS.trans (Same.of_below hB hU)
      obtain ⟨b, o, rfl, _, hb, c0, c1⟩ := brow_at (r.keep hS1) hlt
      have hz := hB.size
      obtain ⟨A', c', hV0⟩ := HV0.out k hlt
      have CC := HC.out k hlt
      rw [hV0] at c0 CC
      have CK := Lib.hid (toBlock_of (nthB bs k).result wr (fun W hW => CC W (hS1.trans (Same.of_below hW (by omega))) (by have := hW.size; omega)))
      clear hV0 hS1 CC
      go_wp2_with fail
      refine CK.out.mono ?_
      rintro e w2 ⟨u, rfl, hB2, ho⟩
      have hF2 := hF.keep (hB2.block _ hsz)
      have hq0 := hF2.cell hlt (j := 0) (by omega)
      have hq1 := hF2.cell hlt (j := 1) (by omega)
      have hf0 := hF2.free (k * 2)
      have hf1 := hF2.free (k * 2 + 1)
      rw [Nat.add_zero] at hq0
      obtain ⟨W3, hW3⟩ : ∃ W3, W3 = (w2.setCell ⟨w.heap.size, k * 2, none⟩ u).setCell ⟨w.heap.size, k * 2 + 1, none⟩ (.int .i64 (nthB bs k).result) := ⟨_, rfl⟩
      have hz3 : W3.heap.size = w2.heap.size := by rw [hW3]; simp
      have hF3 : Fill W3 w.heap.size 2 bs.length (k + 1) 30 (fun j x => blCell (nthB bs j) (if j = k then u else V j) x) (fun j => #[Value.slice none 0 0, .int .i64 0][j]!) := by
        rw [hW3]
        exact (hF2.congr (V' := fun j x => blCell (nthB bs j) (if j = k then u else V j) x) (fun i j hi _ => by rw [if_neg (by omega)])).two (by simp [blCell]) rfl
      have hB3 : Below w.heap.size w W3 := by
        rw [hW3]
        exact ((hB.trans (hB2.mono hz)).setCell (Nat.le_refl _) _).setCell (Nat.le_refl _) _
      have kp0 : ∀ g, w.heap.size + 1 ≤ g → W3.heap[g]? = w2.heap[g]? := fun g hg => by
        rw [hW3, heap_setCell_other _ _ _ _ (by simp; omega), heap_setCell_other _ _ _ _ (by simp; omega)]
      have HV3 : Hid (∀ i, i < k + 1 → OSts W3 (w.heap.size + 1) W3.heap.size (if i = k then u else V i) (nthB bs i).steps) := by
        intro i hi
        have kp : ∀ {v : Value} {xs : List St}, OSts w2 (w.heap.size + 1) w2.heap.size v xs → OSts W3 (w.heap.size + 1) W3.heap.size v xs := fun h =>
          (h.keep (fun g h1 _ => kp0 g h1)).wide (Nat.le_refl _) (by omega)
        by_cases e : i = k
        · rw [if_pos e, e]
          exact kp (ho.wide (by omega) (Nat.le_refl _))
        · rw [if_neg e]
          exact kp (((HV.out i (by omega)).keep (Same.of_below hB2 (Nat.le_refl _))).wide (Nat.le_refl _) hB2.size)
      have hsz3 : w.heap.size < W3.heap.size := by have := hB2.size; omega
      obtain ⟨g, rfl⟩ := ho.form
      subst hW3
      have HH := Lib.hid (And.intro hF3 (And.intro hB3 hsz3))
      clear hF hF2 hB HV hB2 hF3 hB3 hsz3 hz3 kp0 ho
      go_wp2_with fail
      go_roundw
      case rel => exact ⟨k + 1, _, by omega, by go_num, HH.out.1, HV3, HH.out.2.1, HH.out.2.2⟩
      case measure => simp [intOf]; omega
    · go_wp2_with fail
      go_ret
      obtain rfl : k = bs.length := by omega
      exact ⟨_, rfl, hB, V, hF.blk (Nat.le_refl _) hsz (by unfold maxLen; omega), fun i hi => (HV.out i hi).wide (by omega) (Nat.le_refl _)⟩
end Go.Proofs.Ytdooageiopnhaaa

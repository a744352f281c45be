/- Copies of steps that the exact laws make. -/
import Derived.Test.YtdooageiopnhaaaY5
namespace Go.Proofs.Ytdooageiopnhaaa
open Go.RowKit Go.BigFrame Go.Deep
set_option maxHeartbeats 800000 in
theorem toStep_of {w0 : World} {L U : Nat} {A1 K1 : Option Addr} {c1 k1 : Nat} (s : St) (w : World) (hI : Ints w0 L U (.slice A1 s.args.length c1) s.args) (hS : Same L U w0 w) (hU : U ≤ w.heap.size) (hs : s.args.length ≤ 1048576)
    (C : ∀ W, Same L U w0 W → U ≤ W.heap.size → Calls Try.prog 40 #[.slice K1 s.kids.length k1] W fun e w' => ∃ u, e = .returned u ∧ Below W.heap.size W w' ∧ OBls w' W.heap.size w'.heap.size u s.kids) :
    Calls Try.prog 29 #[.agg #[.int .i64 s.op, .int .i64 s.num, .int .i64 s.into, .slice A1 s.args.length c1, .slice K1 s.kids.length k1]] w fun e w' => ∃ ua uk, e = .returned (.agg #[.int .i64 s.op, .int .i64 s.num, .int .i64 s.into, ua, uk]) ∧ Below w.heap.size w w' ∧ OInts w' w.heap.size w'.heap.size ua s.args ∧ OBls w' w.heap.size w'.heap.size uk s.kids := by
  have HC0 := Lib.hid C
  have HI0 := Lib.hid hI
  clear C hI
  go_enter Try.func29, Try.ntmps29
  go_wp2_with fail
  refine named ?_
  intro W hW
  have hB : Below w.heap.size w W := by
    rw [hW]
    iterate 2 (refine Below.alloc ?_ (by simp only [World.size_alloc]; omega) _)
    exact (Below.refl _ w).alloc (Nat.le_refl _) _
  have hsz : W.heap.size = w.heap.size + 3 := by rw [hW]; simp
  have b0 : W.heap[w.heap.size]? = some (.cells #[.int .i64 s.op, .int .i64 s.num, .int .i64 s.into, .slice A1 s.args.length c1, .slice K1 s.kids.length k1] 51 (0, 0)) := by
    rw [hW]
    iterate 2 (refine Eq.trans (Below.heap_alloc _ _ _ (by simp only [World.size_alloc]; omega)) ?_)
    exact alloc_last _ _ _ rfl
  have b1 : W.heap[w.heap.size + 1]? = some (.cells #[.int .i64 0, .int .i64 0, .int .i64 0, .slice none 0 0, .slice none 0 0] 54 (0, 0)) := by
    rw [hW]
    refine Eq.trans (Below.heap_alloc _ _ _ (by simp only [World.size_alloc]; omega)) ?_
    exact alloc_last _ _ _ (by simp)
  have b2 : W.heap[w.heap.size + 1 + 1]? = some (.cells #[.int .i64 s.op, .int .i64 s.num, .int .i64 s.into, .slice none 0 0, .slice none 0 0] 54 (0, 0)) := by
    rw [hW]
    exact alloc_last _ _ _ (by simp)
  clear hW
  refine (toIntS_any _ _ _ _ W (HI0.out.keep (hS.trans (Same.of_below hB hU))) (by omega) hs).mono ?_
  rintro e w1 ⟨u, rfl, hB1, ho⟩
  have c0 := (hB1.block _ (by omega)).trans b0
  have c1' := (hB1.block _ (by omega)).trans b1
  have c2 := (hB1.block _ (by omega)).trans b2
  obtain ⟨_, _, _, _, q04⟩ := five c0
  obtain ⟨q20, q21, q22, q23, q24⟩ := five c2
  have f23 := frozen_of_row w1 _ 3 _ _ c2
  have HO := Lib.hid ho
  obtain ⟨ga, aa, rfl, _, _, _, _, _⟩ := ho
  obtain ⟨W2, hW2⟩ : ∃ W2, W2 = w1.setCell ⟨w.heap.size + 1 + 1, 3, none⟩ (.slice (some ⟨ga, 0, none⟩) s.args.length s.args.length) := ⟨_, rfl⟩
  have hz2 : W2.heap.size = w1.heap.size := by rw [hW2]; simp
  have B2 : Below w.heap.size w W2 := by rw [hW2]; exact (hB.trans (hB1.mono hB.size)).setCell (by simp; omega) _
  have d1 : W2.heap[w.heap.size + 1]? = some (.cells #[.int .i64 0, .int .i64 0, .int .i64 0, .slice none 0 0, .slice none 0 0] 54 (0, 0)) := by rw [hW2]; exact (heap_setCell_other w1 ⟨w.heap.size + 1 + 1, 3, none⟩ (w.heap.size + 1) _ (by simp)).trans c1'
  have d2 : W2.heap[w.heap.size + 1 + 1]? = some (.cells #[.int .i64 s.op, .int .i64 s.num, .int .i64 s.into, .slice (some ⟨ga, 0, none⟩) s.args.length s.args.length, .slice none 0 0] 54 (0, 0)) := by rw [hW2]; exact heap_setCell_same w1 _ 3 _ _ _ c2
  have ho2 : OInts W2 W.heap.size W2.heap.size (.slice (some ⟨ga, 0, none⟩) s.args.length s.args.length) s.args := by
    rw [hW2]
    refine (HO.out.keep (fun k h1 h2 => ?_)).wide (Nat.le_refl _) (by simp)
    rw [heap_setCell_other _ _ _ _ (by simp; omega)]
  have hsz1 : W.heap.size ≤ w1.heap.size := hB1.size
  have HC := Lib.hid (And.intro d1 (And.intro d2 ho2))
  clear b0 b1 b2 c0 c1' c2 HO d1 d2 ho2 hB1
  go_wp2_with fail
  rw [← hW2]
  refine (HC0.out W2 (hS.trans (Same.of_below B2 hU)) (by have := B2.size; omega)).mono ?_
  rintro e w3 ⟨u2, rfl, hB3, ho3⟩
  have e1 := (hB3.block _ (by omega)).trans HC.out.1
  have e2 := (hB3.block _ (by omega)).trans HC.out.2.1
  obtain ⟨r10, r11, r12, r13, r14⟩ := five e1
  obtain ⟨r20, r21, r22, r23, r24⟩ := five e2
  have f10 := frozen_of_row w3 _ 0 _ _ e1
  have f11 := frozen_of_row w3 _ 1 _ _ e1
  have f12 := frozen_of_row w3 _ 2 _ _ e1
  have f13 := frozen_of_row w3 _ 3 _ _ e1
  have f14 := frozen_of_row w3 _ 4 _ _ e1
  have f24 := frozen_of_row w3 _ 4 _ _ e2
  have HO3 := Lib.hid (And.intro (HC.out.2.2.keep (Same.of_below hB3 (Nat.le_refl _))) ho3)
  obtain ⟨gk, rfl⟩ := ho3.form
  have HE := Lib.hid e1
  have B3 := B2.trans (hB3.mono B2.size)
  have hsz3 : W2.heap.size ≤ w3.heap.size := hB3.size
  have HB3 := Lib.hid B3
  clear e1 e2 ho3 hW2 hB3 B3 q04 q20 q21 q22 q23 q24 f23 HC
  go_wp2_with fail
  (try simp only [Exit.inBlock, Exit.then])
  refine ended ?_
  intro W4 hW4
  have e4 : W4.heap[w.heap.size + 1]? = some (.cells #[.int .i64 s.op, .int .i64 s.num, .int .i64 s.into, .slice (some ⟨ga, 0, none⟩) s.args.length s.args.length, .slice (some ⟨gk, 0, none⟩) s.kids.length s.kids.length] 54 (0, 0)) := by
    rw [hW4]
    exact heap_setCell_same _ _ 4 _ _ _ (heap_setCell_same _ _ 3 _ _ _ (heap_setCell_same _ _ 2 _ _ _ (heap_setCell_same _ _ 1 _ _ _ (heap_setCell_same _ _ 0 _ _ _ ((heap_setCell_other w3 ⟨w.heap.size + 1 + 1, 4, none⟩ (w.heap.size + 1) _ (by simp)).trans HE.out)))))
  obtain ⟨t0, t1, t2, t3, t4⟩ := five e4
  have hz4 : W4.heap.size = w3.heap.size := by rw [hW4]; simp
  have kp : ∀ g, w.heap.size + 3 ≤ g → W4.heap[g]? = w3.heap[g]? := fun g hg => by
    rw [hW4, heap_setCell_other _ _ _ _ (by simp; omega), heap_setCell_other _ _ _ _ (by simp; omega), heap_setCell_other _ _ _ _ (by simp; omega), heap_setCell_other _ _ _ _ (by simp; omega), heap_setCell_other _ _ _ _ (by simp; omega), heap_setCell_other _ _ _ _ (by simp; omega)]
  have hB4 : Below w.heap.size w W4 := by
    rw [hW4]
    exact ((((((HB3.out.setCell (by simp; omega) _).setCell (by simp) _).setCell (by simp) _).setCell (by simp) _).setCell (by simp) _).setCell (by simp) _)
  have ha4 : OInts W4 w.heap.size W4.heap.size (.slice (some ⟨ga, 0, none⟩) s.args.length s.args.length) s.args := (HO3.out.1.keep (fun g h1 _ => kp g (by omega))).wide (by omega) (by omega)
  have hk4 : OBls W4 w.heap.size W4.heap.size (.slice (some ⟨gk, 0, none⟩) s.kids.length s.kids.length) s.kids := (HO3.out.2.keep (fun g h1 _ => kp g (by omega))).wide (by omega) (by omega)
  clear hW4 e4 kp
  refine bodyPost_ret (v := .agg #[.int .i64 s.op, .int .i64 s.num, .int .i64 s.into, .slice (some ⟨ga, 0, none⟩) s.args.length s.args.length, .slice (some ⟨gk, 0, none⟩) s.kids.length s.kids.length]) ?_ rfl ⟨_, _, rfl, hB4, ha4, hk4⟩
  rw [results_one rfl]
  go_simp
set_option maxHeartbeats 1600000 in
theorem toStepS_any {w0 : World} {L U : Nat} {v : Value} {ss : List St} (h : Sts w0 L U v ss) : ∀ w : World, Same L U w0 w → U ≤ w.heap.size → sumS Wz ss ≤ 1048576 →
    Calls Try.prog 19 #[v] w fun e w' => ∃ u, e = .returned u ∧ Below w.heap.size w w' ∧ OSts w' w.heap.size w'.heap.size u ss := by
  induction h with
  | mk A c VA0 KA0 KC0 KV0 ss r ha hk h ih =>
    intro w hS hU hsum
    have hl := r.le
    have hc : c ≤ 9223372036854775807 := r.cap
    obtain ⟨i0, hi, hz0, hz1, hz2⟩ := info_parts infoSt
    have hlen := sumS_length ss
    have hs1 : ss.length ≤ 1048576 := by omega
    have bound : ∀ k, k < ss.length → (nthS ss k).args.length + sumB Wz (nthS ss k).kids ≤ 1048576 := fun k hlt => by
      have h1 := sumS_mem Wz hlt
      rw [show (nthS ss k).sum Wz = 1 + (nthS ss k).args.length + sumB Wz (nthS ss k).kids by rw [st_sum]; rfl] at h1
      omega
    have HS := Lib.hid fun k (hlt : k < ss.length) (W : World) (a1 : Same L U w0 W) (a2 : U ≤ W.heap.size) => toBlockS_of (hk k hlt) (fun j hj => by obtain ⟨A, c, e, _⟩ := (h k hlt j hj).open_; exact ⟨A, c, e⟩) (fun j hj W b1 b2 => ih k hlt j hj W b1 b2 (by
      have h1 := sumB_mem Wz hj
      rw [bl_sum] at h1
      have := bound k hlt
      omega)) W a1 a2 (by have := sumB_length (nthS ss k).kids; have := bound k hlt; omega)
    have HA := Lib.hid ha
    have HBD := Lib.hid bound
    clear ih hk h ha hsum hlen bound
    go_enter Try.func19, Try.ntmps19
    go_wp2_with (at_make; refine wpList_make_full _ rfl _ _ 28 rfl w.heap.size 54 i0 (.agg #[.int .i64 0, .int .i64 0, .int .i64 0, .slice none 0 0, .slice none 0 0]) 5 Try.underlying28 hi hz0 hz1 .i64 .i64 _ _ ss.length rfl rfl rfl rfl (by rw [hz2]; omega) (by unfold maxLen; omega) (Nat.le_refl _) ?_)
    intro w1 hown hg
    have hB1 : Below w.heap.size w w1 := (Below.refl _ w).grown hg (Nat.le_refl _) (fun k e => by cases e)
    have hF := Fill.made (k := 5) (z := #[.int .i64 0, .int .i64 0, .int .i64 0, .slice none 0 0, .slice none 0 0]) hown rfl (fun _ _ => undef)
    have hsz : w.heap.size < w1.heap.size := (hown.lt _ rfl).2
    clear hown hg
    go_wp2_with fail
    go_loopw [4] (fun i wr => ∃ (k : Nat) (VA VK : Nat → Value), k ≤ ss.length ∧ i = .int .i64 k ∧ Fill wr w.heap.size 5 ss.length k 54 (fun i j => stCell (nthS ss i) (VA i) (VK i) j) (fun j => #[Value.int .i64 0, .int .i64 0, .int .i64 0, .slice none 0 0, .slice none 0 0][j]!) ∧ Hid (∀ i, i < k → OInts wr (w.heap.size + 1) wr.heap.size (VA i) (nthS ss i).args ∧ OBls wr (w.heap.size + 1) wr.heap.size (VK i) (nthS ss i).kids) ∧ Below w.heap.size w wr ∧ w.heap.size < wr.heap.size) (fun i _ => ss.length - (intOf i).toNat)
    case atStart => exact ⟨0, fun _ => undef, fun _ => undef, by omega, rfl, hF, fun i hi => absurd hi (by omega), hB1, hsz⟩
    case round =>
      obtain ⟨k, VA, VK, hk, rfl, hF, HV, hB, hsz⟩ := hrel
      by_cases hlt : k < ss.length
      · have hS1 : Same L U w0 wr := hS.trans (Same.of_below hB hU)
        obtain ⟨b, o, rfl, _, hb, c0, c1, c2, c3, c4⟩ := srow_at (r.keep hS1) hlt
        have hz := hB.size
        have hI := HA.out k hlt
        obtain ⟨A', c', hV0, _, _⟩ := hI.open_
        rw [hV0] at c3 hI
        have CK := Lib.hid (toStep_of (nthS ss k) wr hI hS1 (by omega) (by have := HBD.out k hlt; omega) (HS.out k hlt))
        clear hV0 hS1 hI
        go_wp2_with fail
        refine CK.out.mono ?_
        rintro e w2 ⟨ua, uk, rfl, hB2, hoa, hok⟩
        have hF2 := hF.keep (hB2.block _ hsz)
        have hq0 := hF2.cell hlt (j := 0) (by omega)
        have hq1 := hF2.cell hlt (j := 1) (by omega)
        have hq2 := hF2.cell hlt (j := 2) (by omega)
        have hq3 := hF2.cell hlt (j := 3) (by omega)
        have hq4 := hF2.cell hlt (j := 4) (by omega)
        have hf0 := hF2.free (k * 5)
        have hf1 := hF2.free (k * 5 + 1)
        have hf2 := hF2.free (k * 5 + 2)
        have hf3 := hF2.free (k * 5 + 3)
        have hf4 := hF2.free (k * 5 + 4)
        rw [Nat.add_zero] at hq0
        obtain ⟨W3, hW3⟩ : ∃ W3, W3 = ((((w2.setCell ⟨w.heap.size, k * 5, none⟩ (.int .i64 (nthS ss k).op)).setCell ⟨w.heap.size, k * 5 + 1, none⟩ (.int .i64 (nthS ss k).num)).setCell ⟨w.heap.size, k * 5 + 2, none⟩ (.int .i64 (nthS ss k).into)).setCell ⟨w.heap.size, k * 5 + 3, none⟩ ua).setCell ⟨w.heap.size, k * 5 + 4, none⟩ uk := ⟨_, rfl⟩
        have hz3 : W3.heap.size = w2.heap.size := by rw [hW3]; simp
        have hF3 : Fill W3 w.heap.size 5 ss.length (k + 1) 54 (fun i j => stCell (nthS ss i) (if i = k then ua else VA i) (if i = k then uk else VK i) j) (fun j => #[Value.int .i64 0, .int .i64 0, .int .i64 0, .slice none 0 0, .slice none 0 0][j]!) := by
          rw [hW3]
          exact (hF2.congr (V' := fun i j => stCell (nthS ss i) (if i = k then ua else VA i) (if i = k then uk else VK i) j) (fun i j hi _ => by rw [if_neg (by omega), if_neg (by omega)])).five rfl rfl rfl (by simp [stCell]) (by simp [stCell])
        have hB3 : Below w.heap.size w W3 := by
          rw [hW3]
          exact (((((hB.trans (hB2.mono hz)).setCell (Nat.le_refl _) _).setCell (Nat.le_refl _) _).setCell (Nat.le_refl _) _).setCell (Nat.le_refl _) _).setCell (Nat.le_refl _) _
        have kp0 : ∀ g, w.heap.size + 1 ≤ g → W3.heap[g]? = w2.heap[g]? := fun g hg => by
          rw [hW3, heap_setCell_other _ _ _ _ (by simp; omega), heap_setCell_other _ _ _ _ (by simp; omega), heap_setCell_other _ _ _ _ (by simp; omega), heap_setCell_other _ _ _ _ (by simp; omega), heap_setCell_other _ _ _ _ (by simp; omega)]
        have HV3 : Hid (∀ i, i < k + 1 → OInts W3 (w.heap.size + 1) W3.heap.size (if i = k then ua else VA i) (nthS ss i).args ∧ OBls W3 (w.heap.size + 1) W3.heap.size (if i = k then uk else VK i) (nthS ss i).kids) := by
          intro i hi
          by_cases e : i = k
          · rw [if_pos e, if_pos e, e]
            exact ⟨((hoa.wide (L' := w.heap.size + 1) (by omega) (Nat.le_refl _)).keep (fun g h1 _ => kp0 g h1)).wide (Nat.le_refl _) (by omega), ((hok.wide (L' := w.heap.size + 1) (by omega) (Nat.le_refl _)).keep (fun g h1 _ => kp0 g h1)).wide (Nat.le_refl _) (by omega)⟩
          · rw [if_neg e, if_neg e]
            obtain ⟨h1, h2⟩ := HV.out i (by omega)
            exact ⟨(((h1.keep (Same.of_below hB2 (Nat.le_refl _))).wide (Nat.le_refl _) hB2.size).keep (fun g h1 _ => kp0 g h1)).wide (Nat.le_refl _) (by omega), (((h2.keep (Same.of_below hB2 (Nat.le_refl _))).wide (Nat.le_refl _) hB2.size).keep (fun g h1 _ => kp0 g h1)).wide (Nat.le_refl _) (by omega)⟩
        have hsz3 : w.heap.size < W3.heap.size := by have := hB2.size; omega
        obtain ⟨ga, aa, rfl, _, _, _, _, _⟩ := hoa
        obtain ⟨gk, rfl⟩ := hok.form
        subst hW3
        have HH := Lib.hid (And.intro hF3 (And.intro hB3 hsz3))
        clear hF hF2 hB HV hB2 hF3 hB3 hsz3 hz3 kp0 hok
        go_wp2_with fail
        go_roundw
        case rel => exact ⟨k + 1, _, _, by omega, by go_num, HH.out.1, HV3, HH.out.2.1, HH.out.2.2⟩
        case measure => simp [intOf]; omega
      · go_wp2_with fail
        go_ret
        obtain rfl : k = ss.length := by omega
        haveI : Inhabited (Nat → Value) := ⟨fun _ => undef⟩
        obtain ⟨KV, hKV⟩ := choose_lt fun i (hi : i < ss.length) => (HV.out i hi).2
        exact ⟨_, rfl, hB, .mk _ VA VK KV ss (hF.blk (Nat.le_refl _) hsz (by unfold maxLen; omega)) (fun i hi => (HV.out i hi).1.wide (by omega) (Nat.le_refl _)) (fun i hi => (hKV i hi).1.wide (by omega) (Nat.le_refl _)) (fun i hi j hj => ((hKV i hi).2 j hj).wide (by omega) (Nat.le_refl _))⟩
theorem toBlock_any {w : World} {L U : Nat} {v : Value} {ss : List St} (hv : Sts w L U v ss) (y : Int) (hU : U ≤ w.heap.size) (hs : sumS Wz ss ≤ 1048576) :
    Calls Try.prog 7 #[.agg #[v, .int .i64 y]] w fun e w' => ∃ u, e = .returned (.agg #[u, .int .i64 y]) ∧ Below w.heap.size w w' ∧ OSts w' w.heap.size w'.heap.size u ss := by
  obtain ⟨A, c, rfl, _⟩ := hv.open_
  exact toBlock_of y w fun W hW => toStepS_any hv W (Same.of_below hW hU) (by have := hW.size; omega) hs
end Go.Proofs.Ytdooageiopnhaaa

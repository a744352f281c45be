/- Copies of slices, element by element, do what they are told to do. MADE BY mkext.py. -/
import Derived.Test.YtoljlooeiljpfaaOe
import Derived.Test.YtoljlooeiljpfaaLay
set_option linter.unusedVariables false
set_option maxRecDepth 100000
namespace Go.Proofs.Ytoljlooeiljpfaa
open Go Go.RowKit Go.BigFrame
theorem info_toConS : (Try.prog.info? 105).map (fun i => (i.zero, i.size, i.bytes)) = some (some (.agg #[.slice none 0 0]), 1, 24) := by kernel_rfl
set_option maxHeartbeats 1000000 in
theorem walk_toConS {S : Sig} {call : Orc} (hC : CallOk Try.prog S call) (hg : (S.sg 85).takes = []) (p : Nat → Nat) (w : World) (A : Option Addr) (c : Nat) (rows rs : List (List AC)) (hrep : Rep p w (.slice A rows.length c) (.sl 1 rows)) (hz : Zp p w) (hlen : rows.length ≤ 1048576)
    (hsh : Hid (∀ i, i < rows.length → shOk [.sl 1 []] (rows.getD i []) = true)) (hrun : Hid (∀ i, i < rows.length → rowE call ⟨some 85, true, [.sl 1 []], true, [.sl 1 []]⟩ (rows.getD i []) = some (rs.getD i []))) (hrl : rs.length = rows.length) :
    Calls Try.prog 70 #[.slice A rows.length c] w fun e w' => ∃ v, e = .returned v ∧ ∃ p', Rep p' w' v (.sl 1 rs) ∧ Evo (fun _ => False) p w p' w' ∧ Zp p' w' := by
  obtain ⟨i0, hi, hz0, hz1, hz2⟩ := info_parts info_toConS
  have HR := Lib.hid hrep
  have HZ := Lib.hid hz
  have hp0 := Lib.hid (hz w.heap.size (Nat.le_refl _))
  have HC := Lib.hid hC
  clear hrep hz hC
  go_enter Try.func70, Try.ntmps70
  go_wp2_with (at_make; refine wpList_make_full _ rfl _ _ 74 rfl w.heap.size 105 i0 (.agg #[.slice none 0 0]) 1 Try.underlying74 hi hz0 hz1 .i64 .i64 _ _ rows.length rfl rfl rfl rfl (by rw [hz2]; omega) (by unfold maxLen; omega) (Nat.le_refl _) ?_)
  intro w1 hown hgr
  have hB1 : Below w.heap.size w w1 := (Below.refl _ w).grown hgr (Nat.le_refl _) (fun k e => by cases e)
  have hF := Fill.made1 hown (fun _ _ => undef)
  have hsz : w.heap.size < w1.heap.size := (hown.lt _ rfl).2
  have HE : Hid (RepL p w1 (cellsOf 1 0 (fun _ _ => undef)) (rs.take 0).flatten ∧ Evo (fun _ => False) p w p w1 ∧ Zp p w1 ∧ p w.heap.size = 0) := ⟨trivial, evo_grown hgr, fun b hb => HZ.out b (by omega), hp0.out⟩
  clear hown hgr
  go_wp2_with fail
  go_loopw [4] (fun i wr => ∃ (k : Nat) (V : Nat → Nat → Value) (q : Nat → Nat), k ≤ rows.length ∧ i = .int .i64 k ∧ Fill wr w.heap.size 1 rows.length k 105 V (fun j => #[Value.slice none 0 0][j]!) ∧ Hid (RepL q wr (cellsOf 1 k V) (rs.take k).flatten ∧ Evo (fun _ => False) p w q wr ∧ Zp q wr ∧ q w.heap.size = 0) ∧ Below w.heap.size w wr ∧ w.heap.size < wr.heap.size) (fun i _ => rows.length - (intOf i).toNat)
  case atStart => exact ⟨0, fun _ _ => undef, p, by omega, rfl, hF, HE, hB1, hsz⟩
  case round =>
    obtain ⟨k, V, q, hk, rfl, hF, HV, hB, hsz⟩ := hrel
    by_cases hlt : k < rows.length
    · obtain ⟨b, o, us, rfl, hblt, hul, hus, hcl⟩ := rep_at (HR.out.evo HV.out.2.1) hlt
      have hrun0 := hrun.out k hlt
      have hz' := hB.size
      clear hul
      have hsh0 := hsh.out k hlt
      generalize hrow : rows.getD k [] = row at hus hsh0 hrun0
      obtain ⟨n0, row0, rfl, hsh1⟩ := sh_sl hsh0
      obtain ⟨A0, c0, us0, rfl, hr0, hus0⟩ := ld_sl hus
      cases sh_nil hsh1
      cases repL_nil hus0
      have q0 := hcl 0 _ rfl
      rw [Nat.add_zero] at q0
      rw [Nat.mul_one] at q0
      obtain ⟨y, hy, hys, hya, hyr⟩ := rowE_call rfl hrun0
      have CK := Lib.hid ((HC.out 85 _ _ hy).2 q wr [.agg #[.slice A0 n0.length c0]] ⟨⟨_, rfl, hr0, trivial⟩, trivial⟩ HV.out.2.2.1 (fun i k hk => by rw [hg] at hk; simp at hk) (fun i j u v b _ hi => by rw [hg] at hi; simp at hi))
      have HY := Lib.hid (And.intro hys (And.intro hya (And.intro hyr hrow)))
      clear hys hya hyr hrow hrun0 hy hr0 hus0 hcl
      go_wp2_with fail
      refine CK.out.mono ?_
      rintro e w2 ⟨v2, rfl, q2, hsr, _, _, hev, hz2', _, _⟩
      obtain ⟨hys, hya, hyr, hrow⟩ := HY.out
      have hev : Evo (fun _ => False) q wr q2 w2 := hev.weaken (fun b _ h => by obtain ⟨i, k, v, hk, _⟩ := h; rw [hg] at hk; simp at hk)
      obtain ⟨cs, rfl⟩ := agg_of hya
      obtain ⟨arr, rfl, hua⟩ : ∃ a, v2 = .agg a ∧ RepL q2 w2 a.toList cs := hsr
      have hys : shOk [.sl 1 []] cs = true := hys
      obtain ⟨l, hl⟩ : ∃ l, arr.toList = l := ⟨_, rfl⟩
      have harr : arr = l.toArray := by rw [← hl]
      rw [hl] at hua
      subst harr
      clear hl
      obtain ⟨m0, cs0, rfl, hys0⟩ := sh_sl hys
      obtain ⟨B0, d0, va0, rfl, HN0, hua0⟩ := ld_sl hua
      cases sh_nil hys0
      cases repL_nil hua0
      have hE2 : Evo (fun _ => False) p w q2 w2 := HV.out.2.1.trans hev (fun _ _ h => h) (fun _ _ h => h)
      have hq2 : q2 w.heap.size = 0 := by rw [hev.same _ hsz (fun h => h)]; exact HV.out.2.2.2
      have hRL : RepL q2 w2 (cellsOf 1 k V) (rs.take k).flatten := HV.out.1.evo hev
      have hB2 : Below w.heap.size w w2 := hB.trans ⟨hev.os, hev.tape, hev.output, hev.size, fun g hg => hev.block g (by omega) (fun h => h)⟩
      have hsz2 : w.heap.size < w2.heap.size := by have := hev.size; omega
      have hF2 := hF.keep (hev.block _ hsz (fun h => h))
      have hnew : RepL q2 w2 [.slice B0 m0.length d0] (rs.getD k []) := by rw [hyr]; exact ⟨HN0, trivial⟩
      have hq0_ := hF2.cell hlt (j := 0) (by omega)
      have hf0 := hF2.free (k)
      rw [Nat.mul_one, Nat.add_zero] at hq0_
      obtain ⟨W3, hW3⟩ : ∃ W3, W3 = (w2.setCell ⟨w.heap.size, k, none⟩ (.slice B0 m0.length d0)) := ⟨_, rfl⟩
      have hz3 : W3.heap.size = w2.heap.size := by rw [hW3]; simp
      have hF3 : Fill W3 w.heap.size 1 rows.length (k + 1) 105 (fun i j => if i = k then (#[(.slice B0 m0.length d0 : Value)] : Array Value)[j]! else V i j) (fun j => #[Value.slice none 0 0][j]!) := by
        rw [hW3]
        exact (hF2.congr (V' := (fun i j => if i = k then (#[(.slice B0 m0.length d0 : Value)] : Array Value)[j]! else V i j)) (fun i j hi _ => by rw [if_neg (by omega)])).one hlt ((if_pos rfl).trans rfl)
      have hB3 : Below w.heap.size w W3 := by
        rw [hW3]
        exact (hB2.setCell (Nat.le_refl _) _)
      have hev3 : Evo (· = w.heap.size) q2 w2 q2 W3 := evo_block hq2 hz3 (fun y hy => by
        rw [hW3]
        rw [heap_setCell_other _ _ _ _ hy]) (hB3.os.trans hB2.os.symm) (hB3.tape.trans hB2.tape.symm) (hB3.output.trans hB2.output.symm)
      have HV3 : Hid (RepL q2 W3 (cellsOf 1 (k + 1) (fun i j => if i = k then (#[(.slice B0 m0.length d0 : Value)] : Array Value)[j]! else V i j)) (rs.take (k + 1)).flatten ∧ Evo (fun _ => False) p w q2 W3 ∧ Zp q2 W3 ∧ q2 w.heap.size = 0) := by
        refine ⟨?_, hE2.trans hev3 (fun _ _ h => h) (fun b hb h => by omega), fun b hb => hz2' b (by omega), hq2⟩
        rw [cellsOf_succ _ _ _ (by omega), flat_succ (by omega), cellsOf_congr (V' := V) (fun i j hi => by rw [if_neg (by omega)])]
        refine (hRL.evo hev3).append ?_
        have := hnew.evo hev3
        simpa [List.range_succ] using this
      have hsz3 : w.heap.size < W3.heap.size := by omega
      have hgoal := Lib.hid (And.intro hF3 (And.intro HV3 (And.intro hB3 hsz3)))
      clear hF hF2 HV hB hB2 hF3 hB3 hsz3 hz3 HV3 hev3 hRL hnew hE2 hq2 hz2' hyr hsz2 HR HZ hp0 hrun hsh hrow hev hya CK HY HN0 hua0
      subst hW3
      go_wp2_with fail
      go_roundw
      case rel => exact ⟨k + 1, _, _, by omega, by go_num, hgoal.out.1, hgoal.out.2.1, hgoal.out.2.2.1, hgoal.out.2.2.2⟩
      case measure => simp [intOf]; omega
    · go_wp2_with fail
      go_ret
      obtain rfl : k = rows.length := by omega
      have hall : ∀ r ∈ rs, r.length = 1 := fun r hr => by
        obtain ⟨i, hi, rfl⟩ := List.mem_iff_getElem.1 hr
        have h1 := hrun.out i (by omega)
        rw [show rs.getD i [] = rs[i] by simp [List.getD, hi]] at h1
        obtain ⟨y, _, h2, _, h3⟩ := rowE_call rfl h1
        rw [h3, shOk_len h2]
        rfl
      have hrl' := HV.out.1
      rw [List.take_of_length_le (by omega)] at hrl'
      refine ⟨_, rfl, upP q w.heap.size (rows.length * 1), fill_rep hF (by omega) hrl hall hsz HV.out.2.2.2 hrl', HV.out.2.1.trans (evo_raise HV.out.2.2.2) (fun _ _ h => h) (fun b hb h => by omega), fun b hb => ?_⟩
      rw [upP_ne (by omega)]
      exact HV.out.2.2.1 b hb
theorem info_toDeclS : (Try.prog.info? 76).map (fun i => (i.zero, i.size, i.bytes)) = some (some (.agg #[.int .i64 0, .int .i64 0, .slice none 0 0]), 3, 40) := by kernel_rfl
set_option maxHeartbeats 1000000 in
theorem walk_toDeclS {S : Sig} {call : Orc} (hC : CallOk Try.prog S call) (hg : (S.sg 47).takes = []) (p : Nat → Nat) (w : World) (A : Option Addr) (c : Nat) (rows rs : List (List AC)) (hrep : Rep p w (.slice A rows.length c) (.sl 3 rows)) (hz : Zp p w) (hlen : rows.length ≤ 1048576)
    (hsh : Hid (∀ i, i < rows.length → shOk [.int 0, .int 0, .sl 1 []] (rows.getD i []) = true)) (hrun : Hid (∀ i, i < rows.length → rowE call ⟨some 47, true, [.int 0, .int 0, .sl 1 []], true, [.int 0, .int 0, .sl 1 []]⟩ (rows.getD i []) = some (rs.getD i []))) (hrl : rs.length = rows.length) :
    Calls Try.prog 22 #[.slice A rows.length c] w fun e w' => ∃ v, e = .returned v ∧ ∃ p', Rep p' w' v (.sl 3 rs) ∧ Evo (fun _ => False) p w p' w' ∧ Zp p' w' := by
  obtain ⟨i0, hi, hz0, hz1, hz2⟩ := info_parts info_toDeclS
  have HR := Lib.hid hrep
  have HZ := Lib.hid hz
  have hp0 := Lib.hid (hz w.heap.size (Nat.le_refl _))
  have HC := Lib.hid hC
  clear hrep hz hC
  go_enter Try.func22, Try.ntmps22
  go_wp2_with (at_make; refine wpList_make_full _ rfl _ _ 28 rfl w.heap.size 76 i0 (.agg #[.int .i64 0, .int .i64 0, .slice none 0 0]) 3 Try.underlying28 hi hz0 hz1 .i64 .i64 _ _ rows.length rfl rfl rfl rfl (by rw [hz2]; omega) (by unfold maxLen; omega) (Nat.le_refl _) ?_)
  intro w1 hown hgr
  have hB1 : Below w.heap.size w w1 := (Below.refl _ w).grown hgr (Nat.le_refl _) (fun k e => by cases e)
  have hF := Fill.made (k := 3) (z := #[Value.int .i64 0, .int .i64 0, .slice none 0 0]) hown rfl (fun _ _ => undef)
  have hsz : w.heap.size < w1.heap.size := (hown.lt _ rfl).2
  have HE : Hid (RepL p w1 (cellsOf 3 0 (fun _ _ => undef)) (rs.take 0).flatten ∧ Evo (fun _ => False) p w p w1 ∧ Zp p w1 ∧ p w.heap.size = 0) := ⟨trivial, evo_grown hgr, fun b hb => HZ.out b (by omega), hp0.out⟩
  clear hown hgr
  go_wp2_with fail
  go_loopw [4] (fun i wr => ∃ (k : Nat) (V : Nat → Nat → Value) (q : Nat → Nat), k ≤ rows.length ∧ i = .int .i64 k ∧ Fill wr w.heap.size 3 rows.length k 76 V (fun j => #[Value.int .i64 0, .int .i64 0, .slice none 0 0][j]!) ∧ Hid (RepL q wr (cellsOf 3 k V) (rs.take k).flatten ∧ Evo (fun _ => False) p w q wr ∧ Zp q wr ∧ q w.heap.size = 0) ∧ Below w.heap.size w wr ∧ w.heap.size < wr.heap.size) (fun i _ => rows.length - (intOf i).toNat)
  case atStart => exact ⟨0, fun _ _ => undef, p, by omega, rfl, hF, HE, hB1, hsz⟩
  case round =>
    obtain ⟨k, V, q, hk, rfl, hF, HV, hB, hsz⟩ := hrel
    by_cases hlt : k < rows.length
    · obtain ⟨b, o, us, rfl, hblt, hul, hus, hcl⟩ := rep_at (HR.out.evo HV.out.2.1) hlt
      have hrun0 := hrun.out k hlt
      have hz' := hB.size
      clear hul
      have hsh0 := hsh.out k hlt
      generalize hrow : rows.getD k [] = row at hus hsh0 hrun0
      obtain ⟨n0, row0, rfl, hsh1⟩ := sh_int hsh0
      obtain ⟨us0, rfl, hr0, hus0⟩ := ld_int hus
      obtain ⟨n1, row1, rfl, hsh2⟩ := sh_int hsh1
      obtain ⟨us1, rfl, hr1, hus1⟩ := ld_int hus0
      obtain ⟨n2, row2, rfl, hsh3⟩ := sh_sl hsh2
      obtain ⟨A2, c2, us2, rfl, hr2, hus2⟩ := ld_sl hus1
      cases sh_nil hsh3
      cases repL_nil hus2
      have q0 := hcl 0 _ rfl
      have q1 := hcl 1 _ rfl
      have q2 := hcl 2 _ rfl
      rw [Nat.add_zero] at q0
      obtain ⟨y, hy, hys, hya, hyr⟩ := rowE_call rfl hrun0
      have CK := Lib.hid ((HC.out 47 _ _ hy).2 q wr [.agg #[.int .i64 n0, .int .i64 n1, .slice A2 n2.length c2]] ⟨⟨_, rfl, hr0, hr1, hr2, trivial⟩, trivial⟩ HV.out.2.2.1 (fun i k hk => by rw [hg] at hk; simp at hk) (fun i j u v b _ hi => by rw [hg] at hi; simp at hi))
      have HY := Lib.hid (And.intro hys (And.intro hya (And.intro hyr hrow)))
      clear hys hya hyr hrow hrun0 hy hr0 hr1 hr2 hus0 hus1 hus2 hcl
      go_wp2_with fail
      refine CK.out.mono ?_
      rintro e w2 ⟨v2, rfl, q2, hsr, _, _, hev, hz2', _, _⟩
      obtain ⟨hys, hya, hyr, hrow⟩ := HY.out
      have hev : Evo (fun _ => False) q wr q2 w2 := hev.weaken (fun b _ h => by obtain ⟨i, k, v, hk, _⟩ := h; rw [hg] at hk; simp at hk)
      obtain ⟨cs, rfl⟩ := agg_of hya
      obtain ⟨arr, rfl, hua⟩ : ∃ a, v2 = .agg a ∧ RepL q2 w2 a.toList cs := hsr
      have hys : shOk [.int 0, .int 0, .sl 1 []] cs = true := hys
      obtain ⟨l, hl⟩ : ∃ l, arr.toList = l := ⟨_, rfl⟩
      have harr : arr = l.toArray := by rw [← hl]
      rw [hl] at hua
      subst harr
      clear hl
      obtain ⟨m0, cs0, rfl, hys0⟩ := sh_int hys
      obtain ⟨va0, rfl, HN0, hua0⟩ := ld_int hua
      obtain ⟨m1, cs1, rfl, hys1⟩ := sh_int hys0
      obtain ⟨va1, rfl, HN1, hua1⟩ := ld_int hua0
      obtain ⟨m2, cs2, rfl, hys2⟩ := sh_sl hys1
      obtain ⟨B2, d2, va2, rfl, HN2, hua2⟩ := ld_sl hua1
      cases sh_nil hys2
      cases repL_nil hua2
      have hE2 : Evo (fun _ => False) p w q2 w2 := HV.out.2.1.trans hev (fun _ _ h => h) (fun _ _ h => h)
      have hq2 : q2 w.heap.size = 0 := by rw [hev.same _ hsz (fun h => h)]; exact HV.out.2.2.2
      have hRL : RepL q2 w2 (cellsOf 3 k V) (rs.take k).flatten := HV.out.1.evo hev
      have hB2 : Below w.heap.size w w2 := hB.trans ⟨hev.os, hev.tape, hev.output, hev.size, fun g hg => hev.block g (by omega) (fun h => h)⟩
      have hsz2 : w.heap.size < w2.heap.size := by have := hev.size; omega
      have hF2 := hF.keep (hev.block _ hsz (fun h => h))
      have hnew : RepL q2 w2 [.int .i64 m0, .int .i64 m1, .slice B2 m2.length d2] (rs.getD k []) := by rw [hyr]; exact ⟨HN0, HN1, HN2, trivial⟩
      have hq0_ := hF2.cell hlt (j := 0) (by omega)
      have hf0 := hF2.free (k * 3)
      have hq1_ := hF2.cell hlt (j := 1) (by omega)
      have hf1 := hF2.free (k * 3 + 1)
      have hq2_ := hF2.cell hlt (j := 2) (by omega)
      have hf2 := hF2.free (k * 3 + 2)
      rw [Nat.add_zero] at hq0_
      obtain ⟨W3, hW3⟩ : ∃ W3, W3 = (((w2.setCell ⟨w.heap.size, k * 3, none⟩ (.int .i64 m0)).setCell ⟨w.heap.size, k * 3 + 1, none⟩ (.int .i64 m1)).setCell ⟨w.heap.size, k * 3 + 2, none⟩ (.slice B2 m2.length d2)) := ⟨_, rfl⟩
      have hz3 : W3.heap.size = w2.heap.size := by rw [hW3]; simp
      have hF3 : Fill W3 w.heap.size 3 rows.length (k + 1) 76 (fun i j => if i = k then (#[(.int .i64 m0 : Value), .int .i64 m1, .slice B2 m2.length d2] : Array Value)[j]! else V i j) (fun j => #[Value.int .i64 0, .int .i64 0, .slice none 0 0][j]!) := by
        rw [hW3]
        exact (hF2.congr (V' := (fun i j => if i = k then (#[(.int .i64 m0 : Value), .int .i64 m1, .slice B2 m2.length d2] : Array Value)[j]! else V i j)) (fun i j hi _ => by rw [if_neg (by omega)])).three ((if_pos rfl).trans rfl) ((if_pos rfl).trans rfl) ((if_pos rfl).trans rfl)
      have hB3 : Below w.heap.size w W3 := by
        rw [hW3]
        exact (((hB2.setCell (Nat.le_refl _) _).setCell (Nat.le_refl _) _).setCell (Nat.le_refl _) _)
      have hev3 : Evo (· = w.heap.size) q2 w2 q2 W3 := evo_block hq2 hz3 (fun y hy => by
        rw [hW3]
        rw [heap_setCell_other _ _ _ _ hy, heap_setCell_other _ _ _ _ hy, heap_setCell_other _ _ _ _ hy]) (hB3.os.trans hB2.os.symm) (hB3.tape.trans hB2.tape.symm) (hB3.output.trans hB2.output.symm)
      have HV3 : Hid (RepL q2 W3 (cellsOf 3 (k + 1) (fun i j => if i = k then (#[(.int .i64 m0 : Value), .int .i64 m1, .slice B2 m2.length d2] : Array Value)[j]! else V i j)) (rs.take (k + 1)).flatten ∧ Evo (fun _ => False) p w q2 W3 ∧ Zp q2 W3 ∧ q2 w.heap.size = 0) := by
        refine ⟨?_, hE2.trans hev3 (fun _ _ h => h) (fun b hb h => by omega), fun b hb => hz2' b (by omega), hq2⟩
        rw [cellsOf_succ _ _ _ (by omega), flat_succ (by omega), cellsOf_congr (V' := V) (fun i j hi => by rw [if_neg (by omega)])]
        refine (hRL.evo hev3).append ?_
        have := hnew.evo hev3
        simpa [List.range_succ] using this
      have hsz3 : w.heap.size < W3.heap.size := by omega
      have hgoal := Lib.hid (And.intro hF3 (And.intro HV3 (And.intro hB3 hsz3)))
      clear hF hF2 HV hB hB2 hF3 hB3 hsz3 hz3 HV3 hev3 hRL hnew hE2 hq2 hz2' hyr hsz2 HR HZ hp0 hrun hsh hrow hev hya CK HY HN0 HN1 HN2 hua0 hua1 hua2
      subst hW3
      go_wp2_with fail
      go_roundw
      case rel => exact ⟨k + 1, _, _, by omega, by go_num, hgoal.out.1, hgoal.out.2.1, hgoal.out.2.2.1, hgoal.out.2.2.2⟩
      case measure => simp [intOf]; omega
    · go_wp2_with fail
      go_ret
      obtain rfl : k = rows.length := by omega
      have hall : ∀ r ∈ rs, r.length = 3 := fun r hr => by
        obtain ⟨i, hi, rfl⟩ := List.mem_iff_getElem.1 hr
        have h1 := hrun.out i (by omega)
        rw [show rs.getD i [] = rs[i] by simp [List.getD, hi]] at h1
        obtain ⟨y, _, h2, _, h3⟩ := rowE_call rfl h1
        rw [h3, shOk_len h2]
        rfl
      have hrl' := HV.out.1
      rw [List.take_of_length_le (by omega)] at hrl'
      refine ⟨_, rfl, upP q w.heap.size (rows.length * 3), fill_rep hF (by omega) hrl hall hsz HV.out.2.2.2 hrl', HV.out.2.1.trans (evo_raise HV.out.2.2.2) (fun _ _ h => h) (fun b hb h => by omega), fun b hb => ?_⟩
      rw [upP_ne (by omega)]
      exact HV.out.2.2.1 b hb
theorem info_toExprS : (Try.prog.info? 43).map (fun i => (i.zero, i.size, i.bytes)) = some (some (.agg #[.int .i64 0, .int .i64 0, .slice none 0 0]), 3, 40) := by kernel_rfl
set_option maxHeartbeats 1000000 in
theorem walk_toExprS {S : Sig} {call : Orc} (hC : CallOk Try.prog S call) (hg : (S.sg 15).takes = []) (p : Nat → Nat) (w : World) (A : Option Addr) (c : Nat) (rows rs : List (List AC)) (hrep : Rep p w (.slice A rows.length c) (.sl 3 rows)) (hz : Zp p w) (hlen : rows.length ≤ 1048576)
    (hsh : Hid (∀ i, i < rows.length → shOk [.int 0, .int 0, .sl 3 []] (rows.getD i []) = true)) (hrun : Hid (∀ i, i < rows.length → rowE call ⟨some 15, true, [.int 0, .int 0, .sl 3 []], true, [.int 0, .int 0, .sl 3 []]⟩ (rows.getD i []) = some (rs.getD i []))) (hrl : rs.length = rows.length) :
    Calls Try.prog 37 #[.slice A rows.length c] w fun e w' => ∃ v, e = .returned v ∧ ∃ p', Rep p' w' v (.sl 3 rs) ∧ Evo (fun _ => False) p w p' w' ∧ Zp p' w' := by
  obtain ⟨i0, hi, hz0, hz1, hz2⟩ := info_parts info_toExprS
  have HR := Lib.hid hrep
  have HZ := Lib.hid hz
  have hp0 := Lib.hid (hz w.heap.size (Nat.le_refl _))
  have HC := Lib.hid hC
  clear hrep hz hC
  go_enter Try.func37, Try.ntmps37
  go_wp2_with (at_make; refine wpList_make_full _ rfl _ _ 41 rfl w.heap.size 43 i0 (.agg #[.int .i64 0, .int .i64 0, .slice none 0 0]) 3 Try.underlying41 hi hz0 hz1 .i64 .i64 _ _ rows.length rfl rfl rfl rfl (by rw [hz2]; omega) (by unfold maxLen; omega) (Nat.le_refl _) ?_)
  intro w1 hown hgr
  have hB1 : Below w.heap.size w w1 := (Below.refl _ w).grown hgr (Nat.le_refl _) (fun k e => by cases e)
  have hF := Fill.made (k := 3) (z := #[Value.int .i64 0, .int .i64 0, .slice none 0 0]) hown rfl (fun _ _ => undef)
  have hsz : w.heap.size < w1.heap.size := (hown.lt _ rfl).2
  have HE : Hid (RepL p w1 (cellsOf 3 0 (fun _ _ => undef)) (rs.take 0).flatten ∧ Evo (fun _ => False) p w p w1 ∧ Zp p w1 ∧ p w.heap.size = 0) := ⟨trivial, evo_grown hgr, fun b hb => HZ.out b (by omega), hp0.out⟩
  clear hown hgr
  go_wp2_with fail
  go_loopw [4] (fun i wr => ∃ (k : Nat) (V : Nat → Nat → Value) (q : Nat → Nat), k ≤ rows.length ∧ i = .int .i64 k ∧ Fill wr w.heap.size 3 rows.length k 43 V (fun j => #[Value.int .i64 0, .int .i64 0, .slice none 0 0][j]!) ∧ Hid (RepL q wr (cellsOf 3 k V) (rs.take k).flatten ∧ Evo (fun _ => False) p w q wr ∧ Zp q wr ∧ q w.heap.size = 0) ∧ Below w.heap.size w wr ∧ w.heap.size < wr.heap.size) (fun i _ => rows.length - (intOf i).toNat)
  case atStart => exact ⟨0, fun _ _ => undef, p, by omega, rfl, hF, HE, hB1, hsz⟩
  case round =>
    obtain ⟨k, V, q, hk, rfl, hF, HV, hB, hsz⟩ := hrel
    by_cases hlt : k < rows.length
    · obtain ⟨b, o, us, rfl, hblt, hul, hus, hcl⟩ := rep_at (HR.out.evo HV.out.2.1) hlt
      have hrun0 := hrun.out k hlt
      have hz' := hB.size
      clear hul
      have hsh0 := hsh.out k hlt
      generalize hrow : rows.getD k [] = row at hus hsh0 hrun0
      obtain ⟨n0, row0, rfl, hsh1⟩ := sh_int hsh0
      obtain ⟨us0, rfl, hr0, hus0⟩ := ld_int hus
      obtain ⟨n1, row1, rfl, hsh2⟩ := sh_int hsh1
      obtain ⟨us1, rfl, hr1, hus1⟩ := ld_int hus0
      obtain ⟨n2, row2, rfl, hsh3⟩ := sh_sl hsh2
      obtain ⟨A2, c2, us2, rfl, hr2, hus2⟩ := ld_sl hus1
      cases sh_nil hsh3
      cases repL_nil hus2
      have q0 := hcl 0 _ rfl
      have q1 := hcl 1 _ rfl
      have q2 := hcl 2 _ rfl
      rw [Nat.add_zero] at q0
      obtain ⟨y, hy, hys, hya, hyr⟩ := rowE_call rfl hrun0
      have CK := Lib.hid ((HC.out 15 _ _ hy).2 q wr [.agg #[.int .i64 n0, .int .i64 n1, .slice A2 n2.length c2]] ⟨⟨_, rfl, hr0, hr1, hr2, trivial⟩, trivial⟩ HV.out.2.2.1 (fun i k hk => by rw [hg] at hk; simp at hk) (fun i j u v b _ hi => by rw [hg] at hi; simp at hi))
      have HY := Lib.hid (And.intro hys (And.intro hya (And.intro hyr hrow)))
      clear hys hya hyr hrow hrun0 hy hr0 hr1 hr2 hus0 hus1 hus2 hcl
      go_wp2_with fail
      refine CK.out.mono ?_
      rintro e w2 ⟨v2, rfl, q2, hsr, _, _, hev, hz2', _, _⟩
      obtain ⟨hys, hya, hyr, hrow⟩ := HY.out
      have hev : Evo (fun _ => False) q wr q2 w2 := hev.weaken (fun b _ h => by obtain ⟨i, k, v, hk, _⟩ := h; rw [hg] at hk; simp at hk)
      obtain ⟨cs, rfl⟩ := agg_of hya
      obtain ⟨arr, rfl, hua⟩ : ∃ a, v2 = .agg a ∧ RepL q2 w2 a.toList cs := hsr
      have hys : shOk [.int 0, .int 0, .sl 3 []] cs = true := hys
      obtain ⟨l, hl⟩ : ∃ l, arr.toList = l := ⟨_, rfl⟩
      have harr : arr = l.toArray := by rw [← hl]
      rw [hl] at hua
      subst harr
      clear hl
      obtain ⟨m0, cs0, rfl, hys0⟩ := sh_int hys
      obtain ⟨va0, rfl, HN0, hua0⟩ := ld_int hua
      obtain ⟨m1, cs1, rfl, hys1⟩ := sh_int hys0
      obtain ⟨va1, rfl, HN1, hua1⟩ := ld_int hua0
      obtain ⟨m2, cs2, rfl, hys2⟩ := sh_sl hys1
      obtain ⟨B2, d2, va2, rfl, HN2, hua2⟩ := ld_sl hua1
      cases sh_nil hys2
      cases repL_nil hua2
      have hE2 : Evo (fun _ => False) p w q2 w2 := HV.out.2.1.trans hev (fun _ _ h => h) (fun _ _ h => h)
      have hq2 : q2 w.heap.size = 0 := by rw [hev.same _ hsz (fun h => h)]; exact HV.out.2.2.2
      have hRL : RepL q2 w2 (cellsOf 3 k V) (rs.take k).flatten := HV.out.1.evo hev
      have hB2 : Below w.heap.size w w2 := hB.trans ⟨hev.os, hev.tape, hev.output, hev.size, fun g hg => hev.block g (by omega) (fun h => h)⟩
      have hsz2 : w.heap.size < w2.heap.size := by have := hev.size; omega
      have hF2 := hF.keep (hev.block _ hsz (fun h => h))
      have hnew : RepL q2 w2 [.int .i64 m0, .int .i64 m1, .slice B2 m2.length d2] (rs.getD k []) := by rw [hyr]; exact ⟨HN0, HN1, HN2, trivial⟩
      have hq0_ := hF2.cell hlt (j := 0) (by omega)
      have hf0 := hF2.free (k * 3)
      have hq1_ := hF2.cell hlt (j := 1) (by omega)
      have hf1 := hF2.free (k * 3 + 1)
      have hq2_ := hF2.cell hlt (j := 2) (by omega)
      have hf2 := hF2.free (k * 3 + 2)
      rw [Nat.add_zero] at hq0_
      obtain ⟨W3, hW3⟩ : ∃ W3, W3 = (((w2.setCell ⟨w.heap.size, k * 3, none⟩ (.int .i64 m0)).setCell ⟨w.heap.size, k * 3 + 1, none⟩ (.int .i64 m1)).setCell ⟨w.heap.size, k * 3 + 2, none⟩ (.slice B2 m2.length d2)) := ⟨_, rfl⟩
      have hz3 : W3.heap.size = w2.heap.size := by rw [hW3]; simp
      have hF3 : Fill W3 w.heap.size 3 rows.length (k + 1) 43 (fun i j => if i = k then (#[(.int .i64 m0 : Value), .int .i64 m1, .slice B2 m2.length d2] : Array Value)[j]! else V i j) (fun j => #[Value.int .i64 0, .int .i64 0, .slice none 0 0][j]!) := by
        rw [hW3]
        exact (hF2.congr (V' := (fun i j => if i = k then (#[(.int .i64 m0 : Value), .int .i64 m1, .slice B2 m2.length d2] : Array Value)[j]! else V i j)) (fun i j hi _ => by rw [if_neg (by omega)])).three ((if_pos rfl).trans rfl) ((if_pos rfl).trans rfl) ((if_pos rfl).trans rfl)
      have hB3 : Below w.heap.size w W3 := by
        rw [hW3]
        exact (((hB2.setCell (Nat.le_refl _) _).setCell (Nat.le_refl _) _).setCell (Nat.le_refl _) _)
      have hev3 : Evo (· = w.heap.size) q2 w2 q2 W3 := evo_block hq2 hz3 (fun y hy => by
        rw [hW3]
        rw [heap_setCell_other _ _ _ _ hy, heap_setCell_other _ _ _ _ hy, heap_setCell_other _ _ _ _ hy]) (hB3.os.trans hB2.os.symm) (hB3.tape.trans hB2.tape.symm) (hB3.output.trans hB2.output.symm)
      have HV3 : Hid (RepL q2 W3 (cellsOf 3 (k + 1) (fun i j => if i = k then (#[(.int .i64 m0 : Value), .int .i64 m1, .slice B2 m2.length d2] : Array Value)[j]! else V i j)) (rs.take (k + 1)).flatten ∧ Evo (fun _ => False) p w q2 W3 ∧ Zp q2 W3 ∧ q2 w.heap.size = 0) := by
        refine ⟨?_, hE2.trans hev3 (fun _ _ h => h) (fun b hb h => by omega), fun b hb => hz2' b (by omega), hq2⟩
        rw [cellsOf_succ _ _ _ (by omega), flat_succ (by omega), cellsOf_congr (V' := V) (fun i j hi => by rw [if_neg (by omega)])]
        refine (hRL.evo hev3).append ?_
        have := hnew.evo hev3
        simpa [List.range_succ] using this
      have hsz3 : w.heap.size < W3.heap.size := by omega
      have hgoal := Lib.hid (And.intro hF3 (And.intro HV3 (And.intro hB3 hsz3)))
      clear hF hF2 HV hB hB2 hF3 hB3 hsz3 hz3 HV3 hev3 hRL hnew hE2 hq2 hz2' hyr hsz2 HR HZ hp0 hrun hsh hrow hev hya CK HY HN0 HN1 HN2 hua0 hua1 hua2
      subst hW3
      go_wp2_with fail
      go_roundw
      case rel => exact ⟨k + 1, _, _, by omega, by go_num, hgoal.out.1, hgoal.out.2.1, hgoal.out.2.2.1, hgoal.out.2.2.2⟩
      case measure => simp [intOf]; omega
    · go_wp2_with fail
      go_ret
      obtain rfl : k = rows.length := by omega
      have hall : ∀ r ∈ rs, r.length = 3 := fun r hr => by
        obtain ⟨i, hi, rfl⟩ := List.mem_iff_getElem.1 hr
        have h1 := hrun.out i (by omega)
        rw [show rs.getD i [] = rs[i] by simp [List.getD, hi]] at h1
        obtain ⟨y, _, h2, _, h3⟩ := rowE_call rfl h1
        rw [h3, shOk_len h2]
        rfl
      have hrl' := HV.out.1
      rw [List.take_of_length_le (by omega)] at hrl'
      refine ⟨_, rfl, upP q w.heap.size (rows.length * 3), fill_rep hF (by omega) hrl hall hsz HV.out.2.2.2 hrl', HV.out.2.1.trans (evo_raise HV.out.2.2.2) (fun _ _ h => h) (fun b hb h => by omega), fun b hb => ?_⟩
      rw [upP_ne (by omega)]
      exact HV.out.2.2.1 b hb
theorem info_toFuncS : (Try.prog.info? 59).map (fun i => (i.zero, i.size, i.bytes)) = some (some (.agg #[.slice none 0 0, .int .i64 0, .int .i64 0, .int .i64 0, .slice none 0 0]), 5, 72) := by kernel_rfl
set_option maxHeartbeats 1000000 in
theorem walk_toFuncS {S : Sig} {call : Orc} (hC : CallOk Try.prog S call) (hg : (S.sg 48).takes = []) (p : Nat → Nat) (w : World) (A : Option Addr) (c : Nat) (rows rs : List (List AC)) (hrep : Rep p w (.slice A rows.length c) (.sl 5 rows)) (hz : Zp p w) (hlen : rows.length ≤ 1048576)
    (hsh : Hid (∀ i, i < rows.length → shOk [.sl 1 [], .int 0, .int 0, .int 0, .sl 3 []] (rows.getD i []) = true)) (hrun : Hid (∀ i, i < rows.length → rowE call ⟨some 48, true, [.sl 1 [], .int 0, .int 0, .int 0, .sl 3 []], true, [.sl 1 [], .int 0, .int 0, .int 0, .sl 3 []]⟩ (rows.getD i []) = some (rs.getD i []))) (hrl : rs.length = rows.length) :
    Calls Try.prog 23 #[.slice A rows.length c] w fun e w' => ∃ v, e = .returned v ∧ ∃ p', Rep p' w' v (.sl 5 rs) ∧ Evo (fun _ => False) p w p' w' ∧ Zp p' w' := by
  obtain ⟨i0, hi, hz0, hz1, hz2⟩ := info_parts info_toFuncS
  have HR := Lib.hid hrep
  have HZ := Lib.hid hz
  have hp0 := Lib.hid (hz w.heap.size (Nat.le_refl _))
  have HC := Lib.hid hC
  clear hrep hz hC
  go_enter Try.func23, Try.ntmps23
  go_wp2_with (at_make; refine wpList_make_full _ rfl _ _ 29 rfl w.heap.size 59 i0 (.agg #[.slice none 0 0, .int .i64 0, .int .i64 0, .int .i64 0, .slice none 0 0]) 5 Try.underlying29 hi hz0 hz1 .i64 .i64 _ _ rows.length rfl rfl rfl rfl (by rw [hz2]; omega) (by unfold maxLen; omega) (Nat.le_refl _) ?_)
  intro w1 hown hgr
  have hB1 : Below w.heap.size w w1 := (Below.refl _ w).grown hgr (Nat.le_refl _) (fun k e => by cases e)
  have hF := Fill.made (k := 5) (z := #[Value.slice none 0 0, .int .i64 0, .int .i64 0, .int .i64 0, .slice none 0 0]) hown rfl (fun _ _ => undef)
  have hsz : w.heap.size < w1.heap.size := (hown.lt _ rfl).2
  have HE : Hid (RepL p w1 (cellsOf 5 0 (fun _ _ => undef)) (rs.take 0).flatten ∧ Evo (fun _ => False) p w p w1 ∧ Zp p w1 ∧ p w.heap.size = 0) := ⟨trivial, evo_grown hgr, fun b hb => HZ.out b (by omega), hp0.out⟩
  clear hown hgr
  go_wp2_with fail
  go_loopw [4] (fun i wr => ∃ (k : Nat) (V : Nat → Nat → Value) (q : Nat → Nat), k ≤ rows.length ∧ i = .int .i64 k ∧ Fill wr w.heap.size 5 rows.length k 59 V (fun j => #[Value.slice none 0 0, .int .i64 0, .int .i64 0, .int .i64 0, .slice none 0 0][j]!) ∧ Hid (RepL q wr (cellsOf 5 k V) (rs.take k).flatten ∧ Evo (fun _ => False) p w q wr ∧ Zp q wr ∧ q w.heap.size = 0) ∧ Below w.heap.size w wr ∧ w.heap.size < wr.heap.size) (fun i _ => rows.length - (intOf i).toNat)
  case atStart => exact ⟨0, fun _ _ => undef, p, by omega, rfl, hF, HE, hB1, hsz⟩
  case round =>
    obtain ⟨k, V, q, hk, rfl, hF, HV, hB, hsz⟩ := hrel
    by_cases hlt : k < rows.length
    · obtain ⟨b, o, us, rfl, hblt, hul, hus, hcl⟩ := rep_at (HR.out.evo HV.out.2.1) hlt
      have hrun0 := hrun.out k hlt
      have hz' := hB.size
      clear hul
      have hsh0 := hsh.out k hlt
      generalize hrow : rows.getD k [] = row at hus hsh0 hrun0
      obtain ⟨n0, row0, rfl, hsh1⟩ := sh_sl hsh0
      obtain ⟨A0, c0, us0, rfl, hr0, hus0⟩ := ld_sl hus
      obtain ⟨n1, row1, rfl, hsh2⟩ := sh_int hsh1
      obtain ⟨us1, rfl, hr1, hus1⟩ := ld_int hus0
      obtain ⟨n2, row2, rfl, hsh3⟩ := sh_int hsh2
      obtain ⟨us2, rfl, hr2, hus2⟩ := ld_int hus1
      obtain ⟨n3, row3, rfl, hsh4⟩ := sh_int hsh3
      obtain ⟨us3, rfl, hr3, hus3⟩ := ld_int hus2
      obtain ⟨n4, row4, rfl, hsh5⟩ := sh_sl hsh4
      obtain ⟨A4, c4, us4, rfl, hr4, hus4⟩ := ld_sl hus3
      cases sh_nil hsh5
      cases repL_nil hus4
      have q0 := hcl 0 _ rfl
      have q1 := hcl 1 _ rfl
      have q2 := hcl 2 _ rfl
      have q3 := hcl 3 _ rfl
      have q4 := hcl 4 _ rfl
      rw [Nat.add_zero] at q0
      obtain ⟨y, hy, hys, hya, hyr⟩ := rowE_call rfl hrun0
      have CK := Lib.hid ((HC.out 48 _ _ hy).2 q wr [.agg #[.slice A0 n0.length c0, .int .i64 n1, .int .i64 n2, .int .i64 n3, .slice A4 n4.length c4]] ⟨⟨_, rfl, hr0, hr1, hr2, hr3, hr4, trivial⟩, trivial⟩ HV.out.2.2.1 (fun i k hk => by rw [hg] at hk; simp at hk) (fun i j u v b _ hi => by rw [hg] at hi; simp at hi))
      have HY := Lib.hid (And.intro hys (And.intro hya (And.intro hyr hrow)))
      clear hys hya hyr hrow hrun0 hy hr0 hr1 hr2 hr3 hr4 hus0 hus1 hus2 hus3 hus4 hcl
      go_wp2_with fail
      refine CK.out.mono ?_
      rintro e w2 ⟨v2, rfl, q2, hsr, _, _, hev, hz2', _, _⟩
      obtain ⟨hys, hya, hyr, hrow⟩ := HY.out
      have hev : Evo (fun _ => False) q wr q2 w2 := hev.weaken (fun b _ h => by obtain ⟨i, k, v, hk, _⟩ := h; rw [hg] at hk; simp at hk)
      obtain ⟨cs, rfl⟩ := agg_of hya
      obtain ⟨arr, rfl, hua⟩ : ∃ a, v2 = .agg a ∧ RepL q2 w2 a.toList cs := hsr
      have hys : shOk [.sl 1 [], .int 0, .int 0, .int 0, .sl 3 []] cs = true := hys
      obtain ⟨l, hl⟩ : ∃ l, arr.toList = l := ⟨_, rfl⟩
      have harr : arr = l.toArray := by rw [← hl]
      rw [hl] at hua
      subst harr
      clear hl
      obtain ⟨m0, cs0, rfl, hys0⟩ := sh_sl hys
      obtain ⟨B0, d0, va0, rfl, HN0, hua0⟩ := ld_sl hua
      obtain ⟨m1, cs1, rfl, hys1⟩ := sh_int hys0
      obtain ⟨va1, rfl, HN1, hua1⟩ := ld_int hua0
      obtain ⟨m2, cs2, rfl, hys2⟩ := sh_int hys1
      obtain ⟨va2, rfl, HN2, hua2⟩ := ld_int hua1
      obtain ⟨m3, cs3, rfl, hys3⟩ := sh_int hys2
      obtain ⟨va3, rfl, HN3, hua3⟩ := ld_int hua2
      obtain ⟨m4, cs4, rfl, hys4⟩ := sh_sl hys3
      obtain ⟨B4, d4, va4, rfl, HN4, hua4⟩ := ld_sl hua3
      cases sh_nil hys4
      cases repL_nil hua4
      have hE2 : Evo (fun _ => False) p w q2 w2 := HV.out.2.1.trans hev (fun _ _ h => h) (fun _ _ h => h)
      have hq2 : q2 w.heap.size = 0 := by rw [hev.same _ hsz (fun h => h)]; exact HV.out.2.2.2
      have hRL : RepL q2 w2 (cellsOf 5 k V) (rs.take k).flatten := HV.out.1.evo hev
      have hB2 : Below w.heap.size w w2 := hB.trans ⟨hev.os, hev.tape, hev.output, hev.size, fun g hg => hev.block g (by omega) (fun h => h)⟩
      have hsz2 : w.heap.size < w2.heap.size := by have := hev.size; omega
      have hF2 := hF.keep (hev.block _ hsz (fun h => h))
      have hnew : RepL q2 w2 [.slice B0 m0.length d0, .int .i64 m1, .int .i64 m2, .int .i64 m3, .slice B4 m4.length d4] (rs.getD k []) := by rw [hyr]; exact ⟨HN0, HN1, HN2, HN3, HN4, trivial⟩
      have hq0_ := hF2.cell hlt (j := 0) (by omega)
      have hf0 := hF2.free (k * 5)
      have hq1_ := hF2.cell hlt (j := 1) (by omega)
      have hf1 := hF2.free (k * 5 + 1)
      have hq2_ := hF2.cell hlt (j := 2) (by omega)
      have hf2 := hF2.free (k * 5 + 2)
      have hq3_ := hF2.cell hlt (j := 3) (by omega)
      have hf3 := hF2.free (k * 5 + 3)
      have hq4_ := hF2.cell hlt (j := 4) (by omega)
      have hf4 := hF2.free (k * 5 + 4)
      rw [Nat.add_zero] at hq0_
      obtain ⟨W3, hW3⟩ : ∃ W3, W3 = (((((w2.setCell ⟨w.heap.size, k * 5, none⟩ (.slice B0 m0.length d0)).setCell ⟨w.heap.size, k * 5 + 1, none⟩ (.int .i64 m1)).setCell ⟨w.heap.size, k * 5 + 2, none⟩ (.int .i64 m2)).setCell ⟨w.heap.size, k * 5 + 3, none⟩ (.int .i64 m3)).setCell ⟨w.heap.size, k * 5 + 4, none⟩ (.slice B4 m4.length d4)) := ⟨_, rfl⟩
      have hz3 : W3.heap.size = w2.heap.size := by rw [hW3]; simp
      have hF3 : Fill W3 w.heap.size 5 rows.length (k + 1) 59 (fun i j => if i = k then (#[(.slice B0 m0.length d0 : Value), .int .i64 m1, .int .i64 m2, .int .i64 m3, .slice B4 m4.length d4] : Array Value)[j]! else V i j) (fun j => #[Value.slice none 0 0, .int .i64 0, .int .i64 0, .int .i64 0, .slice none 0 0][j]!) := by
        rw [hW3]
        exact (hF2.congr (V' := (fun i j => if i = k then (#[(.slice B0 m0.length d0 : Value), .int .i64 m1, .int .i64 m2, .int .i64 m3, .slice B4 m4.length d4] : Array Value)[j]! else V i j)) (fun i j hi _ => by rw [if_neg (by omega)])).five ((if_pos rfl).trans rfl) ((if_pos rfl).trans rfl) ((if_pos rfl).trans rfl) ((if_pos rfl).trans rfl) ((if_pos rfl).trans rfl)
      have hB3 : Below w.heap.size w W3 := by
        rw [hW3]
        exact (((((hB2.setCell (Nat.le_refl _) _).setCell (Nat.le_refl _) _).setCell (Nat.le_refl _) _).setCell (Nat.le_refl _) _).setCell (Nat.le_refl _) _)
      have hev3 : Evo (· = w.heap.size) q2 w2 q2 W3 := evo_block hq2 hz3 (fun y hy => by
        rw [hW3]
        rw [heap_setCell_other _ _ _ _ hy, heap_setCell_other _ _ _ _ hy, heap_setCell_other _ _ _ _ hy, heap_setCell_other _ _ _ _ hy, heap_setCell_other _ _ _ _ hy]) (hB3.os.trans hB2.os.symm) (hB3.tape.trans hB2.tape.symm) (hB3.output.trans hB2.output.symm)
      have HV3 : Hid (RepL q2 W3 (cellsOf 5 (k + 1) (fun i j => if i = k then (#[(.slice B0 m0.length d0 : Value), .int .i64 m1, .int .i64 m2, .int .i64 m3, .slice B4 m4.length d4] : Array Value)[j]! else V i j)) (rs.take (k + 1)).flatten ∧ Evo (fun _ => False) p w q2 W3 ∧ Zp q2 W3 ∧ q2 w.heap.size = 0) := by
        refine ⟨?_, hE2.trans hev3 (fun _ _ h => h) (fun b hb h => by omega), fun b hb => hz2' b (by omega), hq2⟩
        rw [cellsOf_succ _ _ _ (by omega), flat_succ (by omega), cellsOf_congr (V' := V) (fun i j hi => by rw [if_neg (by omega)])]
        refine (hRL.evo hev3).append ?_
        have := hnew.evo hev3
        simpa [List.range_succ] using this
      have hsz3 : w.heap.size < W3.heap.size := by omega
      have hgoal := Lib.hid (And.intro hF3 (And.intro HV3 (And.intro hB3 hsz3)))
      clear hF hF2 HV hB hB2 hF3 hB3 hsz3 hz3 HV3 hev3 hRL hnew hE2 hq2 hz2' hyr hsz2 HR HZ hp0 hrun hsh hrow hev hya CK HY HN0 HN1 HN2 HN3 HN4 hua0 hua1 hua2 hua3 hua4
      subst hW3
      go_wp2_with fail
      go_roundw
      case rel => exact ⟨k + 1, _, _, by omega, by go_num, hgoal.out.1, hgoal.out.2.1, hgoal.out.2.2.1, hgoal.out.2.2.2⟩
      case measure => simp [intOf]; omega
    · go_wp2_with fail
      go_ret
      obtain rfl : k = rows.length := by omega
      have hall : ∀ r ∈ rs, r.length = 5 := fun r hr => by
        obtain ⟨i, hi, rfl⟩ := List.mem_iff_getElem.1 hr
        have h1 := hrun.out i (by omega)
        rw [show rs.getD i [] = rs[i] by simp [List.getD, hi]] at h1
        obtain ⟨y, _, h2, _, h3⟩ := rowE_call rfl h1
        rw [h3, shOk_len h2]
        rfl
      have hrl' := HV.out.1
      rw [List.take_of_length_le (by omega)] at hrl'
      refine ⟨_, rfl, upP q w.heap.size (rows.length * 5), fill_rep hF (by omega) hrl hall hsz HV.out.2.2.2 hrl', HV.out.2.1.trans (evo_raise HV.out.2.2.2) (fun _ _ h => h) (fun b hb h => by omega), fun b hb => ?_⟩
      rw [upP_ne (by omega)]
      exact HV.out.2.2.1 b hb
theorem info_toIntS : (Try.prog.info? 3).map (fun i => (i.zero, i.size, i.bytes)) = some (some (.int .i64 0), 1, 8) := by kernel_rfl
set_option maxHeartbeats 1000000 in
theorem walk_toIntS {S : Sig} {call : Orc} (hC : CallOk Try.prog S call)  (p : Nat → Nat) (w : World) (A : Option Addr) (c : Nat) (rows rs : List (List AC)) (hrep : Rep p w (.slice A rows.length c) (.sl 1 rows)) (hz : Zp p w) (hlen : rows.length ≤ 1048576)
    (hsh : Hid (∀ i, i < rows.length → shOk [.int 0] (rows.getD i []) = true)) (hrun : Hid (∀ i, i < rows.length → rowE call ⟨none, false, [.int 0], false, [.int 0]⟩ (rows.getD i []) = some (rs.getD i []))) (hrl : rs.length = rows.length) :
    Calls Try.prog 71 #[.slice A rows.length c] w fun e w' => ∃ v, e = .returned v ∧ ∃ p', Rep p' w' v (.sl 1 rs) ∧ Evo (fun _ => False) p w p' w' ∧ Zp p' w' := by
  obtain ⟨i0, hi, hz0, hz1, hz2⟩ := info_parts info_toIntS
  have HR := Lib.hid hrep
  have HZ := Lib.hid hz
  have hp0 := Lib.hid (hz w.heap.size (Nat.le_refl _))
  have HC := Lib.hid hC
  clear hrep hz hC
  go_enter Try.func71, Try.ntmps71
  go_wp2_with (at_make; refine wpList_make_full _ rfl _ _ 52 rfl w.heap.size 3 i0 (.int .i64 0) 1 Try.underlying52 hi hz0 hz1 .i64 .i64 _ _ rows.length rfl rfl rfl rfl (by rw [hz2]; omega) (by unfold maxLen; omega) (Nat.le_refl _) ?_)
  intro w1 hown hgr
  have hB1 : Below w.heap.size w w1 := (Below.refl _ w).grown hgr (Nat.le_refl _) (fun k e => by cases e)
  have hF := Fill.made1 hown (fun _ _ => undef)
  have hsz : w.heap.size < w1.heap.size := (hown.lt _ rfl).2
  have HE : Hid (RepL p w1 (cellsOf 1 0 (fun _ _ => undef)) (rs.take 0).flatten ∧ Evo (fun _ => False) p w p w1 ∧ Zp p w1 ∧ p w.heap.size = 0) := ⟨trivial, evo_grown hgr, fun b hb => HZ.out b (by omega), hp0.out⟩
  clear hown hgr
  go_wp2_with fail
  go_loopw [4] (fun i wr => ∃ (k : Nat) (V : Nat → Nat → Value) (q : Nat → Nat), k ≤ rows.length ∧ i = .int .i64 k ∧ Fill wr w.heap.size 1 rows.length k 3 V (fun j => #[Value.int .i64 0][j]!) ∧ Hid (RepL q wr (cellsOf 1 k V) (rs.take k).flatten ∧ Evo (fun _ => False) p w q wr ∧ Zp q wr ∧ q w.heap.size = 0) ∧ Below w.heap.size w wr ∧ w.heap.size < wr.heap.size) (fun i _ => rows.length - (intOf i).toNat)
  case atStart => exact ⟨0, fun _ _ => undef, p, by omega, rfl, hF, HE, hB1, hsz⟩
  case round =>
    obtain ⟨k, V, q, hk, rfl, hF, HV, hB, hsz⟩ := hrel
    by_cases hlt : k < rows.length
    · obtain ⟨b, o, us, rfl, hblt, hul, hus, hcl⟩ := rep_at (HR.out.evo HV.out.2.1) hlt
      have hrun0 := hrun.out k hlt
      have hz' := hB.size
      clear hul
      have hsh0 := hsh.out k hlt
      generalize hrow : rows.getD k [] = row at hus hsh0 hrun0
      obtain ⟨n0, row0, rfl, hsh1⟩ := sh_int hsh0
      obtain ⟨us0, rfl, HN0, hus0⟩ := ld_int hus
      cases sh_nil hsh1
      cases repL_nil hus0
      have q0 := hcl 0 _ rfl
      rw [Nat.add_zero] at q0
      rw [Nat.mul_one] at q0
      have hE2 : Evo (fun _ => False) p w q wr := HV.out.2.1
      have hq2 : q w.heap.size = 0 := HV.out.2.2.2
      have hz2' := HV.out.2.2.1
      have hRL := HV.out.1
      have hB2 := hB
      have hsz2 := hsz
      have hF2 := hF
      have hyr : rs.getD k [] = [.int n0] := by simpa [rowE] using hrun0.symm
      have hnew : RepL q wr [.int .i64 n0] (rs.getD k []) := by rw [hyr]; exact ⟨HN0, trivial⟩
      have hq0_ := hF2.cell hlt (j := 0) (by omega)
      have hf0 := hF2.free (k)
      rw [Nat.mul_one, Nat.add_zero] at hq0_
      obtain ⟨W3, hW3⟩ : ∃ W3, W3 = (wr.setCell ⟨w.heap.size, k, none⟩ (.int .i64 n0)) := ⟨_, rfl⟩
      have hz3 : W3.heap.size = wr.heap.size := by rw [hW3]; simp
      have hF3 : Fill W3 w.heap.size 1 rows.length (k + 1) 3 (fun i j => if i = k then (#[(.int .i64 n0 : Value)] : Array Value)[j]! else V i j) (fun j => #[Value.int .i64 0][j]!) := by
        rw [hW3]
        exact (hF2.congr (V' := (fun i j => if i = k then (#[(.int .i64 n0 : Value)] : Array Value)[j]! else V i j)) (fun i j hi _ => by rw [if_neg (by omega)])).one hlt ((if_pos rfl).trans rfl)
      have hB3 : Below w.heap.size w W3 := by
        rw [hW3]
        exact (hB2.setCell (Nat.le_refl _) _)
      have hev3 : Evo (· = w.heap.size) q wr q W3 := evo_block hq2 hz3 (fun y hy => by
        rw [hW3]
        rw [heap_setCell_other _ _ _ _ hy]) (hB3.os.trans hB2.os.symm) (hB3.tape.trans hB2.tape.symm) (hB3.output.trans hB2.output.symm)
      have HV3 : Hid (RepL q W3 (cellsOf 1 (k + 1) (fun i j => if i = k then (#[(.int .i64 n0 : Value)] : Array Value)[j]! else V i j)) (rs.take (k + 1)).flatten ∧ Evo (fun _ => False) p w q W3 ∧ Zp q W3 ∧ q w.heap.size = 0) := by
        refine ⟨?_, hE2.trans hev3 (fun _ _ h => h) (fun b hb h => by omega), fun b hb => hz2' b (by omega), hq2⟩
        rw [cellsOf_succ _ _ _ (by omega), flat_succ (by omega), cellsOf_congr (V' := V) (fun i j hi => by rw [if_neg (by omega)])]
        refine (hRL.evo hev3).append ?_
        have := hnew.evo hev3
        simpa [List.range_succ] using this
      have hsz3 : w.heap.size < W3.heap.size := by omega
      have hgoal := Lib.hid (And.intro hF3 (And.intro HV3 (And.intro hB3 hsz3)))
      clear hF hF2 HV hB hB2 hF3 hB3 hsz3 hz3 HV3 hev3 hRL hnew hE2 hq2 hz2' hyr hsz2 HR HZ hp0 hrun hsh hrow hrun0 hcl HN0 hus0
      subst hW3
      go_wp2_with fail
      go_roundw
      case rel => exact ⟨k + 1, _, _, by omega, by go_num, hgoal.out.1, hgoal.out.2.1, hgoal.out.2.2.1, hgoal.out.2.2.2⟩
      case measure => simp [intOf]; omega
    · go_wp2_with fail
      go_ret
      obtain rfl : k = rows.length := by omega
      have hall : ∀ r ∈ rs, r.length = 1 := fun r hr => by
        obtain ⟨i, hi, rfl⟩ := List.mem_iff_getElem.1 hr
        have h1 := hrun.out i (by omega)
        rw [show rs.getD i [] = rs[i] by simp [List.getD, hi]] at h1
        have h2 := hsh.out i (by omega)
        rw [show rs[i] = rows.getD i [] by simpa [rowE] using h1.symm, shOk_len h2]
        rfl
      have hrl' := HV.out.1
      rw [List.take_of_length_le (by omega)] at hrl'
      refine ⟨_, rfl, upP q w.heap.size (rows.length * 1), fill_rep hF (by omega) hrl hall hsz HV.out.2.2.2 hrl', HV.out.2.1.trans (evo_raise HV.out.2.2.2) (fun _ _ h => h) (fun b hb h => by omega), fun b hb => ?_⟩
      rw [upP_ne (by omega)]
      exact HV.out.2.2.1 b hb
def ext : ExtT := [(70, .map ⟨some 85, true, [.sl 1 []], true, [.sl 1 []]⟩), (22, .map ⟨some 47, true, [.int 0, .int 0, .sl 1 []], true, [.int 0, .int 0, .sl 1 []]⟩), (37, .map ⟨some 15, true, [.int 0, .int 0, .sl 3 []], true, [.int 0, .int 0, .sl 3 []]⟩), (23, .map ⟨some 48, true, [.sl 1 [], .int 0, .int 0, .int 0, .sl 3 []], true, [.sl 1 [], .int 0, .int 0, .int 0, .sl 3 []]⟩), (71, .map ⟨none, false, [.int 0], false, [.int 0]⟩)]
theorem ext_ok : ∀ f e, sig.has f = false → ext.lookup f = some e → ∀ call, CallOk Try.prog sig call → CallOk1 Try.prog sig f (extRun call e) := by
  intro f e _ he call hC
  have hm := mem_of_lookup he
  simp only [ext, List.mem_cons, List.not_mem_nil, or_false, Prod.mk.injEq] at hm
  rcases hm with ⟨rfl, rfl⟩ | ⟨rfl, rfl⟩ | ⟨rfl, rfl⟩ | ⟨rfl, rfl⟩ | ⟨rfl, rfl⟩
  · exact map_ok Try.func70 (by kernel_rfl) (by kernel_rfl) rfl fun p w A c rows rs h1 h2 h3 h4 h5 h6 => walk_toConS hC rfl p w A c rows rs h1 h2 h3 h4 h5 h6
  · exact map_ok Try.func22 (by kernel_rfl) (by kernel_rfl) rfl fun p w A c rows rs h1 h2 h3 h4 h5 h6 => walk_toDeclS hC rfl p w A c rows rs h1 h2 h3 h4 h5 h6
  · exact map_ok Try.func37 (by kernel_rfl) (by kernel_rfl) rfl fun p w A c rows rs h1 h2 h3 h4 h5 h6 => walk_toExprS hC rfl p w A c rows rs h1 h2 h3 h4 h5 h6
  · exact map_ok Try.func23 (by kernel_rfl) (by kernel_rfl) rfl fun p w A c rows rs h1 h2 h3 h4 h5 h6 => walk_toFuncS hC rfl p w A c rows rs h1 h2 h3 h4 h5 h6
  · exact map_ok Try.func71 (by kernel_rfl) (by kernel_rfl) rfl fun p w A c rows rs h1 h2 h3 h4 h5 h6 => walk_toIntS hC p w A c rows rs h1 h2 h3 h4 h5 h6
end Go.Proofs.Ytoljlooeiljpfaa

/- What the exact laws ask of programs: contracts of the sizes and of the equality of functions and programs. -/
import Derived.Test.YtdooageiopnhaabX1
import Derived.Test.YtdooageiopnhaabT4
import Derived.Test.YtdooageiopnhaabPr0
namespace Go.Proofs.Ytdooageiopnhaab
open Go.RowKit Go.BigFrame
def SmallF (f : Fn) : Prop := f.params.length ≤ 1048576 ∧ sumL one_ f.body.kids ≤ 1048576
def SmallFs (fs : List Fn) : Prop := fs.length ≤ 1048576 ∧ ∀ i, i < fs.length → SmallF (nthF fs i)
def SmallP (p : Pg) : Prop := SmallD p.decls ∧ SmallFs p.funcs
theorem cells5 {W : World} {g : Nat} {T : TypeId} {a b c d e : Value} (h : W.heap[g]? = some (.cells #[a, b, c, d, e] T (0, 0))) : W.cell? ⟨g, 0, none⟩ = some a ∧ W.cell? ⟨g, 1, none⟩ = some b ∧ W.cell? ⟨g, 2, none⟩ = some c ∧ W.cell? ⟨g, 3, none⟩ = some d ∧ W.cell? ⟨g, 4, none⟩ = some e := by
  refine ⟨?_, ?_, ?_, ?_, ?_⟩ <;> rw [cell_of_row W g _ _ _ (0, 0) h] <;> rfl
theorem cells2 {W : World} {g : Nat} {T : TypeId} {a b : Value} (h : W.heap[g]? = some (.cells #[a, b] T (0, 0))) : W.cell? ⟨g, 0, none⟩ = some a ∧ W.cell? ⟨g, 1, none⟩ = some b := by
  refine ⟨?_, ?_⟩ <;> rw [cell_of_row W g _ _ _ (0, 0) h] <;> rfl
theorem leftV_cases (m n : Nat) : leftV m n = -1 ∨ ∃ x : Nat, leftV m n = (x : Int) ∧ x ≤ m ∧ n ≤ m := by
  unfold leftV
  split
  · rename_i h
    exact .inr ⟨m - n, by omega, by omega, h⟩
  · exact .inl rfl
set_option maxHeartbeats 400000 in
theorem szFunc_any (L U : Nat) (f : Fn) (A1 A2 : Option Addr) (c1 c2 : Nat) (left : Int) (w : World) (hI : Ints w L U (.slice A1 f.params.length c1) f.params) (hX : Exs w L U (.slice A2 f.body.kids.length c2) f.body.kids) (hU : U ≤ w.heap.size) (h0 : 0 ≤ left) (h1 : left ≤ 1048576) :
    Calls Try.prog 72 #[.agg #[.slice A1 f.params.length c1, .int .i64 f.result, .int .i64 f.body.op, .int .i64 f.body.num, .slice A2 f.body.kids.length c2], .int .i64 left] w fun e w' => ∃ r : Int, e = .returned (.int .i64 r) ∧ Below w.heap.size w w' ∧ (r = -1 ∨ (0 ≤ r ∧ r ≤ left ∧ SmallF f)) := by
  obtain ⟨W0, hW0⟩ : ∃ W0, W0 = w.alloc (.cells #[.slice A1 f.params.length c1, .int .i64 f.result, .int .i64 f.body.op, .int .i64 f.body.num, .slice A2 f.body.kids.length c2] 92) := ⟨_, rfl⟩
  have hB0 : Below w.heap.size w W0 := by rw [hW0]; exact (Below.refl _ w).alloc (Nat.le_refl _) _
  have hbox : W0.heap[w.heap.size]? = some (.cells #[.slice A1 f.params.length c1, .int .i64 f.result, .int .i64 f.body.op, .int .i64 f.body.num, .slice A2 f.body.kids.length c2] 92 (0, 0)) := by rw [hW0]; exact alloc_last _ _ _ rfl
  have HI := Lib.hid (hI.keep (Same.of_below hB0 hU))
  have HX := Lib.hid (hX.keep (Same.of_below hB0 hU))
  obtain ⟨q0, q1, q2, q3, q4⟩ := cells5 hbox
  clear hI hX hbox
  go_enter Try.func72, Try.ntmps72
  go_wp2_with fail
  rw [← hW0]
  clear hW0
  refine (szIntS_any _ _ _ _ _ W0 HI.out h0 h1).mono ?_
  rintro e w1 ⟨r, rfl, rfl, hr⟩
  rcases hr with rfl | ⟨r0, r1, r2⟩
  · go_wp2_with fail
    go_ret
    exact ⟨_, rfl, hB0, .inl rfl⟩
  · obtain ⟨m, rfl⟩ : ∃ m : Nat, r = (m : Int) := ⟨r.toNat, by omega⟩
    have CK := szExpr_any HX.out f.body.op f.body.num m (Nat.le_trans hU hB0.size) (by omega)
    rcases leftV_cases m (sumL one_ f.body.kids) with hx | ⟨x, hx, x0, x1⟩
    · rw [hx] at CK
      have CK := Lib.hid CK
      clear hx
      go_wp2_with fail
      refine CK.out.mono ?_
      rintro e w2 ⟨rfl, hB2⟩
      have HB := Lib.hid (hB0.trans (hB2.mono hB0.size))
      clear hB2
      go_wp2_with fail
      go_ret
      exact ⟨_, rfl, HB.out, .inl rfl⟩
    · rw [hx] at CK
      have CK := Lib.hid CK
      have HS := Lib.hid (show SmallF f from ⟨r2, by omega⟩)
      clear hx
      go_wp2_with fail
      refine CK.out.mono ?_
      rintro e w2 ⟨rfl, hB2⟩
      have HB := Lib.hid (hB0.trans (hB2.mono hB0.size))
      clear hB2
      go_wp2_with fail
      go_ret
      exact ⟨_, rfl, HB.out, .inr ⟨by omega, by omega, HS.out⟩⟩
set_option maxHeartbeats 400000 in
theorem szFuncS_any (L U : Nat) (fs : List Fn) (v : Value) (left : Int) (w : World) (hv : Fns w L U v fs) (hU : U ≤ w.heap.size) (h0 : 0 ≤ left) (h1 : left ≤ 1048576) :
    Calls Try.prog 48 #[v, .int .i64 left] w fun e w' => ∃ r : Int, e = .returned (.int .i64 r) ∧ Below w.heap.size w w' ∧ (r = -1 ∨ (0 ≤ r ∧ r ≤ left ∧ SmallFs fs)) := by
  obtain ⟨B, d, rfl, hl, hd⟩ := hv.open_
  by_cases hs : (fs.length : Int) ≤ left
  · go_enter Try.func48, Try.ntmps48
    go_wp2_with fail
    go_loopw [1, 5] (fun l i wr => ∃ (k : Nat) (x : Int), k ≤ fs.length ∧ i = .int .i64 k ∧ l = .int .i64 x ∧ 0 ≤ x ∧ x ≤ left ∧ Hid (∀ j, j < k → SmallF (nthF fs j)) ∧ Below w.heap.size w wr) (fun _ i _ => fs.length - (intOf i).toNat)
    case atStart => exact ⟨0, left - fs.length, by omega, rfl, rfl, by omega, by omega, fun j hj => absurd hj (by omega), Below.refl _ _⟩
    case round =>
      obtain ⟨k, x, hk, rfl, rfl, x0, x1, H, hB⟩ := hrel
      have hz := hB.size
      by_cases hlt : k < fs.length
      · obtain ⟨b, o, A1, c1, A2, c2, rfl, _, _, e0, e1, e2, e3, e4, hI, hX⟩ := (hv.keep (Same.of_below hB hU)).at_ hlt
        have x2 : x ≤ 1048576 := by omega
        clear hv
        go_wp2_with fail
        refine (szFunc_any _ _ _ _ _ _ _ _ _ hI hX (by omega) x0 x2).mono ?_
        rintro e w1 ⟨r, rfl, hB1, hr⟩
        have hB2 := hB.trans (hB1.mono hz)
        clear hI hX hB1
        rcases hr with rfl | ⟨r0, r1, r2⟩
        · go_wp2_with fail
          go_ret
          exact ⟨_, rfl, hB2, .inl rfl⟩
        · have r3 : r ≤ left := by omega
          have R2 := Lib.hid r2
          clear r2
          go_wp2_with fail
          go_roundw
          case rel => exact ⟨k + 1, r, by omega, by go_num, rfl, r0, r3, fun j hj => (Nat.lt_succ_iff_lt_or_eq.1 hj).elim (H.out j) (fun e => by rw [e]; exact R2.out), hB2⟩
          case measure => simp [intOf]; omega
      · go_wp2_with fail
        go_ret
        exact ⟨_, rfl, hB, .inr ⟨x0, x1, by omega, fun i hi => H.out i (by omega)⟩⟩
  · go_enter Try.func48, Try.ntmps48
    go_wp2_with fail
    go_ret
    exact ⟨_, rfl, Below.refl _ _, .inl rfl⟩
theorem szProgram_any (L U : Nat) (p : Pg) (v : Value) (left : Int) (w : World) (hv : Pgm w L U v p) (hU : U ≤ w.heap.size) (h0 : 0 ≤ left) (h1 : left ≤ 1048576) :
    Calls Try.prog 16 #[v, .int .i64 left] w fun e w' => ∃ r : Int, e = .returned (.int .i64 r) ∧ Below w.heap.size w w' ∧ (r = -1 ∨ (0 ≤ r ∧ r ≤ left ∧ SmallP p)) := by
  obtain ⟨d, f, rfl, hd, hf⟩ := hv
  obtain ⟨B1, b1, rfl, _, _⟩ := hd.open_
  obtain ⟨B2, b2, rfl, _, _⟩ := hf.open_
  obtain ⟨W0, hW0⟩ : ∃ W0, W0 = w.alloc (.cells #[.slice B1 p.decls.length b1, .slice B2 p.funcs.length b2] 38) := ⟨_, rfl⟩
  have hB0 : Below w.heap.size w W0 := by rw [hW0]; exact (Below.refl _ w).alloc (Nat.le_refl _) _
  have hz0 : W0.heap.size = w.heap.size + 1 := by rw [hW0]; simp
  have hbox : W0.heap[w.heap.size]? = some (.cells #[.slice B1 p.decls.length b1, .slice B2 p.funcs.length b2] 38 (0, 0)) := by rw [hW0]; exact alloc_last _ _ _ rfl
  have HD := Lib.hid (hd.keep (Same.of_below hB0 hU))
  have HF := Lib.hid (hf.keep (Same.of_below hB0 hU))
  have HX := Lib.hid hbox
  clear hd hf hbox
  go_enter Try.func16, Try.ntmps16
  go_wp2_with fail
  rw [← hW0]
  clear hW0
  refine (szDeclS_any _ _ _ _ _ W0 HD.out (by omega) h0 h1).mono ?_
  rintro e w1 ⟨r, rfl, hB1, hr⟩
  have B1' := Lib.hid (hB0.trans (hB1.mono (by omega)))
  rcases hr with rfl | ⟨r0, r1, r2⟩
  · go_wp2_with fail
    go_ret
    exact ⟨_, rfl, B1'.out, .inl rfl⟩
  · obtain ⟨q0, q1⟩ := cells2 ((hB1.block _ (by omega)).trans HX.out)
    have HF1 := Lib.hid (HF.out.keep (Same.of_below hB1 (by omega)))
    have R2 := Lib.hid r2
    have z1 := hB1.size
    have r3 : r ≤ 1048576 := by omega
    clear r2 hB1
    go_wp2_with fail
    refine (szFuncS_any _ _ _ _ _ w1 HF1.out (by omega) r0 r3).mono ?_
    rintro e w2 ⟨r', rfl, hB2, hr'⟩
    have B2' := Lib.hid (B1'.out.trans (hB2.mono B1'.out.size))
    clear hB2
    rcases hr' with rfl | ⟨s0, s1, s2⟩
    · go_wp2_with fail
      go_ret
      exact ⟨_, rfl, B2'.out, .inl rfl⟩
    · have S2 := Lib.hid s2
      clear s2
      go_wp2_with fail
      go_ret
      exact ⟨_, rfl, B2'.out, .inr ⟨s0, by omega, R2.out, S2.out⟩⟩
set_option maxHeartbeats 400000 in
theorem eqFunc_same (L U L' U' : Nat) (f : Fn) (A1 A2 A3 A4 : Option Addr) (c1 c2 c3 c4 : Nat) (w : World) (hI : Ints w L U (.slice A1 f.params.length c1) f.params) (hX : Exs w L U (.slice A2 f.body.kids.length c2) f.body.kids)
    (hI' : Ints w L' U' (.slice A3 f.params.length c3) f.params) (hX' : Exs w L' U' (.slice A4 f.body.kids.length c4) f.body.kids) (hU : U ≤ w.heap.size) (hU' : U' ≤ w.heap.size) :
    Calls Try.prog 79 #[.agg #[.slice A1 f.params.length c1, .int .i64 f.result, .int .i64 f.body.op, .int .i64 f.body.num, .slice A2 f.body.kids.length c2], .agg #[.slice A3 f.params.length c3, .int .i64 f.result, .int .i64 f.body.op, .int .i64 f.body.num, .slice A4 f.body.kids.length c4]] w fun e w' => e = .returned (.bool true) ∧ Below w.heap.size w w' := by
  obtain ⟨W0, hW0⟩ : ∃ W0, W0 = (w.alloc (.cells #[.slice A1 f.params.length c1, .int .i64 f.result, .int .i64 f.body.op, .int .i64 f.body.num, .slice A2 f.body.kids.length c2] 72)).alloc (.cells #[.slice A3 f.params.length c3, .int .i64 f.result, .int .i64 f.body.op, .int .i64 f.body.num, .slice A4 f.body.kids.length c4] 72) := ⟨_, rfl⟩
  have hB0 : Below w.heap.size w W0 := by rw [hW0]; exact ((Below.refl _ w).alloc (Nat.le_refl _) _).alloc (by simp) _
  have hz0 : W0.heap.size = w.heap.size + 2 := by rw [hW0]; simp
  have b0 : W0.heap[w.heap.size]? = some (.cells #[.slice A1 f.params.length c1, .int .i64 f.result, .int .i64 f.body.op, .int .i64 f.body.num, .slice A2 f.body.kids.length c2] 72 (0, 0)) := by rw [hW0]; exact (Below.heap_alloc _ _ _ (by simp)).trans (alloc_last _ _ _ rfl)
  have b1 : W0.heap[w.heap.size + 1]? = some (.cells #[.slice A3 f.params.length c3, .int .i64 f.result, .int .i64 f.body.op, .int .i64 f.body.num, .slice A4 f.body.kids.length c4] 72 (0, 0)) := by rw [hW0]; exact alloc_last _ _ _ (by simp)
  have S0 := Same.of_below hB0 hU (L := L)
  have S0' := Same.of_below hB0 hU' (L := L')
  have HI := Lib.hid (And.intro (hI.keep S0) (hI'.keep S0'))
  have HX := Lib.hid (And.intro (hX.keep S0) (hX'.keep S0'))
  have H0 := Lib.hid (And.intro b0 b1)
  clear hI hI' hX hX' b0 b1 S0 S0'
  go_enter Try.func79, Try.ntmps79
  go_wp2_with fail
  rw [← hW0]
  clear hW0
  refine (eqIntS_same _ _ _ _ _ _ _ W0 HI.out.1 HI.out.2).mono ?_
  rintro e w1 ⟨rfl, hB1⟩
  obtain ⟨q0, q1, q2, q3, q4⟩ := cells5 ((hB1.block _ (by omega)).trans H0.out.1)
  obtain ⟨p0, p1, p2, p3, p4⟩ := cells5 ((hB1.block _ (by omega)).trans H0.out.2)
  have z1 := hB1.size
  have CK := Lib.hid (eqExpr_same (HX.out.1.keep (Same.of_below hB1 (by omega))) (HX.out.2.keep (Same.of_below hB1 (by omega))) f.body.op f.body.num (show U ≤ w1.heap.size by omega) (show U' ≤ w1.heap.size by omega))
  have B1 := Lib.hid (hB0.trans (hB1.mono (by omega)))
  clear hB1
  go_wp2_with fail
  refine CK.out.mono ?_
  rintro e w2 ⟨rfl, hB2⟩
  have B2 := Lib.hid (B1.out.trans (hB2.mono B1.out.size))
  clear hB2
  go_wp2_with fail
  go_ret
  exact ⟨rfl, B2.out⟩
set_option maxHeartbeats 1600000 in
theorem eqFuncS_same (L U L' U' : Nat) (fs : List Fn) (v v' : Value) (w : World) (hv : Fns w L U v fs) (hv' : Fns w L' U' v' fs) (hU : U ≤ w.heap.size) (hU' : U' ≤ w.heap.size) :
    Calls Try.prog 55 #[v, v'] w fun e w' => e = .returned (.bool true) ∧ Below w.heap.size w w' := by
  obtain ⟨B, d, rfl, hl, hd⟩ := hv.open_
  obtain ⟨B', d', rfl, hl', hd'⟩ := hv'.open_
  go_enter Try.func55, Try.ntmps55
  go_wp2_with fail
  go_loopw [5] (fun i wr => ∃ k : Nat, k ≤ fs.length ∧ i = .int .i64 k ∧ Below w.heap.size w wr) (fun i _ => fs.length - (intOf i).toNat)
  case atStart => exact ⟨0, by omega, rfl, Below.refl _ _⟩
  case round =>
    obtain ⟨k, hk, rfl, hB⟩ := hrel
    have hz := hB.size
    by_cases hlt : k < fs.length
    · obtain ⟨b, o, A1, c1, A2, c2, rfl, _, _, e0, e1, e2, e3, e4, hI, hX⟩ := (hv.keep (Same.of_below hB hU)).at_ hlt
      obtain ⟨b', o', A3, c3, A4, c4, rfl, _, _, d0, d1, d2, d3, d4, hI', hX'⟩ := (hv'.keep (Same.of_below hB hU')).at_ hlt
      have k0 : (0 : Int) ≤ (k : Int) := by omega
      have k1 : (k : Int) < (fs.length : Int) := by omega
      have g1 : b < wr.heap.size := by omega
      have g2 : b' < wr.heap.size := by omega
      have CK := Lib.hid (eqFunc_same L U L' U' (nthF fs k) A1 A2 A3 A4 c1 c2 c3 c4 wr.drew (hI.keep (same_drew _ _ wr)) (hX.keep (same_drew _ _ wr)) (hI'.keep (same_drew _ _ wr)) (hX'.keep (same_drew _ _ wr)) (by simp; omega) (by simp; omega))
      have HB := Lib.hid hB
      clear hv hv' hI hX hI' hX' hB
      go_wp2_with fail
      go_region_held3 (fun w' => w'.cell? ⟨b, o + k * 5, none⟩ = some (.slice A1 (nthF fs k).params.length c1) ∧ w'.cell? ⟨b, o + k * 5 + 1, none⟩ = some (.int .i64 (nthF fs k).result) ∧ w'.cell? ⟨b, o + k * 5 + 2, none⟩ = some (.int .i64 (nthF fs k).body.op) ∧ w'.cell? ⟨b, o + k * 5 + 3, none⟩ = some (.int .i64 (nthF fs k).body.num) ∧ w'.cell? ⟨b, o + k * 5 + 4, none⟩ = some (.slice A2 (nthF fs k).body.kids.length c2) ∧ w'.cell? ⟨b', o' + k * 5, none⟩ = some (.slice A3 (nthF fs k).params.length c3) ∧ w'.cell? ⟨b', o' + k * 5 + 1, none⟩ = some (.int .i64 (nthF fs k).result) ∧ w'.cell? ⟨b', o' + k * 5 + 2, none⟩ = some (.int .i64 (nthF fs k).body.op) ∧ w'.cell? ⟨b', o' + k * 5 + 3, none⟩ = some (.int .i64 (nthF fs k).body.num) ∧ w'.cell? ⟨b', o' + k * 5 + 4, none⟩ = some (.slice A4 (nthF fs k).body.kids.length c4))
        (first | go_keep | (exact ⟨(hB1.cell (by simp; assumption)).trans (by simp; assumption), (hB1.cell (by simp; assumption)).trans (by simp; assumption), (hB1.cell (by simp; assumption)).trans (by simp; assumption), (hB1.cell (by simp; assumption)).trans (by simp; assumption), (hB1.cell (by simp; assumption)).trans (by simp; assumption), (hB1.cell (by simp; assumption)).trans (by simp; assumption), (hB1.cell (by simp; assumption)).trans (by simp; assumption), (hB1.cell (by simp; assumption)).trans (by simp; assumption), (hB1.cell (by simp; assumption)).trans (by simp; assumption), (hB1.cell (by simp; assumption)).trans (by simp; assumption)⟩))
        (first | (go_at_call 79; refine CK.out.mono ?_; rintro e w' ⟨rfl, hB1⟩))
      have hB2 := HB.out.trans (((Below.refl _ wr).drew.trans (hB1.mono (by simp))).mono hz)
      clear hB1
      go_wp2_with fail
      go_roundw
      case rel => exact ⟨k + 1, by omega, by go_num, hB2⟩
      case measure => simp [intOf]; omega
    · go_wp2_with fail
      go_ret
      exact ⟨rfl, hB⟩
set_option maxHeartbeats 400000 in
theorem eqProgram_same {w : World} {L U L' U' : Nat} {v v' : Value} {p : Pg} (h : Pgm w L U v p) (h' : Pgm w L' U' v' p) (hU : U ≤ w.heap.size) (hU' : U' ≤ w.heap.size) :
    Calls Try.prog 20 #[v, v'] w fun e w' => e = .returned (.bool true) ∧ Below w.heap.size w w' := by
  obtain ⟨d, f, rfl, hd, hf⟩ := h
  obtain ⟨d', f', rfl, hd', hf'⟩ := h'
  obtain ⟨B1, b1, rfl, _, _⟩ := hd.open_
  obtain ⟨B2, b2, rfl, _, _⟩ := hf.open_
  obtain ⟨B3, b3, rfl, _, _⟩ := hd'.open_
  obtain ⟨B4, b4, rfl, _, _⟩ := hf'.open_
  obtain ⟨W0, hW0⟩ : ∃ W0, W0 = (w.alloc (.cells #[.slice B1 p.decls.length b1, .slice B2 p.funcs.length b2] 44)).alloc (.cells #[.slice B3 p.decls.length b3, .slice B4 p.funcs.length b4] 44) := ⟨_, rfl⟩
  have hB0 : Below w.heap.size w W0 := by rw [hW0]; exact ((Below.refl _ w).alloc (Nat.le_refl _) _).alloc (by simp) _
  have hz0 : W0.heap.size = w.heap.size + 2 := by rw [hW0]; simp
  have c0 : W0.heap[w.heap.size]? = some (.cells #[.slice B1 p.decls.length b1, .slice B2 p.funcs.length b2] 44 (0, 0)) := by rw [hW0]; exact (Below.heap_alloc _ _ _ (by simp)).trans (alloc_last _ _ _ rfl)
  have c1 : W0.heap[w.heap.size + 1]? = some (.cells #[.slice B3 p.decls.length b3, .slice B4 p.funcs.length b4] 44 (0, 0)) := by rw [hW0]; exact alloc_last _ _ _ (by simp)
  have S0 := Same.of_below hB0 hU (L := L)
  have S0' := Same.of_below hB0 hU' (L := L')
  have HD := Lib.hid (And.intro (hd.keep S0) (hd'.keep S0'))
  have HF := Lib.hid (And.intro (hf.keep S0) (hf'.keep S0'))
  have H0 := Lib.hid (And.intro c0 c1)
  clear hd hf hd' hf' c0 c1 S0 S0'
  go_enter Try.func20, Try.ntmps20
  go_wp2_with fail
  rw [← hW0]
  clear hW0
  refine (eqDeclS_same _ _ _ _ _ _ _ W0 HD.out.1 HD.out.2 (by omega) (by omega)).mono ?_
  rintro e w1 ⟨rfl, hB1⟩
  obtain ⟨q0, q1⟩ := cells2 ((hB1.block _ (by omega)).trans H0.out.1)
  obtain ⟨p0, p1⟩ := cells2 ((hB1.block _ (by omega)).trans H0.out.2)
  have z1 := hB1.size
  have CK := Lib.hid (eqFuncS_same _ _ _ _ _ _ _ w1 (HF.out.1.keep (Same.of_below hB1 (by omega))) (HF.out.2.keep (Same.of_below hB1 (by omega))) (show U ≤ w1.heap.size by omega) (show U' ≤ w1.heap.size by omega))
  have B1' := Lib.hid (hB0.trans (hB1.mono (by omega)))
  clear hB1
  go_wp2_with fail
  refine CK.out.mono ?_
  rintro e w2 ⟨rfl, hB2⟩
  have B2' := Lib.hid (B1'.out.trans (hB2.mono B1'.out.size))
  clear hB2
  go_wp2_with fail
  go_ret
  exact ⟨rfl, B2'.out⟩
end Go.Proofs.Ytdooageiopnhaab

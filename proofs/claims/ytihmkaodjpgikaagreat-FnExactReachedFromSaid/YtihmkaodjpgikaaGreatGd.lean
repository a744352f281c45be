/- X1 X2 X3 X4: merged texts. -/
import Derived.Test.YtihmkaodjpgikaaGreatGc
import Derived.Test.YtihmkaodjpgikaaGreatGa
/- What the exact laws ask of their arguments: contracts of the sizes and of the equality of declarations. -/
namespace Go.Proofs.YtihmkaodjpgikaaGreat
open Go.RowKit Go.BigFrame
def SmallC (cs : List (List Int)) : Prop := cs.length ≤ 1048576 ∧ ∀ i, i < cs.length → (nthL cs i).length ≤ 1048576
def SmallD (ds : List Dec) : Prop := ds.length ≤ 1048576 ∧ ∀ i, i < ds.length → SmallC (nthD ds i).cons
theorem szCon_any (L U : Nat) (xs : List Int) (v : Value) (left : Int) (w : World) (hv : Ints w L U v xs) (hU : U ≤ w.heap.size) (h0 : 0 ≤ left) (h1 : left ≤ 1048576) :
    Calls Tryz.prog 69 #[.agg #[v], .int .i64 left] w fun e w' => ∃ r : Int, e = .returned (.int .i64 r) ∧ Below w.heap.size w w' ∧ (r = -1 ∨ (0 ≤ r ∧ r ≤ left ∧ xs.length ≤ 1048576)) := by
  obtain ⟨B, d, rfl, hl, hd⟩ := hv.open_
  have HB := Lib.hid fun O => (Below.refl w.heap.size w).alloc (Nat.le_refl _) O
  have Hv := Lib.hid fun O => hv.keep (Same.of_below ((Below.refl w.heap.size w).alloc (Nat.le_refl _) O) hU)
  clear hv
  go_enter Tryz.func69, Tryz.ntmps69
  go_wp2_with fail
  refine (szIntS_any _ _ _ _ _ _ (Hv.out _) h0 h1).mono ?_
  rintro e w1 ⟨r, rfl, rfl, hr⟩
  rcases hr with rfl | ⟨r0, r1, r2⟩
  · go_wp2_with fail
    go_ret
    exact ⟨_, rfl, HB.out _, .inl rfl⟩
  · go_wp2_with fail
    go_ret
    exact ⟨_, rfl, HB.out _, .inr ⟨r0, r1, r2⟩⟩
set_option maxHeartbeats 400000 in
theorem szConS_any (L U : Nat) (cs : List (List Int)) (v : Value) (left : Int) (w : World) (hv : Cons w L U v cs) (hU : U ≤ w.heap.size) (h0 : 0 ≤ left) (h1 : left ≤ 1048576) :
    Calls Tryz.prog 44 #[v, .int .i64 left] w fun e w' => ∃ r : Int, e = .returned (.int .i64 r) ∧ Below w.heap.size w w' ∧ (r = -1 ∨ (0 ≤ r ∧ r ≤ left ∧ SmallC cs)) := by
  obtain ⟨B, d, rfl, hl, hd⟩ := hv.open_
  by_cases hs : (cs.length : Int) ≤ left
  · go_enter Tryz.func44, Tryz.ntmps44
    go_wp2_with fail
    go_loopw [1, 5] (fun l i wr => ∃ (k : Nat) (x : Int), k ≤ cs.length ∧ i = .int .i64 k ∧ l = .int .i64 x ∧ 0 ≤ x ∧ x ≤ left ∧ Hid (∀ j, j < k → (nthL cs j).length ≤ 1048576) ∧ Below w.heap.size w wr) (fun _ i _ => cs.length - (intOf i).toNat)
    case atStart => exact ⟨0, left - cs.length, by omega, rfl, rfl, by omega, by omega, fun j hj => absurd hj (by omega), Below.refl _ _⟩
    case round =>
      obtain ⟨k, x, hk, rfl, rfl, x0, x1, H, hB⟩ := hrel
      have hz := hB.size
      by_cases hlt : k < cs.length
      · obtain ⟨b, o, A', c', rfl, _, _, hc, hu⟩ := (hv.keep (Same.of_below hB hU)).at_ hlt
        have x2 : x ≤ 1048576 := by omega
        clear hv
        go_wp2_with fail
        refine (szCon_any _ _ _ _ _ _ hu (by omega) x0 x2).mono ?_
        rintro e w1 ⟨r, rfl, hB1, hr⟩
        have hB2 := hB.trans (hB1.mono hz)
        clear hu hB1
        rcases hr with rfl | ⟨r0, r1, r2⟩
        · go_wp2_with fail
          go_ret
          exact ⟨_, rfl, hB2, .inl rfl⟩
        · have r3 : r ≤ left := by omega
          go_wp2_with fail
          go_roundw
          case rel => exact ⟨k + 1, r, by omega, by go_num, rfl, r0, r3, fun j hj => (Nat.lt_succ_iff_lt_or_eq.1 hj).elim (H.out j) (fun e => by rw [e, nthL_of hlt]; exact r2), hB2⟩
          case measure => simp [intOf]; omega
      · go_wp2_with fail
        go_ret
        exact ⟨_, rfl, hB, .inr ⟨x0, x1, by omega, fun i hi => H.out i (by omega)⟩⟩
  · go_enter Tryz.func44, Tryz.ntmps44
    go_wp2_with fail
    go_ret
    exact ⟨_, rfl, Below.refl _ _, .inl rfl⟩
theorem szDecl_any (L U : Nat) (a b : Int) (cs : List (List Int)) (v : Value) (left : Int) (w : World) (hv : Cons w L U v cs) (hU : U ≤ w.heap.size) (h0 : 0 ≤ left) (h1 : left ≤ 1048576) :
    Calls Tryz.prog 27 #[.agg #[.int .i64 a, .int .i64 b, v], .int .i64 left] w fun e w' => ∃ r : Int, e = .returned (.int .i64 r) ∧ Below w.heap.size w w' ∧ (r = -1 ∨ (0 ≤ r ∧ r ≤ left ∧ SmallC cs)) := by
  obtain ⟨B, d, rfl, hl, hd⟩ := hv.open_
  have HB := Lib.hid fun O => (Below.refl w.heap.size w).alloc (Nat.le_refl _) O
  have Hv := Lib.hid fun O => hv.keep (Same.of_below ((Below.refl w.heap.size w).alloc (Nat.le_refl _) O) hU)
  clear hv
  go_enter Tryz.func27, Tryz.ntmps27
  go_wp2_with fail
  refine (szConS_any _ _ _ _ _ _ (Hv.out _) (by simp; omega) h0 h1).mono ?_
  rintro e w1 ⟨r, rfl, hB1, hr⟩
  have hB2 := (HB.out _).trans (hB1.mono (HB.out _).size)
  rcases hr with rfl | ⟨r0, r1, r2⟩
  · go_wp2_with fail
    go_ret
    exact ⟨_, rfl, hB2, .inl rfl⟩
  · go_wp2_with fail
    go_ret
    exact ⟨_, rfl, hB2, .inr ⟨r0, r1, r2⟩⟩
set_option maxHeartbeats 400000 in
theorem szDeclS_any (L U : Nat) (ds : List Dec) (v : Value) (left : Int) (w : World) (hv : Decs w L U v ds) (hU : U ≤ w.heap.size) (h0 : 0 ≤ left) (h1 : left ≤ 1048576) :
    Calls Tryz.prog 13 #[v, .int .i64 left] w fun e w' => ∃ r : Int, e = .returned (.int .i64 r) ∧ Below w.heap.size w w' ∧ (r = -1 ∨ (0 ≤ r ∧ r ≤ left ∧ SmallD ds)) := by
  obtain ⟨B, d, rfl, hl, hd⟩ := hv.open_
  by_cases hs : (ds.length : Int) ≤ left
  · go_enter Tryz.func13, Tryz.ntmps13
    go_wp2_with fail
    go_loopw [1, 5] (fun l i wr => ∃ (k : Nat) (x : Int), k ≤ ds.length ∧ i = .int .i64 k ∧ l = .int .i64 x ∧ 0 ≤ x ∧ x ≤ left ∧ Hid (∀ j, j < k → SmallC (nthD ds j).cons) ∧ Below w.heap.size w wr) (fun _ i _ => ds.length - (intOf i).toNat)
    case atStart => exact ⟨0, left - ds.length, by omega, rfl, rfl, by omega, by omega, fun j hj => absurd hj (by omega), Below.refl _ _⟩
    case round =>
      obtain ⟨k, x, hk, rfl, rfl, x0, x1, H, hB⟩ := hrel
      have hz := hB.size
      by_cases hlt : k < ds.length
      · obtain ⟨b, o, A', c', rfl, _, _, hc0, hc1, hc2, hu⟩ := (hv.keep (Same.of_below hB hU)).at_ hlt
        have x2 : x ≤ 1048576 := by omega
        clear hv
        go_wp2_with fail
        refine (szDecl_any _ _ _ _ _ _ _ _ hu (by omega) x0 x2).mono ?_
        rintro e w1 ⟨r, rfl, hB1, hr⟩
        have hB2 := hB.trans (hB1.mono hz)
        clear hu hB1
        rcases hr with rfl | ⟨r0, r1, r2⟩
        · go_wp2_with fail
          go_ret
          exact ⟨_, rfl, hB2, .inl rfl⟩
        · have r3 : r ≤ left := by omega
          have R2 := Lib.hid r2
          clear r2
          go_wp2_with fail
          go_roundw
          case rel => exact ⟨k + 1, r, by omega, by go_num, rfl, r0, r3, fun j hj => (Nat.lt_succ_iff_lt_or_eq.1 hj).elim (H.out j) (fun e => by rw [e]; exact R2.out), hB2⟩
          case measure => simp [intOf]; omega
      · go_wp2_with fail
        go_ret
        exact ⟨_, rfl, hB, .inr ⟨x0, x1, by omega, fun i hi => H.out i (by omega)⟩⟩
  · go_enter Tryz.func13, Tryz.ntmps13
    go_wp2_with fail
    go_ret
    exact ⟨_, rfl, Below.refl _ _, .inl rfl⟩
set_option maxHeartbeats 400000 in
theorem eqCon_same (L U L' U' : Nat) (xs : List Int) (v v' : Value) (w : World) (hv : Ints w L U v xs) (hv' : Ints w L' U' v' xs) (hU : U ≤ w.heap.size) (hU' : U' ≤ w.heap.size) :
    Calls Tryz.prog 87 #[.agg #[v], .agg #[v']] w fun e w' => e = .returned (.bool true) ∧ Below w.heap.size w w' := by
  obtain ⟨B, d, rfl, hl, hd⟩ := hv.open_
  obtain ⟨B', d', rfl, hl', hd'⟩ := hv'.open_
  have HB := Lib.hid fun O O' => ((Below.refl w.heap.size w).alloc (Nat.le_refl _) O).alloc (by simp) O'
  have Hv := Lib.hid fun O O' => hv.keep (Same.of_below (HB.out O O') hU)
  have Hv' := Lib.hid fun O O' => hv'.keep (Same.of_below (HB.out O O') hU')
  clear hv hv'
  go_enter Tryz.func87, Tryz.ntmps87
  go_wp2_with fail
  refine (eqIntS_same _ _ _ _ _ _ _ _ (Hv.out _ _) (Hv'.out _ _)).mono ?_
  rintro e w1 ⟨rfl, hB1⟩
  have hB2 := (HB.out _ _).trans (hB1.mono (HB.out _ _).size)
  go_wp2_with fail
  go_ret
  exact ⟨rfl, hB2⟩
set_option maxHeartbeats 400000 in
theorem eqConS_same (L U L' U' : Nat) (cs : List (List Int)) (v v' : Value) (w : World) (hv : Cons w L U v cs) (hv' : Cons w L' U' v' cs) (hU : U ≤ w.heap.size) (hU' : U' ≤ w.heap.size) :
    Calls Tryz.prog 67 #[v, v'] w fun e w' => e = .returned (.bool true) ∧ Below w.heap.size w w' := by
  obtain ⟨B, d, rfl, hl, hd⟩ := hv.open_
  obtain ⟨B', d', rfl, hl', hd'⟩ := hv'.open_
  go_enter Tryz.func67, Tryz.ntmps67
  go_wp2_with fail
  go_loopw [5] (fun i wr => ∃ k : Nat, k ≤ cs.length ∧ i = .int .i64 k ∧ Below w.heap.size w wr) (fun i _ => cs.length - (intOf i).toNat)
  case atStart => exact ⟨0, by omega, rfl, Below.refl _ _⟩
  case round =>
    obtain ⟨k, hk, rfl, hB⟩ := hrel
    have hz := hB.size
    by_cases hlt : k < cs.length
    · obtain ⟨b, o, A1, c1, rfl, _, _, hc, hu⟩ := (hv.keep (Same.of_below hB hU)).at_ hlt
      obtain ⟨b', o', A2, c2, rfl, _, _, hc', hu'⟩ := (hv'.keep (Same.of_below hB hU')).at_ hlt
      have k0 : (0 : Int) ≤ (k : Int) := by omega
      have k1 : (k : Int) < (cs.length : Int) := by omega
      have g1 : b < wr.heap.size := by omega
      have g2 : b' < wr.heap.size := by omega
      have g3 : U ≤ wr.heap.size := by omega
      have g4 : U' ≤ wr.heap.size := by omega
      have Hu := Lib.hid (hu.keep (same_drew _ _ wr))
      have Hu' := Lib.hid (hu'.keep (same_drew _ _ wr))
      have HB := Lib.hid hB
      clear hv hv' hu hu' hB
      go_wp2_with fail
      go_region_held3 (fun w' => w'.cell? ⟨b, o + k, none⟩ = some (.slice A1 (cs[k]).length c1) ∧ w'.cell? ⟨b', o' + k, none⟩ = some (.slice A2 (cs[k]).length c2))
        (first | go_keep | (exact ⟨(hB1.cell (by simp; assumption)).trans (by simp; assumption), (hB1.cell (by simp; assumption)).trans (by simp; assumption)⟩))
        (first | (go_at_call 87; refine (eqCon_same _ _ _ _ _ _ _ _ Hu.out Hu'.out (by simp; assumption) (by simp; assumption)).mono ?_; rintro e w' ⟨rfl, hB1⟩))
      have hB2 := HB.out.trans (((Below.refl _ wr).drew.trans (hB1.mono (by simp))).mono hz)
      clear hB1
      go_wp2_with fail
      go_roundw
      case rel => exact ⟨k + 1, by omega, by go_num, hB2⟩
      case measure => simp [intOf]; omega
    · go_wp2_with fail
      go_ret
      exact ⟨rfl, hB⟩
set_option maxHeartbeats 400000 in
theorem eqDecl_same (L U L' U' : Nat) (a b : Int) (cs : List (List Int)) (v v' : Value) (w : World) (hv : Cons w L U v cs) (hv' : Cons w L' U' v' cs) (hU : U ≤ w.heap.size) (hU' : U' ≤ w.heap.size) :
    Calls Tryz.prog 40 #[.agg #[.int .i64 a, .int .i64 b, v], .agg #[.int .i64 a, .int .i64 b, v']] w fun e w' => e = .returned (.bool true) ∧ Below w.heap.size w w' := by
  obtain ⟨B, d, rfl, hl, hd⟩ := hv.open_
  obtain ⟨B', d', rfl, hl', hd'⟩ := hv'.open_
  have HB := Lib.hid fun O O' => ((Below.refl w.heap.size w).alloc (Nat.le_refl _) O).alloc (by simp) O'
  have Hv := Lib.hid fun O O' => hv.keep (Same.of_below (HB.out O O') hU)
  have Hv' := Lib.hid fun O O' => hv'.keep (Same.of_below (HB.out O O') hU')
  clear hv hv'
  go_enter Tryz.func40, Tryz.ntmps40
  go_wp2_with fail
  refine (eqConS_same _ _ _ _ _ _ _ _ (Hv.out _ _) (Hv'.out _ _) (by simp; omega) (by simp; omega)).mono ?_
  rintro e w1 ⟨rfl, hB1⟩
  have hB2 := (HB.out _ _).trans (hB1.mono (HB.out _ _).size)
  go_wp2_with fail
  go_ret
  exact ⟨rfl, hB2⟩
set_option maxHeartbeats 400000 in
theorem eqDeclS_same (L U L' U' : Nat) (ds : List Dec) (v v' : Value) (w : World) (hv : Decs w L U v ds) (hv' : Decs w L' U' v' ds) (hU : U ≤ w.heap.size) (hU' : U' ≤ w.heap.size) :
    Calls Tryz.prog 23 #[v, v'] w fun e w' => e = .returned (.bool true) ∧ Below w.heap.size w w' := by
  obtain ⟨B, d, rfl, hl, hd⟩ := hv.open_
  obtain ⟨B', d', rfl, hl', hd'⟩ := hv'.open_
  go_enter Tryz.func23, Tryz.ntmps23
  go_wp2_with fail
  go_loopw [5] (fun i wr => ∃ k : Nat, k ≤ ds.length ∧ i = .int .i64 k ∧ Below w.heap.size w wr) (fun i _ => ds.length - (intOf i).toNat)
  case atStart => exact ⟨0, by omega, rfl, Below.refl _ _⟩
  case round =>
    obtain ⟨k, hk, rfl, hB⟩ := hrel
    have hz := hB.size
    by_cases hlt : k < ds.length
    · obtain ⟨b, o, A1, c1, rfl, _, _, hc0, hc1, hc2, hu⟩ := (hv.keep (Same.of_below hB hU)).at_ hlt
      obtain ⟨b', o', A2, c2, rfl, _, _, hc0', hc1', hc2', hu'⟩ := (hv'.keep (Same.of_below hB hU')).at_ hlt
      have k0 : (0 : Int) ≤ (k : Int) := by omega
      have k1 : (k : Int) < (ds.length : Int) := by omega
      have g1 : b < wr.heap.size := by omega
      have g2 : b' < wr.heap.size := by omega
      have g3 : U ≤ wr.heap.size := by omega
      have g4 : U' ≤ wr.heap.size := by omega
      have Hu := Lib.hid (hu.keep (same_drew _ _ wr))
      have Hu' := Lib.hid (hu'.keep (same_drew _ _ wr))
      have HB := Lib.hid hB
      clear hv hv' hu hu' hB
      go_wp2_with fail
      go_region_held3 (fun w' => w'.cell? ⟨b, o + k * 3, none⟩ = some (.int .i64 (nthD ds k).frm) ∧ w'.cell? ⟨b, o + k * 3 + 1, none⟩ = some (.int .i64 (nthD ds k).to) ∧ w'.cell? ⟨b, o + k * 3 + 2, none⟩ = some (.slice A1 (nthD ds k).cons.length c1) ∧ w'.cell? ⟨b', o' + k * 3, none⟩ = some (.int .i64 (nthD ds k).frm) ∧ w'.cell? ⟨b', o' + k * 3 + 1, none⟩ = some (.int .i64 (nthD ds k).to) ∧ w'.cell? ⟨b', o' + k * 3 + 2, none⟩ = some (.slice A2 (nthD ds k).cons.length c2))
        (first | go_keep | (exact ⟨(hB1.cell (by simp; assumption)).trans (by simp; assumption), (hB1.cell (by simp; assumption)).trans (by simp; assumption), (hB1.cell (by simp; assumption)).trans (by simp; assumption), (hB1.cell (by simp; assumption)).trans (by simp; assumption), (hB1.cell (by simp; assumption)).trans (by simp; assumption), (hB1.cell (by simp; assumption)).trans (by simp; assumption)⟩))
        (first | (go_at_call 40; refine (eqDecl_same _ _ _ _ _ _ _ _ _ _ Hu.out Hu'.out (by simp; assumption) (by simp; assumption)).mono ?_; rintro e w' ⟨rfl, hB1⟩))
      have hB2 := HB.out.trans (((Below.refl _ wr).drew.trans (hB1.mono (by simp))).mono hz)
      clear hB1
      go_wp2_with fail
      go_roundw
      case rel => exact ⟨k + 1, by omega, by go_num, hB2⟩
      case measure => simp [intOf]; omega
    · go_wp2_with fail
      go_ret
      exact ⟨rfl, hB⟩
end Go.Proofs.YtihmkaodjpgikaaGreat

/- Copies that the exact laws make of declarations: what they read as. -/
namespace Go.Proofs.YtihmkaodjpgikaaGreat
open Go.RowKit Go.BigFrame
theorem infoC : (Tryz.prog.info? 101).map (fun i => (i.zero, i.size, i.bytes)) = some (some (.agg #[.slice none 0 0]), 1, 24) := by kernel_rfl
theorem infoD : (Tryz.prog.info? 73).map (fun i => (i.zero, i.size, i.bytes)) = some (some (.agg #[.int .i64 0, .int .i64 0, .slice none 0 0]), 3, 40) := by kernel_rfl
def OCons (w : World) (L U : Nat) (v : Value) (cs : List (List Int)) : Prop := ∃ V : Nat → Value, Blk w L U 101 v cs.length (cellsOf 1 cs.length fun i _ => V i) ∧ ∀ i, i < cs.length → OInts w L U (V i) (nthL cs i)
def ODecs (w : World) (L U : Nat) (v : Value) (ds : List Dec) : Prop := ∃ V : Nat → Value, Blk w L U 73 v ds.length (cellsOf 3 ds.length fun i j => decCell (nthD ds i) (V i) j) ∧ ∀ i, i < ds.length → OCons w L U (V i) (nthD ds i).cons
theorem OCons.keep {w w' : World} {L U : Nat} {v : Value} {cs : List (List Int)} (h : OCons w L U v cs) (s : Same L U w w') : OCons w' L U v cs := by
  obtain ⟨V, h1, h2⟩ := h
  exact ⟨V, h1.keep s, fun i hi => (h2 i hi).keep s⟩
theorem OCons.wide {w : World} {L U L' U' : Nat} {v : Value} {cs : List (List Int)} (h : OCons w L U v cs) (hL : L' ≤ L) (hU : U ≤ U') : OCons w L' U' v cs := by
  obtain ⟨V, h1, h2⟩ := h
  exact ⟨V, h1.wide hL hU, fun i hi => (h2 i hi).wide hL hU⟩
theorem ODecs.keep {w w' : World} {L U : Nat} {v : Value} {ds : List Dec} (h : ODecs w L U v ds) (s : Same L U w w') : ODecs w' L U v ds := by
  obtain ⟨V, h1, h2⟩ := h
  exact ⟨V, h1.keep s, fun i hi => (h2 i hi).keep s⟩
theorem OCons.cons {w : World} {L U : Nat} {v : Value} {cs : List (List Int)} (h : OCons w L U v cs) : Cons w L U v cs := by
  obtain ⟨V, h1, h2⟩ := h
  obtain ⟨g, e, r⟩ := h1.row
  exact ⟨_, _, V, e, r, fun i hi => (h2 i hi).ints⟩
theorem ODecs.decs {w : World} {L U : Nat} {v : Value} {ds : List Dec} (h : ODecs w L U v ds) : Decs w L U v ds := by
  obtain ⟨V, h1, h2⟩ := h
  obtain ⟨g, e, r⟩ := h1.row
  exact ⟨_, _, V, e, r, fun i hi => (h2 i hi).cons⟩
end Go.Proofs.YtihmkaodjpgikaaGreat

/- Copies that the exact laws make of constructors. -/
namespace Go.Proofs.YtihmkaodjpgikaaGreat
open Go.RowKit Go.BigFrame
set_option maxHeartbeats 400000 in
theorem toCon_any (L U : Nat) (xs : List Int) (v : Value) (w : World) (hv : Ints w L U v xs) (hU : U ≤ w.heap.size) (hs : xs.length ≤ 1048576) :
    Calls Tryz.prog 76 #[.agg #[v]] w fun e w' => ∃ u, e = .returned (.agg #[u]) ∧ Below w.heap.size w w' ∧ OInts w' w.heap.size w'.heap.size u xs := by
  obtain ⟨B, d, rfl, hl, hd⟩ := hv.open_
  go_enter Tryz.func76, Tryz.ntmps76
  go_wp2_with fail
  refine named ?_
  intro W hW
  have hB : Below w.heap.size w W := by
    rw [hW]
    iterate 2 (refine Below.alloc ?_ (by simp only [World.size_alloc]; omega) _)
    exact (Below.refl _ w).alloc (Nat.le_refl _) _
  have hsz : W.heap.size = w.heap.size + 3 := by rw [hW]; simp
  have b1 : W.heap[w.heap.size + 1]? = some (.cells #[.slice none 0 0] 101 (0, 0)) := by
    rw [hW]
    refine Eq.trans (Below.heap_alloc _ _ _ (by simp only [World.size_alloc]; omega)) ?_
    exact alloc_last _ _ _ (by simp)
  have b2 : W.heap[w.heap.size + 2]? = some (.cells #[.slice none 0 0] 101 (0, 0)) := by
    rw [hW]
    exact alloc_last _ _ _ (by simp)
  clear hW
  refine (toIntS_any _ _ _ _ _ (hv.keep (Same.of_below hB hU)) (by omega) hs).mono ?_
  rintro e w1 ⟨u, rfl, hB1, ho⟩
  have c1 := (hB1.block _ (by omega)).trans b1
  have c2 : w1.heap[w.heap.size + 1 + 1]? = _ := (hB1.block _ (by omega)).trans b2
  have q1 := cell_of_one c1
  have q2 := cell_of_one c2
  have f1 := free_of_one c1
  have f2 := free_of_one c2
  have HO := Lib.hid ho
  obtain ⟨g, a, rfl, _, _, _, _, _⟩ := ho
  have HC := Lib.hid (And.intro c1 c2)
  clear b1 b2 c1 c2
  go_wp2_with fail
  (try simp only [Exit.inBlock, Exit.then])
  have e1 : ((w1.setCell ⟨w.heap.size + 1 + 1, 0, none⟩ (Value.slice (some ⟨g, 0, none⟩) xs.length xs.length)).setCell ⟨w.heap.size + 1, 0, none⟩ (Value.slice (some ⟨g, 0, none⟩) xs.length xs.length)).cell? ⟨w.heap.size + 1, 0, none⟩ = some (Value.slice (some ⟨g, 0, none⟩) xs.length xs.length) := by
    have h1 : (w1.setCell ⟨w.heap.size + 1 + 1, 0, none⟩ (Value.slice (some ⟨g, 0, none⟩) xs.length xs.length)).heap[w.heap.size + 1]? = _ := (heap_setCell_other w1 ⟨w.heap.size + 1 + 1, 0, none⟩ (w.heap.size + 1) _ (by simp)).trans HC.out.1
    exact cell_of_one (heap_setCell_same _ _ 0 _ _ _ h1)
  refine bodyPost_ret (v := .agg #[.slice (some ⟨g, 0, none⟩) xs.length xs.length]) ?_ rfl ⟨_, rfl, ?_, ?_⟩
  · rw [results_one rfl]
    go_simp
  · exact (((hB.trans (hB1.mono hB.size)).setCell (by simp; omega) _).setCell (by simp) _)
  · refine (HO.out.keep (fun k h1 h2 => ?_)).wide (by omega) (by simp)
    rw [heap_setCell_other _ _ _ _ (by simp; omega), heap_setCell_other _ _ _ _ (by simp; omega)]
set_option maxHeartbeats 400000 in
theorem toConS_any (L U : Nat) (cs : List (List Int)) (v : Value) (w : World) (hv : Cons w L U v cs) (hU : U ≤ w.heap.size) (hs : SmallC cs) :
    Calls Tryz.prog 58 #[v] w fun e w' => ∃ u, e = .returned u ∧ Below w.heap.size w w' ∧ OCons w' w.heap.size w'.heap.size u cs := by
  obtain ⟨B, d, rfl, hl, hd⟩ := hv.open_
  obtain ⟨i0, hi, hz0, hz1, hz2⟩ := info_parts infoC
  have hs1 := hs.1
  have HS := Lib.hid hs
  clear hs
  go_enter Tryz.func58, Tryz.ntmps58
  go_wp2_with (at_make; refine wpList_make_full _ rfl _ _ 71 rfl w.heap.size 101 i0 (.agg #[.slice none 0 0]) 1 Tryz.underlying71 hi hz0 hz1 .i64 .i64 _ _ cs.length rfl rfl rfl rfl (by rw [hz2]; omega) (by unfold maxLen; omega) (Nat.le_refl _) ?_)
  intro w1 hown hg
  have hB1 : Below w.heap.size w w1 := (Below.refl _ w).grown hg (Nat.le_refl _) (fun k e => by cases e)
  have hF := Fill.made1 hown (fun _ _ => undef)
  have hsz : w.heap.size < w1.heap.size := (hown.lt _ rfl).2
  clear hown hg
  go_wp2_with fail
  go_loopw [4] (fun i wr => ∃ (k : Nat) (V : Nat → Value), k ≤ cs.length ∧ i = .int .i64 k ∧ Fill wr w.heap.size 1 cs.length k 101 (fun i _ => V i) (fun j => #[Value.slice none 0 0][j]!) ∧ Hid (∀ i, i < k → OInts wr (w.heap.size + 1) wr.heap.size (V i) (nthL cs i)) ∧ Below w.heap.size w wr ∧ w.heap.size < wr.heap.size) (fun i _ => cs.length - (intOf i).toNat)
  case atStart => exact ⟨0, fun _ => undef, by omega, rfl, hF, fun i hi => absurd hi (by omega), hB1, hsz⟩
  case round =>
    obtain ⟨k, V, hk, rfl, hF, HV, hB, hsz⟩ := hrel
    by_cases hlt : k < cs.length
    · obtain ⟨b, o, A', c', rfl, _, _, hc, hu⟩ := (hv.keep (Same.of_below hB hU)).at_ hlt
      have hz := hB.size
      clear hv
      go_wp2_with fail
      refine (toCon_any _ _ _ _ _ hu (by omega) (by have := HS.out.2 k hlt; rwa [nthL_of hlt] at this)).mono ?_
      rintro e w2 ⟨u, rfl, hB2, ho⟩
      have hF2 := hF.keep (hB2.block _ hsz)
      have hq := hF2.cell hlt (j := 0) (by omega)
      have hfr := hF2.free k
      rw [Nat.mul_one, Nat.add_zero] at hq
      have hF3 := (hF2.congr (V' := fun i _ => if i = k then u else V i) (fun i j hi _ => by rw [if_neg (by omega)])).one hlt (u := u) (if_pos rfl)
      have hB3 := (hB.trans (hB2.mono hz)).setCell (p := ⟨w.heap.size, k, none⟩) (Nat.le_refl _) u
      have HV3 : Hid (∀ i, i < k + 1 → OInts (w2.setCell ⟨w.heap.size, k, none⟩ u) (w.heap.size + 1) (w2.setCell ⟨w.heap.size, k, none⟩ u).heap.size (if i = k then u else V i) (nthL cs i)) := by
        intro i hi
        have kp : ∀ {v : Value} {xs : List Int}, OInts w2 (w.heap.size + 1) w2.heap.size v xs → OInts (w2.setCell ⟨w.heap.size, k, none⟩ u) (w.heap.size + 1) (w2.setCell ⟨w.heap.size, k, none⟩ u).heap.size v xs := fun h =>
          (h.keep (fun g h1 _ => heap_setCell_other _ _ _ _ (by show g ≠ w.heap.size; omega))).wide (Nat.le_refl _) (by simp)
        by_cases e : i = k
        · rw [if_pos e, e, nthL_of hlt]
          exact kp (ho.wide (by omega) (Nat.le_refl _))
        · rw [if_neg e]
          exact kp (((HV.out i (by omega)).keep (Same.of_below hB2 (Nat.le_refl _))).wide (Nat.le_refl _) hB2.size)
      have hsz3 : w.heap.size < (w2.setCell ⟨w.heap.size, k, none⟩ u).heap.size := by have := hB2.size; simp; omega
      obtain ⟨g, a, rfl, _, _, _, _, _⟩ := ho
      have HH := Lib.hid (And.intro hF3 (And.intro hB3 hsz3))
      clear hF hF2 hB HV hB2 hu hF3 hB3 hsz3
      go_wp2_with fail
      go_roundw
      case rel => exact ⟨k + 1, _, by omega, by go_num, HH.out.1, HV3, HH.out.2.1, HH.out.2.2⟩
      case measure => simp [intOf]; omega
    · go_wp2_with fail
      go_ret
      obtain rfl : k = cs.length := by omega
      exact ⟨_, rfl, hB, V, hF.blk (Nat.le_refl _) hsz (by unfold maxLen; omega), fun i hi => (HV.out i hi).wide (by omega) (Nat.le_refl _)⟩
end Go.Proofs.YtihmkaodjpgikaaGreat

/- Copies of declarations that the exact laws make. -/
namespace Go.Proofs.YtihmkaodjpgikaaGreat
open Go.RowKit Go.BigFrame
set_option maxHeartbeats 400000 in
theorem toDecl_any (L U : Nat) (x y : Int) (cs : List (List Int)) (v : Value) (w : World) (hv : Cons w L U v cs) (hU : U ≤ w.heap.size) (hs : SmallC cs) :
    Calls Tryz.prog 35 #[.agg #[.int .i64 x, .int .i64 y, v]] w fun e w' => ∃ u, e = .returned (.agg #[.int .i64 x, .int .i64 y, u]) ∧ Below w.heap.size w w' ∧ OCons w' w.heap.size w'.heap.size u cs := by
  obtain ⟨B, d, rfl, hl, hd⟩ := hv.open_
  go_enter Tryz.func35, Tryz.ntmps35
  go_wp2_with fail
  refine named ?_
  intro W hW
  have hB : Below w.heap.size w W := by
    rw [hW]
    iterate 2 (refine Below.alloc ?_ (by simp only [World.size_alloc]; omega) _)
    exact (Below.refl _ w).alloc (Nat.le_refl _) _
  have hsz : W.heap.size = w.heap.size + 3 := by rw [hW]; simp
  have b1 : W.heap[w.heap.size + 1]? = some (.cells #[.int .i64 0, .int .i64 0, .slice none 0 0] 73 (0, 0)) := by
    rw [hW]
    refine Eq.trans (Below.heap_alloc _ _ _ (by simp only [World.size_alloc]; omega)) ?_
    exact alloc_last _ _ _ (by simp)
  have b2 : W.heap[w.heap.size + 1 + 1]? = some (.cells #[.int .i64 x, .int .i64 y, .slice none 0 0] 73 (0, 0)) := by
    rw [hW]
    exact alloc_last _ _ _ (by simp)
  clear hW
  refine (toConS_any _ _ _ _ _ (hv.keep (Same.of_below hB hU)) (by omega) hs).mono ?_
  rintro e w1 ⟨u, rfl, hB1, ho⟩
  have c1 := (hB1.block _ (by omega)).trans b1
  have c2 := (hB1.block _ (by omega)).trans b2
  have q10 := cell_of_row w1 _ 0 _ _ (0, 0) c1
  have q11 := cell_of_row w1 _ 1 _ _ (0, 0) c1
  have q12 := cell_of_row w1 _ 2 _ _ (0, 0) c1
  have q20 := cell_of_row w1 _ 0 _ _ (0, 0) c2
  have q21 := cell_of_row w1 _ 1 _ _ (0, 0) c2
  have q22 := cell_of_row w1 _ 2 _ _ (0, 0) c2
  have f10 := frozen_of_row w1 _ 0 _ _ c1
  have f11 := frozen_of_row w1 _ 1 _ _ c1
  have f12 := frozen_of_row w1 _ 2 _ _ c1
  have f22 := frozen_of_row w1 _ 2 _ _ c2
  simp only [List.getElem?_toArray, List.getElem?_cons_zero, List.getElem?_cons_succ] at q10 q11 q12 q20 q21 q22
  have HO := Lib.hid ho
  obtain ⟨V, ⟨g, a, rfl, _, _, _, _, _⟩, _⟩ := ho
  have HC := Lib.hid (And.intro c1 c2)
  clear b1 b2 c1 c2
  go_wp2_with fail
  (try simp only [Exit.inBlock, Exit.then])
  refine ended ?_
  intro W4 hW4
  have e4 : W4.heap[w.heap.size + 1]? = some (.cells #[.int .i64 x, .int .i64 y, .slice (some ⟨g, 0, none⟩) cs.length cs.length] 73 (0, 0)) := by
    rw [hW4]
    exact heap_setCell_same _ _ 2 _ _ _ (heap_setCell_same _ _ 1 _ _ _ (heap_setCell_same _ _ 0 _ _ _ ((heap_setCell_other w1 ⟨w.heap.size + 1 + 1, 2, none⟩ (w.heap.size + 1) _ (by simp)).trans HC.out.1)))
  have r0 := cell_of_row W4 _ 0 _ _ (0, 0) e4
  have r1 := cell_of_row W4 _ 1 _ _ (0, 0) e4
  have r2 := cell_of_row W4 _ 2 _ _ (0, 0) e4
  simp only [List.getElem?_toArray, List.getElem?_cons_zero, List.getElem?_cons_succ] at r0 r1 r2
  have hB4 : Below w.heap.size w W4 := by
    rw [hW4]
    exact (((((hB.trans (hB1.mono hB.size)).setCell (by simp; omega) _).setCell (by simp) _).setCell (by simp) _).setCell (by simp) _)
  have ho4 : OCons W4 w.heap.size W4.heap.size (.slice (some ⟨g, 0, none⟩) cs.length cs.length) cs := by
    rw [hW4]
    refine (HO.out.keep (fun k h1 h2 => ?_)).wide (by omega) (by simp)
    rw [heap_setCell_other _ _ _ _ (by simp; omega), heap_setCell_other _ _ _ _ (by simp; omega), heap_setCell_other _ _ _ _ (by simp; omega), heap_setCell_other _ _ _ _ (by simp; omega)]
  clear hW4 e4
  refine bodyPost_ret (v := .agg #[.int .i64 x, .int .i64 y, .slice (some ⟨g, 0, none⟩) cs.length cs.length]) ?_ rfl ⟨_, rfl, hB4, ho4⟩
  rw [results_one rfl]
  go_simp
set_option maxHeartbeats 400000 in
theorem toDeclS_any (L U : Nat) (ds : List Dec) (v : Value) (w : World) (hv : Decs w L U v ds) (hU : U ≤ w.heap.size) (hs : SmallD ds) :
    Calls Tryz.prog 18 #[v] w fun e w' => ∃ u, e = .returned u ∧ Below w.heap.size w w' ∧ ODecs w' w.heap.size w'.heap.size u ds := by
  obtain ⟨B, d, rfl, hl, hd⟩ := hv.open_
  obtain ⟨i0, hi, hz0, hz1, hz2⟩ := info_parts infoD
  have hs1 := hs.1
  have HS := Lib.hid hs
  clear hs
  go_enter Tryz.func18, Tryz.ntmps18
  go_wp2_with (at_make; refine wpList_make_full _ rfl _ _ 29 rfl w.heap.size 73 i0 (.agg #[.int .i64 0, .int .i64 0, .slice none 0 0]) 3 Tryz.underlying29 hi hz0 hz1 .i64 .i64 _ _ ds.length rfl rfl rfl rfl (by rw [hz2]; omega) (by unfold maxLen; omega) (Nat.le_refl _) ?_)
  intro w1 hown hg
  have hB1 : Below w.heap.size w w1 := (Below.refl _ w).grown hg (Nat.le_refl _) (fun k e => by cases e)
  have hF := Fill.made (k := 3) (z := #[.int .i64 0, .int .i64 0, .slice none 0 0]) hown rfl (fun _ _ => undef)
  have hsz : w.heap.size < w1.heap.size := (hown.lt _ rfl).2
  clear hown hg
  go_wp2_with fail
  go_loopw [4] (fun i wr => ∃ (k : Nat) (V : Nat → Value), k ≤ ds.length ∧ i = .int .i64 k ∧ Fill wr w.heap.size 3 ds.length k 73 (fun i j => decCell (nthD ds i) (V i) j) (fun j => #[Value.int .i64 0, .int .i64 0, .slice none 0 0][j]!) ∧ Hid (∀ i, i < k → OCons wr (w.heap.size + 1) wr.heap.size (V i) (nthD ds i).cons) ∧ Below w.heap.size w wr ∧ w.heap.size < wr.heap.size) (fun i _ => ds.length - (intOf i).toNat)
  case atStart => exact ⟨0, fun _ => undef, by omega, rfl, hF, fun i hi => absurd hi (by omega), hB1, hsz⟩
  case round =>
    obtain ⟨k, V, hk, rfl, hF, HV, hB, hsz⟩ := hrel
    by_cases hlt : k < ds.length
    · obtain ⟨b, o, A', c', rfl, _, _, hc0, hc1, hc2, hu⟩ := (hv.keep (Same.of_below hB hU)).at_ hlt
      have hz := hB.size
      clear hv
      go_wp2_with fail
      refine (toDecl_any _ _ _ _ _ _ _ hu (by omega) (HS.out.2 k hlt)).mono ?_
      rintro e w2 ⟨u, rfl, hB2, ho⟩
      have hF2 := hF.keep (hB2.block _ hsz)
      have hq0 := hF2.cell hlt (j := 0) (by omega)
      have hq1 := hF2.cell hlt (j := 1) (by omega)
      have hq2 := hF2.cell hlt (j := 2) (by omega)
      have hf0 := hF2.free (k * 3)
      have hf1 := hF2.free (k * 3 + 1)
      have hf2 := hF2.free (k * 3 + 2)
      rw [Nat.add_zero] at hq0
      obtain ⟨W3, hW3⟩ : ∃ W3, W3 = ((w2.setCell ⟨w.heap.size, k * 3, none⟩ (.int .i64 (nthD ds k).frm)).setCell ⟨w.heap.size, k * 3 + 1, none⟩ (.int .i64 (nthD ds k).to)).setCell ⟨w.heap.size, k * 3 + 2, none⟩ u := ⟨_, rfl⟩
      have hz3 : W3.heap.size = w2.heap.size := by rw [hW3]; simp
      have hF3 : Fill W3 w.heap.size 3 ds.length (k + 1) 73 (fun i j => decCell (nthD ds i) (if i = k then u else V i) j) (fun j => #[Value.int .i64 0, .int .i64 0, .slice none 0 0][j]!) := by
        rw [hW3]
        exact (hF2.congr (V' := fun i j => decCell (nthD ds i) (if i = k then u else V i) j) (fun i j hi _ => by rw [if_neg (by omega)])).three rfl rfl (by simp [decCell])
      have hB3 : Below w.heap.size w W3 := by
        rw [hW3]
        exact (((hB.trans (hB2.mono hz)).setCell (Nat.le_refl _) _).setCell (Nat.le_refl _) _).setCell (Nat.le_refl _) _
      have kp0 : ∀ g, w.heap.size + 1 ≤ g → W3.heap[g]? = w2.heap[g]? := fun g hg => by
        rw [hW3, heap_setCell_other _ _ _ _ (by simp; omega), heap_setCell_other _ _ _ _ (by simp; omega), heap_setCell_other _ _ _ _ (by simp; omega)]
      have HV3 : Hid (∀ i, i < k + 1 → OCons W3 (w.heap.size + 1) W3.heap.size (if i = k then u else V i) (nthD ds i).cons) := by
        intro i hi
        have kp : ∀ {v : Value} {xs : List (List Int)}, OCons w2 (w.heap.size + 1) w2.heap.size v xs → OCons W3 (w.heap.size + 1) W3.heap.size v xs := fun h =>
          (h.keep (fun g h1 _ => kp0 g h1)).wide (Nat.le_refl _) (by omega)
        by_cases e : i = k
        · rw [if_pos e, e]
          exact kp (ho.wide (by omega) (Nat.le_refl _))
        · rw [if_neg e]
          exact kp (((HV.out i (by omega)).keep (Same.of_below hB2 (Nat.le_refl _))).wide (Nat.le_refl _) hB2.size)
      have hsz3 : w.heap.size < W3.heap.size := by have := hB2.size; omega
      obtain ⟨V', ⟨g, a, rfl, _, _, _, _, _⟩, _⟩ := ho
      subst hW3
      have HH := Lib.hid (And.intro hF3 (And.intro hB3 hsz3))
      clear hF hF2 hB HV hB2 hu hF3 hB3 hsz3 hz3 kp0
      go_wp2_with fail
      go_roundw
      case rel => exact ⟨k + 1, _, by omega, by go_num, HH.out.1, HV3, HH.out.2.1, HH.out.2.2⟩
      case measure => simp [intOf]; omega
    · go_wp2_with fail
      go_ret
      obtain rfl : k = ds.length := by omega
      exact ⟨_, rfl, hB, V, hF.blk (Nat.le_refl _) hsz (by unfold maxLen; omega), fun i hi => (HV.out i hi).wide (by omega) (Nat.le_refl _)⟩
end Go.Proofs.YtihmkaodjpgikaaGreat

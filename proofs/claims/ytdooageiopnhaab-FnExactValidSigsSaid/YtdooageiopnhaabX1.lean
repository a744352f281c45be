/- What the exact laws ask of their arguments: contracts of the sizes and of the equality of declarations. -/
import Derived.Test.YtdooageiopnhaabM
import Derived.Test.YtdooageiopnhaabOi
namespace Go.Proofs.Ytdooageiopnhaab
open Go.RowKit Go.BigFrame
def SmallC (cs : List (List Int)) : Prop := cs.length ≤ 1048576 ∧ ∀ i, i < cs.length → (nthL cs i).length ≤ 1048576
def SmallD (ds : List Dec) : Prop := ds.length ≤ 1048576 ∧ ∀ i, i < ds.length → SmallC (nthD ds i).cons
theorem szCon_any (L U : Nat) (xs : List Int) (v : Value) (left : Int) (w : World) (hv : Ints w L U v xs) (hU : U ≤ w.heap.size) (h0 : 0 ≤ left) (h1 : left ≤ 1048576) :
    Calls Try.prog 116 #[.agg #[v], .int .i64 left] w fun e w' => ∃ r : Int, e = .returned (.int .i64 r) ∧ Below w.heap.size w w' ∧ (r = -1 ∨ (0 ≤ r ∧ r ≤ left ∧ xs.length ≤ 1048576)) := by
  obtain ⟨B, d, rfl, hl, hd⟩ := hv.open_
  have HB := Lib.hid fun O => (Below.refl w.heap.size w).alloc (Nat.le_refl _) O
  have Hv := Lib.hid fun O => hv.keep (Same.of_below ((Below.refl w.heap.size w).alloc (Nat.le_refl _) O) hU)
  clear hv
  go_enter Try.func116, Try.ntmps116
  go_wp2_with fail
  refine (szIntS_any _ _ _ _ _ _ (Hv.out _) h0 h1).mono ?_
  rintro e w1 ⟨r, rfl, rfl, hr⟩
  rcases hr with rfl | ⟨r0, r1, r2⟩
  · go_wp2_with fail
    go_ret
    exact ⟨_, rfl, HB.out _, .inl rfl⟩
  · go_wp2_with fail
    go_ret
    exact ⟨_, rfl, HB.out _, .inr ⟨r0, r1, r2⟩⟩
set_option maxHeartbeats 400000 in
theorem szConS_any (L U : Nat) (cs : List (List Int)) (v : Value) (left : Int) (w : World) (hv : Cons w L U v cs) (hU : U ≤ w.heap.size) (h0 : 0 ≤ left) (h1 : left ≤ 1048576) :
    Calls Try.prog 97 #[v, .int .i64 left] w fun e w' => ∃ r : Int, e = .returned (.int .i64 r) ∧ Below w.heap.size w w' ∧ (r = -1 ∨ (0 ≤ r ∧ r ≤ left ∧ SmallC cs)) := by
  obtain ⟨B, d, rfl, hl, hd⟩ := hv.open_
  by_cases hs : (cs.length : Int) ≤ left
  · go_enter Try.func97, Try.ntmps97
    go_wp2_with fail
    go_loopw [1, 5] (fun l i wr => ∃ (k : Nat) (x : Int), k ≤ cs.length ∧ i = .int .i64 k ∧ l = .int .i64 x ∧ 0 ≤ x ∧ x ≤ left ∧ Hid (∀ j, j < k → (nthL cs j).length ≤ 1048576) ∧ Below w.heap.size w wr) (fun _ i _ => cs.length - (intOf i).toNat)
    case atStart => exact ⟨0, left - cs.length, by omega, rfl, rfl, by omega, by omega, fun j hj => absurd hj (by omega), Below.refl _ _⟩
    case round =>
      obtain ⟨k, x, hk, rfl, rfl, x0, x1, H, hB⟩ := hrel
      have hz := hB.size
      by_cases hlt : k < cs.length
      · obtain ⟨b, o, A', c', rfl, _, _, hc, hu⟩ := (hv.keep (Same.of_below hB hU)).at_ hlt
        have x2 : x ≤ 1048576 := by omega
        clear hv
        go_wp2_with fail
        refine (szCon_any _ _ _ _ _ _ hu (by omega) x0 x2).mono ?_
        rintro e w1 ⟨r, rfl, hB1, hr⟩
        have hB2 := hB.trans (hB1.mono hz)
        clear hu hB1
        rcases hr with rfl | ⟨r0, r1, r2⟩
        · go_wp2_with fail
          go_ret
          exact ⟨_, rfl, hB2, .inl rfl⟩
        · have r3 : r ≤ left := by omega
          go_wp2_with fail
          go_roundw
          case rel => exact ⟨k + 1, r, by omega, by go_num, rfl, r0, r3, fun j hj => (Nat.lt_succ_iff_lt_or_eq.1 hj).elim (H.out j) (fun e => by rw [e, nthL_of hlt]; exact r2), hB2⟩
          case measure => simp [intOf]; omega
      · go_wp2_with fail
        go_ret
        exact ⟨_, rfl, hB, .inr ⟨x0, x1, by omega, fun i hi => H.out i (by omega)⟩⟩
  · go_enter Try.func97, Try.ntmps97
    go_wp2_with fail
    go_ret
    exact ⟨_, rfl, Below.refl _ _, .inl rfl⟩
theorem szDecl_any (L U : Nat) (a b : Int) (cs : List (List Int)) (v : Value) (left : Int) (w : World) (hv : Cons w L U v cs) (hU : U ≤ w.heap.size) (h0 : 0 ≤ left) (h1 : left ≤ 1048576) :
    Calls Try.prog 71 #[.agg #[.int .i64 a, .int .i64 b, v], .int .i64 left] w fun e w' => ∃ r : Int, e = .returned (.int .i64 r) ∧ Below w.heap.size w w' ∧ (r = -1 ∨ (0 ≤ r ∧ r ≤ left ∧ SmallC cs)) := by
  obtain ⟨B, d, rfl, hl, hd⟩ := hv.open_
  have HB := Lib.hid fun O => (Below.refl w.heap.size w).alloc (Nat.le_refl _) O
  have Hv := Lib.hid fun O => hv.keep (Same.of_below ((Below.refl w.heap.size w).alloc (Nat.le_refl _) O) hU)
  clear hv
  go_enter Try.func71, Try.ntmps71
  go_wp2_with fail
  refine (szConS_any _ _ _ _ _ _ (Hv.out _) (by simp; omega) h0 h1).mono ?_
  rintro e w1 ⟨r, rfl, hB1, hr⟩
  have hB2 := (HB.out _).trans (hB1.mono (HB.out _).size)
  rcases hr with rfl | ⟨r0, r1, r2⟩
  · go_wp2_with fail
    go_ret
    exact ⟨_, rfl, hB2, .inl rfl⟩
  · go_wp2_with fail
    go_ret
    exact ⟨_, rfl, hB2, .inr ⟨r0, r1, r2⟩⟩
set_option maxHeartbeats 400000 in
theorem szDeclS_any (L U : Nat) (ds : List Dec) (v : Value) (left : Int) (w : World) (hv : Decs w L U v ds) (hU : U ≤ w.heap.size) (h0 : 0 ≤ left) (h1 : left ≤ 1048576) :
    Calls Try.prog 47 #[v, .int .i64 left] w fun e w' => ∃ r : Int, e = .returned (.int .i64 r) ∧ Below w.heap.size w w' ∧ (r = -1 ∨ (0 ≤ r ∧ r ≤ left ∧ SmallD ds)) := by
  obtain ⟨B, d, rfl, hl, hd⟩ := hv.open_
  by_cases hs : (ds.length : Int) ≤ left
  · go_enter Try.func47, Try.ntmps47
    go_wp2_with fail
    go_loopw [1, 5] (fun l i wr => ∃ (k : Nat) (x : Int), k ≤ ds.length ∧ i = .int .i64 k ∧ l = .int .i64 x ∧ 0 ≤ x ∧ x ≤ left ∧ Hid (∀ j, j < k → SmallC (nthD ds j).cons) ∧ Below w.heap.size w wr) (fun _ i _ => ds.length - (intOf i).toNat)
    case atStart => exact ⟨0, left - ds.length, by omega, rfl, rfl, by omega, by omega, fun j hj => absurd hj (by omega), Below.refl _ _⟩
    case round =>
      obtain ⟨k, x, hk, rfl, rfl, x0, x1, H, hB⟩ := hrel
      have hz := hB.size
      by_cases hlt : k < ds.length
      · obtain ⟨b, o, A', c', rfl, _, _, hc0, hc1, hc2, hu⟩ := (hv.keep (Same.of_below hB hU)).at_ hlt
        have x2 : x ≤ 1048576 := by omega
        clear hv
        go_wp2_with fail
        refine (szDecl_any _ _ _ _ _ _ _ _ hu (by omega) x0 x2).mono ?_
        rintro e w1 ⟨r, rfl, hB1, hr⟩
        have hB2 := hB.trans (hB1.mono hz)
        clear hu hB1
        rcases hr with rfl | ⟨r0, r1, r2⟩
        · go_wp2_with fail
          go_ret
          exact ⟨_, rfl, hB2, .inl rfl⟩
        · have r3 : r ≤ left := by omega
          have R2 := Lib.hid r2
          clear r2
          go_wp2_with fail
          go_roundw
          case rel => exact ⟨k + 1, r, by omega, by go_num, rfl, r0, r3, fun j hj => (Nat.lt_succ_iff_lt_or_eq.1 hj).elim (H.out j) (fun e => by rw [e]; exact R2.out), hB2⟩
          case measure => simp [intOf]; omega
      · go_wp2_with fail
        go_ret
        exact ⟨_, rfl, hB, .inr ⟨x0, x1, by omega, fun i hi => H.out i (by omega)⟩⟩
  · go_enter Try.func47, Try.ntmps47
    go_wp2_with fail
    go_ret
    exact ⟨_, rfl, Below.refl _ _, .inl rfl⟩
set_option maxHeartbeats 400000 in
theorem eqCon_same (L U L' U' : Nat) (xs : List Int) (v v' : Value) (w : World) (hv : Ints w L U v xs) (hv' : Ints w L' U' v' xs) (hU : U ≤ w.heap.size) (hU' : U' ≤ w.heap.size) :
    Calls Try.prog 118 #[.agg #[v], .agg #[v']] w fun e w' => e = .returned (.bool true) ∧ Below w.heap.size w w' := by
  obtain ⟨B, d, rfl, hl, hd⟩ := hv.open_
  obtain ⟨B', d', rfl, hl', hd'⟩ := hv'.open_
  have HB := Lib.hid fun O O' => ((Below.refl w.heap.size w).alloc (Nat.le_refl _) O).alloc (by simp) O'
  have Hv := Lib.hid fun O O' => hv.keep (Same.of_below (HB.out O O') hU)
  have Hv' := Lib.hid fun O O' => hv'.keep (Same.of_below (HB.out O O') hU')
  clear hv hv'
  go_enter Try.func118, Try.ntmps118
  go_wp2_with fail
  refine (eqIntS_same _ _ _ _ _ _ _ _ (Hv.out _ _) (Hv'.out _ _)).mono ?_
  rintro e w1 ⟨rfl, hB1⟩
  have hB2 := (HB.out _ _).trans (hB1.mono (HB.out _ _).size)
  go_wp2_with fail
  go_ret
  exact ⟨rfl, hB2⟩
set_option maxHeartbeats 400000 in
theorem eqConS_same (L U L' U' : Nat) (cs : List (List Int)) (v v' : Value) (w : World) (hv : Cons w L U v cs) (hv' : Cons w L' U' v' cs) (hU : U ≤ w.heap.size) (hU' : U' ≤ w.heap.size) :
    Calls Try.prog 103 #[v, v'] w fun e w' => e = .returned (.bool true) ∧ Below w.heap.size w w' := by
  obtain ⟨B, d, rfl, hl, hd⟩ := hv.open_
  obtain ⟨B', d', rfl, hl', hd'⟩ := hv'.open_
  go_enter Try.func103, Try.ntmps103
  go_wp2_with fail
  go_loopw [5] (fun i wr => ∃ k : Nat, k ≤ cs.length ∧ i = .int .i64 k ∧ Below w.heap.size w wr) (fun i _ => cs.length - (intOf i).toNat)
  case atStart => exact ⟨0, by omega, rfl, Below.refl _ _⟩
  case round =>
    obtain ⟨k, hk, rfl, hB⟩ := hrel
    have hz := hB.size
    by_cases hlt : k < cs.length
    · obtain ⟨b, o, A1, c1, rfl, _, _, hc, hu⟩ := (hv.keep (Same.of_below hB hU)).at_ hlt
      obtain ⟨b', o', A2, c2, rfl, _, _, hc', hu'⟩ := (hv'.keep (Same.of_below hB hU')).at_ hlt
      have k0 : (0 : Int) ≤ (k : Int) := by omega
      have k1 : (k : Int) < (cs.length : Int) := by omega
      have g1 : b < wr.heap.size := by omega
      have g2 : b' < wr.heap.size := by omega
      have g3 : U ≤ wr.heap.size := by omega
      have g4 : U' ≤ wr.heap.size := by omega
      have Hu := Lib.hid (hu.keep (same_drew _ _ wr))
      have Hu' := Lib.hid (hu'.keep (same_drew _ _ wr))
      have HB := Lib.hid hB
      clear hv hv' hu hu' hB
      go_wp2_with fail
      go_region_held3 (fun w' => w'.cell? ⟨b, o + k, none⟩ = some (.slice A1 (cs[k]).length c1) ∧ w'.cell? ⟨b', o' + k, none⟩ = some (.slice A2 (cs[k]).length c2))
        (first | go_keep | (exact ⟨(hB1.cell (by simp; assumption)).trans (by simp; assumption), (hB1.cell (by simp; assumption)).trans (by simp; assumption)⟩))
        (first | (go_at_call 118; refine (eqCon_same _ _ _ _ _ _ _ _ Hu.out Hu'.out (by simp; assumption) (by simp; assumption)).mono ?_; rintro e w' ⟨rfl, hB1⟩))
      have hB2 := HB.out.trans (((Below.refl _ wr).drew.trans (hB1.mono (by simp))).mono hz)
      clear hB1
      go_wp2_with fail
      go_roundw
      case rel => exact ⟨k + 1, by omega, by go_num, hB2⟩
      case measure => simp [intOf]; omega
    · go_wp2_with fail
      go_ret
      exact ⟨rfl, hB⟩
set_option maxHeartbeats 400000 in
theorem eqDecl_same (L U L' U' : Nat) (a b : Int) (cs : List (List Int)) (v v' : Value) (w : World) (hv : Cons w L U v cs) (hv' : Cons w L' U' v' cs) (hU : U ≤ w.heap.size) (hU' : U' ≤ w.heap.size) :
    Calls Try.prog 78 #[.agg #[.int .i64 a, .int .i64 b, v], .agg #[.int .i64 a, .int .i64 b, v']] w fun e w' => e = .returned (.bool true) ∧ Below w.heap.size w w' := by
  obtain ⟨B, d, rfl, hl, hd⟩ := hv.open_
  obtain ⟨B', d', rfl, hl', hd'⟩ := hv'.open_
  have HB := Lib.hid fun O O' => ((Below.refl w.heap.size w).alloc (Nat.le_refl _) O).alloc (by simp) O'
  have Hv := Lib.hid fun O O' => hv.keep (Same.of_below (HB.out O O') hU)
  have Hv' := Lib.hid fun O O' => hv'.keep (Same.of_below (HB.out O O') hU')
  clear hv hv'
  go_enter Try.func78, Try.ntmps78
  go_wp2_with fail
  refine (eqConS_same _ _ _ _ _ _ _ _ (Hv.out _ _) (Hv'.out _ _) (by simp; omega) (by simp; omega)).mono ?_
  rintro e w1 ⟨rfl, hB1⟩
  have hB2 := (HB.out _ _).trans (hB1.mono (HB.out _ _).size)
  go_wp2_with fail
  go_ret
  exact ⟨rfl, hB2⟩
set_option maxHeartbeats 400000 in
theorem eqDeclS_same (L U L' U' : Nat) (ds : List Dec) (v v' : Value) (w : World) (hv : Decs w L U v ds) (hv' : Decs w L' U' v' ds) (hU : U ≤ w.heap.size) (hU' : U' ≤ w.heap.size) :
    Calls Try.prog 54 #[v, v'] w fun e w' => e = .returned (.bool true) ∧ Below w.heap.size w w' := by
  obtain ⟨B, d, rfl, hl, hd⟩ := hv.open_
  obtain ⟨B', d', rfl, hl', hd'⟩ := hv'.open_
  go_enter Try.func54, Try.ntmps54
  go_wp2_with fail
  go_loopw [5] (fun i wr => ∃ k : Nat, k ≤ ds.length ∧ i = .int .i64 k ∧ Below w.heap.size w wr) (fun i _ => ds.length - (intOf i).toNat)
  case atStart => exact ⟨0, by omega, rfl, Below.refl _ _⟩
  case round =>
    obtain ⟨k, hk, rfl, hB⟩ := hrel
    have hz := hB.size
    by_cases hlt : k < ds.length
    · obtain ⟨b, o, A1, c1, rfl, _, _, hc0, hc1, hc2, hu⟩ := (hv.keep (Same.of_below hB hU)).at_ hlt
      obtain ⟨b', o', A2, c2, rfl, _, _, hc0', hc1', hc2', hu'⟩ := (hv'.keep (Same.of_below hB hU')).at_ hlt
      have k0 : (0 : Int) ≤ (k : Int) := by omega
      have k1 : (k : Int) < (ds.length : Int) := by omega
      have g1 : b < wr.heap.size := by omega
      have g2 : b' < wr.heap.size := by omega
      have g3 : U ≤ wr.heap.size := by omega
      have g4 : U' ≤ wr.heap.size := by omega
      have Hu := Lib.hid (hu.keep (same_drew _ _ wr))
      have Hu' := Lib.hid (hu'.keep (same_drew _ _ wr))
      have HB := Lib.hid hB
      clear hv hv' hu hu' hB
      go_wp2_with fail
      go_region_held3 (fun w' => w'.cell? ⟨b, o + k * 3, none⟩ = some (.int .i64 (nthD ds k).frm) ∧ w'.cell? ⟨b, o + k * 3 + 1, none⟩ = some (.int .i64 (nthD ds k).to) ∧ w'.cell? ⟨b, o + k * 3 + 2, none⟩ = some (.slice A1 (nthD ds k).cons.length c1) ∧ w'.cell? ⟨b', o' + k * 3, none⟩ = some (.int .i64 (nthD ds k).frm) ∧ w'.cell? ⟨b', o' + k * 3 + 1, none⟩ = some (.int .i64 (nthD ds k).to) ∧ w'.cell? ⟨b', o' + k * 3 + 2, none⟩ = some (.slice A2 (nthD ds k).cons.length c2))
        (first | go_keep | (exact ⟨(hB1.cell (by simp; assumption)).trans (by simp; assumption), (hB1.cell (by simp; assumption)).trans (by simp; assumption), (hB1.cell (by simp; assumption)).trans (by simp; assumption), (hB1.cell (by simp; assumption)).trans (by simp; assumption), (hB1.cell (by simp; assumption)).trans (by simp; assumption), (hB1.cell (by simp; assumption)).trans (by simp; assumption)⟩))
        (first | (go_at_call 78; refine (eqDecl_same _ _ _ _ _ _ _ _ _ _ Hu.out Hu'.out (by simp; assumption) (by simp; assumption)).mono ?_; rintro e w' ⟨rfl, hB1⟩))
      have hB2 := HB.out.trans (((Below.refl _ wr).drew.trans (hB1.mono (by simp))).mono hz)
      clear hB1
      go_wp2_with fail
      go_roundw
      case rel => exact ⟨k + 1, by omega, by go_num, hB2⟩
      case measure => simp [intOf]; omega
    · go_wp2_with fail
      go_ret
      exact ⟨rfl, hB⟩
end Go.Proofs.Ytdooageiopnhaab

/- Contracts of the equality of blocks, where both are the same. -/
import Derived.Test.YtdooageiopnhaaaY3
namespace Go.Proofs.Ytdooageiopnhaaa
open Go.RowKit Go.BigFrame
theorem eqBlock_of {u u' : Value} {ss : List St} (res : Int) (w : World) (hu : ∃ A c, u = .slice A ss.length c) (hu' : ∃ A c, u' = .slice A ss.length c)
    (C : ∀ W, Below w.heap.size w W → Calls Try.prog 20 #[u, u'] W fun e w' => e = .returned (.bool true) ∧ Below W.heap.size W w') :
    Calls Try.prog 10 #[.agg #[u, .int .i64 res], .agg #[u', .int .i64 res]] w fun e w' => e = .returned (.bool true) ∧ Below w.heap.size w w' := by
  obtain ⟨A, c, rfl⟩ := hu
  obtain ⟨A', c', rfl⟩ := hu'
  obtain ⟨W0, hW0⟩ : ∃ W0, W0 = (w.alloc (.cells #[.slice A ss.length c, .int .i64 res] 30)).alloc (.cells #[.slice A' ss.length c', .int .i64 res] 30) := ⟨_, rfl⟩
  have hB0 : Below w.heap.size w W0 := by rw [hW0]; exact ((Below.refl _ w).alloc (Nat.le_refl _) _).alloc (by simp) _
  have hz0 : W0.heap.size = w.heap.size + 2 := by rw [hW0]; simp
  have b0 : W0.heap[w.heap.size]? = some (.cells #[.slice A ss.length c, .int .i64 res] 30 (0, 0)) := by rw [hW0]; exact (Below.heap_alloc _ _ _ (by simp)).trans (alloc_last _ _ _ rfl)
  have b1 : W0.heap[w.heap.size + 1]? = some (.cells #[.slice A' ss.length c', .int .i64 res] 30 (0, 0)) := by rw [hW0]; exact alloc_last _ _ _ (by simp)
  have HC := Lib.hid C
  have H0 := Lib.hid (And.intro b0 b1)
  clear C b0 b1
  go_enter Try.func10, Try.ntmps10
  go_wp2_with fail
  rw [← hW0]
  clear hW0
  refine (HC.out W0 hB0).mono ?_
  rintro e w1 ⟨rfl, hB1⟩
  obtain ⟨_, q0⟩ := two ((hB1.block _ (by omega)).trans H0.out.1)
  obtain ⟨_, q1⟩ := two ((hB1.block _ (by omega)).trans H0.out.2)
  have hB2 := hB0.trans (hB1.mono (by omega))
  clear hB1
  go_wp2_with fail
  go_ret
  exact ⟨rfl, hB2⟩
set_option maxHeartbeats 800000 in
theorem eqBlockS_of {w0 w1 : World} {L U L' U' : Nat} {A A2 : Option Addr} {c c2 : Nat} {V V2 : Nat → Value} {bs : List Bl} (r : Row w0 L U 2 A bs.length c (fun j x => blCell (nthB bs j) (V j) x)) (r2 : Row w1 L' U' 2 A2 bs.length c2 (fun j x => blCell (nthB bs j) (V2 j) x))
    (hV : ∀ j, j < bs.length → ∃ A c, V j = .slice A (nthB bs j).steps.length c) (hV2 : ∀ j, j < bs.length → ∃ A c, V2 j = .slice A (nthB bs j).steps.length c)
    (C : ∀ j, j < bs.length → ∀ W : World, Same L U w0 W → Same L' U' w1 W → U ≤ W.heap.size → U' ≤ W.heap.size → Calls Try.prog 20 #[V j, V2 j] W fun e w' => e = .returned (.bool true) ∧ Below W.heap.size W w')
    (w : World) (hS : Same L U w0 w) (hS' : Same L' U' w1 w) (hU : U ≤ w.heap.size) (hU' : U' ≤ w.heap.size) :
    Calls Try.prog 41 #[.slice A bs.length c, .slice A2 bs.length c2] w fun e w' => e = .returned (.bool true) ∧ Below w.heap.size w w' := by
  have hl := r.le
  have hc : c ≤ 9223372036854775807 := r.cap
  have hl2 := r2.le
  have hc2 : c2 ≤ 9223372036854775807 := r2.cap
  have HC := Lib.hid C
  have HV := Lib.hid hV
  have HV2 := Lib.hid hV2
  clear C hV hV2
  go_enter Try.func41, Try.ntmps41
  go_wp2_with fail
  go_loopw [5] (fun i wr => ∃ k : Nat, k ≤ bs.length ∧ i = .int .i64 k ∧ Below w.heap.size w wr) (fun i _ => bs.length - (intOf i).toNat)
  case atStart => exact ⟨0, by omega, rfl, Below.refl _ _⟩
  case round =>
    obtain ⟨k, hk, rfl, hB⟩ := hrel
    have hz := hB.size
    by_cases hlt : k < bs.length
    · have hS1 : Same L U w0 wr := hS.trans (Same.of_below hB hU)
      have hS2 : Same L' U' w1 wr := hS'.trans (Same.of_below hB hU')
      obtain ⟨b, o, rfl, _, hb, c0, c1⟩ := brow_at (r.keep hS1) hlt
      obtain ⟨b', o', rfl, _, hb', d0, d1⟩ := brow_at (r2.keep hS2) hlt
      obtain ⟨A3, k3, hV⟩ := HV.out k hlt
      obtain ⟨A4, k4, hV2⟩ := HV2.out k hlt
      have CK := eqBlock_of (ss := (nthB bs k).steps) (nthB bs k).result wr.drew ⟨A3, k3, hV⟩ ⟨A4, k4, hV2⟩ (fun W hW => HC.out k hlt W (hS1.trans (Same.of_below ((Below.refl wr.heap.size wr).drew.trans (hW.mono (by simp))) (by omega))) (hS2.trans (Same.of_below ((Below.refl wr.heap.size wr).drew.trans (hW.mono (by simp))) (by omega))) (by have := hW.size; simp at this; omega) (by have := hW.size; simp at this; omega))
      rw [hV] at c0 CK
      rw [hV2] at d0 CK
      have CK := Lib.hid CK
      have k0 : (0 : Int) ≤ (k : Int) := by omega
      have k1 : (k : Int) < (bs.length : Int) := by omega
      have g1 : b < wr.heap.size := by omega
      have g2 : b' < wr.heap.size := by omega
      have HB := Lib.hid hB
      clear hB hS1 hS2 hV hV2
      go_wp2_with fail
      go_region_held3 (fun w' => w'.cell? ⟨b, o + k * 2, none⟩ = some (.slice A3 (nthB bs k).steps.length k3) ∧ w'.cell? ⟨b, o + k * 2 + 1, none⟩ = some (.int .i64 (nthB bs k).result) ∧ w'.cell? ⟨b', o' + k * 2, none⟩ = some (.slice A4 (nthB bs k).steps.length k4) ∧ w'.cell? ⟨b', o' + k * 2 + 1, none⟩ = some (.int .i64 (nthB bs k).result))
        (first | go_keep | (exact ⟨(hB1.cell (by simp; assumption)).trans (by simp; assumption), (hB1.cell (by simp; assumption)).trans (by simp; assumption), (hB1.cell (by simp; assumption)).trans (by simp; assumption), (hB1.cell (by simp; assumption)).trans (by simp; assumption)⟩))
        (first | (go_at_call 10; refine CK.out.mono ?_; rintro e w' ⟨rfl, hB1⟩))
      have hB2 := HB.out.trans (((Below.refl _ wr).drew.trans (hB1.mono (by simp))).mono hz)
      clear hB1
      go_wp2_with fail
      go_roundw
      case rel => exact ⟨k + 1, by omega, by go_num, hB2⟩
      case measure => simp [intOf]; omega
    · go_wp2_with fail
      go_ret
      exact ⟨rfl, hB⟩
theorem five {W : World} {g : Nat} {T : TypeId} {a b c d e : Value} (h : W.heap[g]? = some (.cells #[a, b, c, d, e] T (0, 0))) : W.cell? ⟨g, 0, none⟩ = some a ∧ W.cell? ⟨g, 1, none⟩ = some b ∧ W.cell? ⟨g, 2, none⟩ = some c ∧ W.cell? ⟨g, 3, none⟩ = some d ∧ W.cell? ⟨g, 4, none⟩ = some e := by
  refine ⟨?_, ?_, ?_, ?_, ?_⟩ <;> rw [cell_of_row W g _ _ _ (0, 0) h] <;> rfl
set_option maxHeartbeats 400000 in
theorem eqStep_of {w0 w1 : World} {L U L' U' : Nat} {A1 K1 A2 K2 : Option Addr} {c1 k1 c2 k2 : Nat} (s : St) (w : World) (hI : Ints w0 L U (.slice A1 s.args.length c1) s.args) (hI2 : Ints w1 L' U' (.slice A2 s.args.length c2) s.args) (hS : Same L U w0 w) (hS' : Same L' U' w1 w) (hU : U ≤ w.heap.size) (hU' : U' ≤ w.heap.size)
    (C : ∀ W : World, Same L U w0 W → Same L' U' w1 W → U ≤ W.heap.size → U' ≤ W.heap.size → Calls Try.prog 41 #[.slice K1 s.kids.length k1, .slice K2 s.kids.length k2] W fun e w' => e = .returned (.bool true) ∧ Below W.heap.size W w') :
    Calls Try.prog 30 #[.agg #[.int .i64 s.op, .int .i64 s.num, .int .i64 s.into, .slice A1 s.args.length c1, .slice K1 s.kids.length k1], .agg #[.int .i64 s.op, .int .i64 s.num, .int .i64 s.into, .slice A2 s.args.length c2, .slice K2 s.kids.length k2]] w fun e w' => e = .returned (.bool true) ∧ Below w.heap.size w w' := by
  obtain ⟨W0, hW0⟩ : ∃ W0, W0 = (w.alloc (.cells #[.int .i64 s.op, .int .i64 s.num, .int .i64 s.into, .slice A1 s.args.length c1, .slice K1 s.kids.length k1] 54)).alloc (.cells #[.int .i64 s.op, .int .i64 s.num, .int .i64 s.into, .slice A2 s.args.length c2, .slice K2 s.kids.length k2] 54) := ⟨_, rfl⟩
  have hB0 : Below w.heap.size w W0 := by rw [hW0]; exact ((Below.refl _ w).alloc (Nat.le_refl _) _).alloc (by simp) _
  have hz0 : W0.heap.size = w.heap.size + 2 := by rw [hW0]; simp
  have b0 : W0.heap[w.heap.size]? = some (.cells #[.int .i64 s.op, .int .i64 s.num, .int .i64 s.into, .slice A1 s.args.length c1, .slice K1 s.kids.length k1] 54 (0, 0)) := by rw [hW0]; exact (Below.heap_alloc _ _ _ (by simp)).trans (alloc_last _ _ _ rfl)
  have b1 : W0.heap[w.heap.size + 1]? = some (.cells #[.int .i64 s.op, .int .i64 s.num, .int .i64 s.into, .slice A2 s.args.length c2, .slice K2 s.kids.length k2] 54 (0, 0)) := by rw [hW0]; exact alloc_last _ _ _ (by simp)
  have hS0 : Same L U w0 W0 := hS.trans (Same.of_below hB0 hU)
  have hS0' : Same L' U' w1 W0 := hS'.trans (Same.of_below hB0 hU')
  have HI := Lib.hid (And.intro (hI.keep hS0) (hI2.keep hS0'))
  have HC := Lib.hid fun W hW => C W (hS0.trans (Same.of_below (B := W0.heap.size) hW (by omega))) (hS0'.trans (Same.of_below hW (by omega))) (by have := hW.size; omega) (by have := hW.size; omega)
  have H0 := Lib.hid (And.intro b0 b1)
  clear C hI hI2 b0 b1
  go_enter Try.func30, Try.ntmps30
  go_wp2_with fail
  rw [← hW0]
  clear hW0
  refine (eqIntS_same _ _ _ _ _ _ _ W0 HI.out.1 HI.out.2).mono ?_
  rintro e w2 ⟨rfl, hB2⟩
  obtain ⟨_, _, _, _, q0⟩ := five ((hB2.block _ (by omega)).trans H0.out.1)
  obtain ⟨_, _, _, _, q1⟩ := five ((hB2.block _ (by omega)).trans H0.out.2)
  have HB2 := Lib.hid hB2
  clear hB2
  go_wp2_with fail
  refine (HC.out w2 HB2.out).mono ?_
  rintro e w3 ⟨rfl, hB3⟩
  have hB4 := (hB0.trans (HB2.out.mono (by omega))).trans (hB3.mono (by have := HB2.out.size; omega))
  clear hB3
  go_wp2_with fail
  go_ret
  exact ⟨rfl, hB4⟩
set_option maxHeartbeats 1600000 in
theorem eqStepS_same {w0 : World} {L U : Nat} {u : Value} {ss : List St} (h : Sts w0 L U u ss) : ∀ {w1 : World} {L' U' : Nat} {u' : Value}, Sts w1 L' U' u' ss → ∀ w : World, Same L U w0 w → Same L' U' w1 w → U ≤ w.heap.size → U' ≤ w.heap.size →
    Calls Try.prog 20 #[u, u'] w fun e w' => e = .returned (.bool true) ∧ Below w.heap.size w w' := by
  induction h with
  | mk A c VA KA KC KV ss r ha hk h ih =>
    intro w1 L' U' u' h' w hS hS' hU hU'
    cases h' with
    | mk A2 c2 VA2 KA2 KC2 KV2 _ r2 ha2 hk2 h2 =>
    have hl := r.le
    have hc : c ≤ 9223372036854775807 := r.cap
    have hl2 := r2.le
    have hc2 : c2 ≤ 9223372036854775807 := r2.cap
    have HKS := Lib.hid fun k (hlt : k < ss.length) => eqBlockS_of (hk k hlt) (hk2 k hlt) (fun j hj => by obtain ⟨A, c, e, _⟩ := (h k hlt j hj).open_; exact ⟨A, c, e⟩) (fun j hj => by obtain ⟨A, c, e, _⟩ := (h2 k hlt j hj).open_; exact ⟨A, c, e⟩) (fun j hj W a1 a2 a3 a4 => ih k hlt j hj (h2 k hlt j hj) W a1 a2 a3 a4)
    have HA := Lib.hid ha
    have HA2 := Lib.hid ha2
    clear ih hk hk2 h h2 ha ha2
    go_enter Try.func20, Try.ntmps20
    go_wp2_with fail
    go_loopw [5] (fun i wr => ∃ k : Nat, k ≤ ss.length ∧ i = .int .i64 k ∧ Below w.heap.size w wr) (fun i _ => ss.length - (intOf i).toNat)
    case atStart => exact ⟨0, by omega, rfl, Below.refl _ _⟩
    case round =>
      obtain ⟨k, hk, rfl, hB⟩ := hrel
      have hz := hB.size
      by_cases hlt : k < ss.length
      · have hS1 : Same L U w0 wr := hS.trans (Same.of_below hB hU)
        have hS2 : Same L' U' w1 wr := hS'.trans (Same.of_below hB hU')
        obtain ⟨b, o, rfl, _, hb, c0, c1, c3, c4, c5⟩ := srow_at (r.keep hS1) hlt
        obtain ⟨b', o', rfl, _, hb', d0, d1, d3, d4, d5⟩ := srow_at (r2.keep hS2) hlt
        have hI := HA.out k hlt
        have hI2 := HA2.out k hlt
        obtain ⟨A3, k3, hV, _, _⟩ := hI.open_
        obtain ⟨A4, k4, hV2, _, _⟩ := hI2.open_
        rw [hV] at c4 hI
        rw [hV2] at d4 hI2
        have CK := Lib.hid (eqStep_of (nthS ss k) wr.drew hI hI2 (hS1.trans (same_drew _ _ wr)) (hS2.trans (same_drew _ _ wr)) (by simp; omega) (by simp; omega) (HKS.out k hlt))
        have k0 : (0 : Int) ≤ (k : Int) := by omega
        have k1 : (k : Int) < (ss.length : Int) := by omega
        have g1 : b < wr.heap.size := by omega
        have g2 : b' < wr.heap.size := by omega
        have HB := Lib.hid hB
        clear hB hS1 hS2 hV hV2 hI hI2
        go_wp2_with fail
        go_region_held3 (fun w' => w'.cell? ⟨b, o + k * 5, none⟩ = some (.int .i64 (nthS ss k).op) ∧ w'.cell? ⟨b, o + k * 5 + 1, none⟩ = some (.int .i64 (nthS ss k).num) ∧ w'.cell? ⟨b, o + k * 5 + 2, none⟩ = some (.int .i64 (nthS ss k).into) ∧ w'.cell? ⟨b, o + k * 5 + 3, none⟩ = some (.slice A3 (nthS ss k).args.length k3) ∧ w'.cell? ⟨b, o + k * 5 + 4, none⟩ = some (.slice (KA k) (nthS ss k).kids.length (KC k)) ∧ w'.cell? ⟨b', o' + k * 5, none⟩ = some (.int .i64 (nthS ss k).op) ∧ w'.cell? ⟨b', o' + k * 5 + 1, none⟩ = some (.int .i64 (nthS ss k).num) ∧ w'.cell? ⟨b', o' + k * 5 + 2, none⟩ = some (.int .i64 (nthS ss k).into) ∧ w'.cell? ⟨b', o' + k * 5 + 3, none⟩ = some (.slice A4 (nthS ss k).args.length k4) ∧ w'.cell? ⟨b', o' + k * 5 + 4, none⟩ = some (.slice (KA2 k) (nthS ss k).kids.length (KC2 k)))
          (first | go_keep | (exact ⟨(hB1.cell (by simp; assumption)).trans (by simp; assumption), (hB1.cell (by simp; assumption)).trans (by simp; assumption), (hB1.cell (by simp; assumption)).trans (by simp; assumption), (hB1.cell (by simp; assumption)).trans (by simp; assumption), (hB1.cell (by simp; assumption)).trans (by simp; assumption), (hB1.cell (by simp; assumption)).trans (by simp; assumption), (hB1.cell (by simp; assumption)).trans (by simp; assumption), (hB1.cell (by simp; assumption)).trans (by simp; assumption), (hB1.cell (by simp; assumption)).trans (by simp; assumption), (hB1.cell (by simp; assumption)).trans (by simp; assumption)⟩))
          (first | (go_at_call 30; refine CK.out.mono ?_; rintro e w' ⟨rfl, hB1⟩))
        have hB2 := HB.out.trans (((Below.refl _ wr).drew.trans (hB1.mono (by simp))).mono hz)
        clear hB1
        go_wp2_with fail
        go_roundw
        case rel => exact ⟨k + 1, by omega, by go_num, hB2⟩
        case measure => simp [intOf]; omega
      · go_wp2_with fail
        go_ret
        exact ⟨rfl, hB⟩
theorem eqBlock_same {w : World} {L U L' U' : Nat} {u u' : Value} {ss : List St} (h : Sts w L U u ss) (h' : Sts w L' U' u' ss) (res : Int) (hU : U ≤ w.heap.size) (hU' : U' ≤ w.heap.size) :
    Calls Try.prog 10 #[.agg #[u, .int .i64 res], .agg #[u', .int .i64 res]] w fun e w' => e = .returned (.bool true) ∧ Below w.heap.size w w' := by
  obtain ⟨A, c, e, _⟩ := h.open_
  obtain ⟨A', c', e', _⟩ := h'.open_
  exact eqBlock_of res w ⟨A, c, e⟩ ⟨A', c', e'⟩ (fun W hW => eqStepS_same h h' W (Same.of_below hW hU) (Same.of_below hW hU') (by have := hW.size; omega) (by have := hW.size; omega))
end Go.Proofs.Ytdooageiopnhaaa

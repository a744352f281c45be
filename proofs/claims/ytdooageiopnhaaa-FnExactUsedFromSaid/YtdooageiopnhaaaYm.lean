/- Marks on copies of blocks. -/
import Derived.Test.YtdooageiopnhaaaTv
import Derived.Test.YtdooageiopnhaaaY6
namespace Go.Proofs.Ytdooageiopnhaaa
open Go.RowKit Go.BigFrame
/-- The shape of rows of steps and of blocks: what marking keeps. -/
inductive PM (w : World) (L U : Nat) : Value → List St ⊕ List Bl → Prop
  | steps (g : Nat) (a : Array Value) (T : TypeId) (VA VK : Nat → Value) (ss : List St) (h1 : L ≤ g) (h2 : g < U) (h3 : ss.length ≤ maxLen) (h4 : w.heap[g]? = some (.cells a T (0, 0)))
      (n0 : ∀ i j, i < ss.length → j < 3 → ∃ n, a[i * 5 + j]? = some (Value.int .i64 n)) (s3 : ∀ i, i < ss.length → a[i * 5 + 3]? = some (VA i)) (s4 : ∀ i, i < ss.length → a[i * 5 + 4]? = some (VK i))
      (ha : ∀ i, i < ss.length → PI w L U (VA i) (nthS ss i).args.length) (f4 : ∀ i, i < ss.length → ∃ G, VK i = .slice (some ⟨G, 0, none⟩) (nthS ss i).kids.length (nthS ss i).kids.length)
      (h : ∀ i, i < ss.length → PM w L U (VK i) (.inr (nthS ss i).kids)) : PM w L U (.slice (some ⟨g, 0, none⟩) ss.length ss.length) (.inl ss)
  | blocks (g : Nat) (a : Array Value) (T : TypeId) (V : Nat → Value) (bs : List Bl) (h1 : L ≤ g) (h2 : g < U) (h3 : bs.length ≤ maxLen) (h4 : w.heap[g]? = some (.cells a T (0, 0)))
      (n0 : ∀ j, j < bs.length → ∃ n, a[j * 2 + 1]? = some (Value.int .i64 n)) (s1 : ∀ j, j < bs.length → a[j * 2]? = some (V j)) (f1 : ∀ j, j < bs.length → ∃ G, V j = .slice (some ⟨G, 0, none⟩) (nthB bs j).steps.length (nthB bs j).steps.length)
      (h : ∀ j, j < bs.length → PM w L U (V j) (.inl (nthB bs j).steps)) : PM w L U (.slice (some ⟨g, 0, none⟩) bs.length bs.length) (.inr bs)
theorem PM.turn {w w' : World} {L U L' U' : Nat} {v : Value} {x : List St ⊕ List Bl} (h : PM w L U v x) (t : TurnV L' U' w w') : PM w' L U v x := by
  induction h with
  | steps g a T VA VK ss h1 h2 h3 h4 n0 s3 s4 ha f4 _ ih =>
    obtain ⟨a', e, c⟩ := t.row h4
    refine .steps g a' T VA VK ss h1 h2 h3 e (fun i j hi hj => ?_) (fun i hi => ?_) (fun i hi => ?_) (fun i hi => (ha i hi).turn t) f4 ih
    · obtain ⟨n, hn⟩ := n0 i j hi hj
      exact c.2.2 _ _ hn
    · obtain ⟨g', _, _, e', _⟩ := ha i hi
      have := s3 i hi
      rw [e'] at this ⊢
      exact c.2.1 _ _ _ _ this
    · obtain ⟨G, e'⟩ := f4 i hi
      have := s4 i hi
      rw [e'] at this ⊢
      exact c.2.1 _ _ _ _ this
  | blocks g a T V bs h1 h2 h3 h4 n0 s1 f1 _ ih =>
    obtain ⟨a', e, c⟩ := t.row h4
    refine .blocks g a' T V bs h1 h2 h3 e (fun j hj => ?_) (fun j hj => ?_) f1 ih
    · obtain ⟨n, hn⟩ := n0 j hj
      exact c.2.2 _ _ hn
    · obtain ⟨G, e'⟩ := f1 j hj
      have := s1 j hj
      rw [e'] at this ⊢
      exact c.2.1 _ _ _ _ this
theorem OSts.pm {w : World} {L U : Nat} {v : Value} {ss : List St} (h : OSts w L U v ss) : PM w L U v (.inl ss) := by
  induction h with
  | mk v VA VK KV ss b ha hk hh ih =>
    obtain ⟨g, a, rfl, h1, h2, h3, h4, h5⟩ := b
    have cl : ∀ i j, i < ss.length → j < 5 → a[i * 5 + j]? = some (stCell (nthS ss i) (VA i) (VK i) j) := fun i j hi hj => by
      have := cellsOf_at (fun i j => stCell (nthS ss i) (VA i) (VK i) j) hi hj
      rw [← h5] at this
      rw [← Array.getElem?_toList]; exact this
    refine .steps g a _ VA VK ss h1 h2 h3 h4 (fun i j hi hj => ?_) (fun i hi => cl i 3 hi (by omega)) (fun i hi => cl i 4 hi (by omega)) (fun i hi => (ha i hi).pi) (fun i hi => ?_) (fun i hi => ?_)
    · have := cl i j hi (by omega)
      rcases (by omega : j = 0 ∨ j = 1 ∨ j = 2) with rfl | rfl | rfl
      · exact ⟨_, this⟩
      · exact ⟨_, this⟩
      · exact ⟨_, this⟩
    · obtain ⟨G, _, e, _⟩ := hk i hi
      exact ⟨G, e⟩
    · obtain ⟨G, ka, e, k1, k2, k3, k4, k5⟩ := hk i hi
      rw [e]
      have kl : ∀ j x, j < (nthS ss i).kids.length → x < 2 → ka[j * 2 + x]? = some (blCell (nthB (nthS ss i).kids j) (KV i j) x) := fun j x hj hx => by
        have := cellsOf_at (fun j x => blCell (nthB (nthS ss i).kids j) (KV i j) x) hj hx
        rw [← k5] at this
        rw [← Array.getElem?_toList]; exact this
      exact .blocks G ka _ (KV i) _ k1 k2 k3 k4 (fun j hj => ⟨_, kl j 1 hj (by omega)⟩) (fun j hj => kl j 0 hj (by omega)) (fun j hj => (hh i hi j hj).form) (fun j hj => ih i hi j hj)
/-- What marking answers. -/
def MarkC (w0 : World) (L U : Nat) (v : Value) : List St ⊕ List Bl → Prop
  | .inl ss => ∀ (k : Int) (w : World), TurnV L U w0 w → 0 ≤ k → k + 3 * sumS Wz ss ≤ 4611686018427387904 → sumS Wz ss ≤ 1048576 →
      Calls Try.prog 21 #[v, .int .i64 k] w fun e w' => ∃ r : Int, e = .returned (.int .i64 r) ∧ k ≤ r ∧ r ≤ k + 3 * sumS Wz ss ∧ TurnV L U w w'
  | .inr bs => ∀ (k : Int) (w : World), TurnV L U w0 w → 0 ≤ k → k + 3 * sumB Wz bs ≤ 4611686018427387904 → sumB Wz bs ≤ 1048576 →
      Calls Try.prog 31 #[v, .int .i64 k] w fun e w' => ∃ r : Int, e = .returned (.int .i64 r) ∧ k ≤ r ∧ r ≤ k + 3 * sumB Wz bs ∧ TurnV L U w w'
set_option maxHeartbeats 1600000 in
theorem markM_any {w0 : World} {L U : Nat} {v : Value} {x : List St ⊕ List Bl} (h : PM w0 L U v x) : MarkC w0 L U v x := by
  induction h with
  | steps g a T VA VK ss h1 h2 h3 h4 n0 s3 s4 ha f4 hh ih =>
    intro k w T0 k0 k1 hs
    have hlen := sumS_length ss
    have hl1 : ss.length ≤ 1048576 := by omega
    have IH := Lib.hid ih
    have HA := Lib.hid ha
    have HF := Lib.hid f4
    have HC := Lib.hid (And.intro n0 (And.intro s3 s4))
    have HS := Lib.hid hs
    clear ih hh h3 hs hlen n0 s3 s4 ha f4
    go_enter Try.func21, Try.ntmps21
    go_wp2_with fail
    go_loopw [1, 5] (fun q i wr => ∃ (j : Nat) (r : Int), j ≤ ss.length ∧ i = .int .i64 j ∧ q = .int .i64 r ∧ k ≤ r ∧ r ≤ k + 3 * sumS Wz (ss.take j) ∧ TurnV L U w wr) (fun _ i _ => ss.length - (intOf i).toNat)
    case atStart => exact ⟨0, k, by omega, rfl, rfl, by omega, by omega, TurnV.refl _ _ _⟩
    case round =>
      obtain ⟨j, r, hj, rfl, rfl, r0, r1, T1⟩ := hrel
      by_cases hlt : j < ss.length
      · obtain ⟨a', e4, c4⟩ := (T0.trans T1).row h4
        obtain ⟨m0, y0⟩ := HC.out.1 j 0 hlt (by omega)
        obtain ⟨m1, y1⟩ := HC.out.1 j 1 hlt (by omega)
        obtain ⟨m2, y2⟩ := HC.out.1 j 2 hlt (by omega)
        obtain ⟨m0, y0⟩ := c4.2.2 _ _ y0
        obtain ⟨m1, y1⟩ := c4.2.2 _ _ y1
        obtain ⟨m2, y2⟩ := c4.2.2 _ _ y2
        obtain ⟨gA, _, TA, eA, _⟩ := HA.out j hlt
        obtain ⟨gK, eK⟩ := HF.out j hlt
        have y3 := HC.out.2.1 j hlt
        have y4 := HC.out.2.2 j hlt
        have PA := HA.out j hlt
        rw [eA] at y3 PA
        rw [eK] at y4
        have y3 := c4.2.1 _ _ _ _ y3
        have y4 := c4.2.1 _ _ _ _ y4
        rw [Nat.add_zero] at y0
        have q0 : wr.cell? ⟨g, j * 5, none⟩ = some (.int .i64 m0) := by rw [cell_of_row wr g _ a' _ (0, 0) e4]; exact y0
        have q1 : wr.cell? ⟨g, j * 5 + 1, none⟩ = some (.int .i64 m1) := by rw [cell_of_row wr g _ a' _ (0, 0) e4]; exact y1
        have q2 : wr.cell? ⟨g, j * 5 + 2, none⟩ = some (.int .i64 m2) := by rw [cell_of_row wr g _ a' _ (0, 0) e4]; exact y2
        have q3 : wr.cell? ⟨g, j * 5 + 3, none⟩ = some (.slice (some ⟨gA, 0, none⟩) (nthS ss j).args.length (nthS ss j).args.length) := by rw [cell_of_row wr g _ a' _ (0, 0) e4]; exact y3
        have f0 := frozen_of_row wr g (j * 5) a' _ e4
        have f1 := frozen_of_row wr g (j * 5 + 1) a' _ e4
        have f2 := frozen_of_row wr g (j * 5 + 2) a' _ e4
        have A1 : TurnV L U wr (wr.setCell ⟨g, j * 5, none⟩ (.int .i64 r)) := TurnV.set h1 h2 e4 y0
        have e5 := heap_setCell_same wr g (j * 5) a' _ (.int .i64 r) e4
        have A2 : TurnV L U (wr.setCell ⟨g, j * 5, none⟩ (.int .i64 r)) ((wr.setCell ⟨g, j * 5, none⟩ (.int .i64 r)).setCell ⟨g, j * 5 + 1, none⟩ (.int .i64 (r + 1))) := TurnV.set h1 h2 e5 (n := m1) (by rw [Array.getElem?_setIfInBounds_ne (by omega)]; exact y1)
        have e6 := heap_setCell_same _ g (j * 5 + 1) _ _ (.int .i64 (r + 1)) e5
        have A3 : TurnV L U ((wr.setCell ⟨g, j * 5, none⟩ (.int .i64 r)).setCell ⟨g, j * 5 + 1, none⟩ (.int .i64 (r + 1))) (((wr.setCell ⟨g, j * 5, none⟩ (.int .i64 r)).setCell ⟨g, j * 5 + 1, none⟩ (.int .i64 (r + 1))).setCell ⟨g, j * 5 + 2, none⟩ (.int .i64 (r + 1 + 1))) := TurnV.set h1 h2 e6 (n := m2) (by rw [Array.getElem?_setIfInBounds_ne (by omega), Array.getElem?_setIfInBounds_ne (by omega)]; exact y2)
        have TT := T1.trans (A1.trans (A2.trans A3))
        have TW := A1.trans (A2.trans A3)
        have st := sumS_step Wz hlt
        rw [st_sum] at st
        have o1 : Wz.s (nthS ss j).op (nthS ss j).args = 1 + (nthS ss j).args.length := rfl
        have o2 : cond (Wz.k (nthS ss j).op) (sumB Wz (nthS ss j).kids) 0 = sumB Wz (nthS ss j).kids := rfl
        rw [o1, o2] at st
        have tk := sumS_take Wz ss (j + 1)
        have hs := HS.out
        have CA := Lib.hid (markI_any L U _ _ (r + 1 + 1 + 1) _ ((PA.turn T0).turn TT) (by omega) (by omega) (by omega))
        obtain ⟨na, hna⟩ : ∃ na, (nthS ss j).args.length = na := ⟨_, rfl⟩
        obtain ⟨nk, hnk⟩ : ∃ nk, sumB Wz (nthS ss j).kids = nk := ⟨_, rfl⟩
        have CB := Lib.hid fun (W : World) (kk : Int) (hT : TurnV L U w W) (h0 : 0 ≤ kk) (h1 : kk + 3 * (nk : Int) ≤ 4611686018427387904) (h2 : nk ≤ 1048576) => by have := IH.out j hlt kk W (T0.trans hT) h0 (by rw [hnk]; exact h1) (by rw [hnk]; exact h2); rw [eK, hnk] at this; exact this
        have H4 := Lib.hid fun (W : World) (hT : TurnV L U wr W) => (show W.cell? ⟨g, j * 5 + 4, none⟩ = some (.slice (some ⟨gK, 0, none⟩) (nthS ss j).kids.length (nthS ss j).kids.length) by
          obtain ⟨b', eb, cb⟩ := hT.row e4
          rw [cell_of_row W g _ b' _ (0, 0) eb]
          exact cb.2.1 _ _ _ _ y4)
        rw [hna] at CA q3 st
        rw [hnk] at st
        have HT := Lib.hid TT
        have HW := Lib.hid TW
        have r2 : r ≤ 4611686018430000000 := by omega
        have ST : Hid ((nk ≤ 1048576) ∧ na ≤ 1048576 ∧ sumS Wz (ss.take (j + 1)) = sumS Wz (ss.take j) + (1 + na + nk) ∧ sumS Wz (ss.take (j + 1)) ≤ sumS Wz ss) := ⟨by omega, by omega, st, tk⟩
        have R1 := Lib.hid r1
        clear st tk hs o1 o2 A1 A2 A3 TT TW T1 e4 e5 e6 c4 y0 y1 y2 y3 y4 PA hna hnk eA eK r1
        go_wp2_with fail
        refine CA.out.mono ?_
        rintro e w2 ⟨rfl, T2⟩
        have q4 := H4.out w2 (HW.out.trans T2)
        obtain ⟨b1, b2, b3, b4⟩ := ST.out
        have b5 := R1.out
        have CB2 := Lib.hid (CB.out w2 (r + 1 + 1 + 1 + (na : Int)) (HT.out.trans T2) (by omega) (by omega) b1)
        have HT2 := Lib.hid (HT.out.trans T2)
        clear T2 b1 b2 b3 b4 b5 q0 q1 q2 q3 f0 f1 f2
        go_wp2_with fail
        refine CB2.out.mono ?_
        rintro e w3 ⟨r', rfl, s0, s1, T3⟩
        have HT3 := Lib.hid (HT2.out.trans T3)
        have HN : Hid (r' ≤ k + 3 * sumS Wz (ss.take (j + 1)) ∧ k ≤ r') := by
          obtain ⟨b1, b2, b3, b4⟩ := ST.out
          have b5 := R1.out
          exact ⟨by omega, by omega⟩
        clear T3 s0 s1 q4 CB2
        go_wp2_with fail
        go_roundw
        case rel => exact ⟨j + 1, r', by omega, by go_num, rfl, HN.out.2, HN.out.1, HT3.out⟩
        case measure => simp [intOf]; omega
      · rw [sumS_all Wz hlt] at r1
        go_wp2_with fail
        go_ret
        exact ⟨_, rfl, r0, r1, T1⟩
  | blocks g a T V bs h1 h2 h3 h4 n0 s1 f1 hh ih =>
    intro k w T0 k0 k1 hs
    have hlen := sumB_length bs
    have hl1 : bs.length ≤ 1048576 := by omega
    have IH := Lib.hid ih
    have HF := Lib.hid f1
    have HC := Lib.hid (And.intro n0 s1)
    have HS := Lib.hid hs
    clear ih hh h3 hs hlen n0 s1 f1
    go_enter Try.func31, Try.ntmps31
    go_wp2_with fail
    go_loopw [1, 5] (fun q i wr => ∃ (j : Nat) (r : Int), j ≤ bs.length ∧ i = .int .i64 j ∧ q = .int .i64 r ∧ k ≤ r ∧ r ≤ k + 3 * sumB Wz (bs.take j) ∧ TurnV L U w wr) (fun _ i _ => bs.length - (intOf i).toNat)
    case atStart => exact ⟨0, k, by omega, rfl, rfl, by omega, by omega, TurnV.refl _ _ _⟩
    case round =>
      obtain ⟨j, r, hj, rfl, rfl, r0, r1, T1⟩ := hrel
      by_cases hlt : j < bs.length
      · obtain ⟨a', e4, c4⟩ := (T0.trans T1).row h4
        obtain ⟨m1, y1⟩ := HC.out.1 j hlt
        obtain ⟨m1, y1⟩ := c4.2.2 _ _ y1
        obtain ⟨gK, eK⟩ := HF.out j hlt
        have y0 := HC.out.2 j hlt
        rw [eK] at y0
        have y0 := c4.2.1 _ _ _ _ y0
        have q0 : wr.cell? ⟨g, j * 2, none⟩ = some (.slice (some ⟨gK, 0, none⟩) (nthB bs j).steps.length (nthB bs j).steps.length) := by rw [cell_of_row wr g _ a' _ (0, 0) e4]; exact y0
        have st := sumB_step Wz hlt
        rw [bl_sum] at st
        have o1 : Wz.b (nthB bs j).result = 1 := rfl
        rw [o1] at st
        have tk := sumB_take Wz bs (j + 1)
        have hs := HS.out
        have CK := IH.out j hlt r wr (T0.trans T1) (by omega) (by omega) (by omega)
        rw [eK] at CK
        obtain ⟨nk, hnk⟩ : ∃ nk, sumS Wz (nthB bs j).steps = nk := ⟨_, rfl⟩
        rw [hnk] at CK st
        have CK := Lib.hid CK
        have H1 := Lib.hid fun (W : World) (hT : TurnV L U wr W) => (show (∃ m2, W.cell? ⟨g, j * 2 + 1, none⟩ = some (.int .i64 m2)) ∧ W.frozen? ⟨g, j * 2 + 1, none⟩ = false ∧ ∀ m : Int, TurnV L U W (W.setCell ⟨g, j * 2 + 1, none⟩ (.int .i64 m)) by
          obtain ⟨b', eb, cb⟩ := hT.row e4
          obtain ⟨m2, hm⟩ := cb.2.2 _ _ y1
          exact ⟨⟨m2, by rw [cell_of_row W g _ b' _ (0, 0) eb]; exact hm⟩, frozen_of_row W g _ b' _ eb, fun m => TurnV.set h1 h2 eb hm⟩)
        have ST : Hid (nk ≤ 1048576 ∧ sumB Wz (bs.take (j + 1)) = sumB Wz (bs.take j) + (nk + 1) ∧ sumB Wz (bs.take (j + 1)) ≤ sumB Wz bs) := ⟨by omega, st, tk⟩
        have R1 := Lib.hid r1
        have HT := Lib.hid T1
        clear st tk hs o1 T1 e4 c4 y0 y1 hnk eK r1
        go_wp2_with fail
        refine CK.out.mono ?_
        rintro e w2 ⟨r', rfl, s0, s1, T2⟩
        obtain ⟨⟨m2, q1⟩, f1, T3⟩ := H1.out w2 T2
        have T3 := Lib.hid (HT.out.trans (T2.trans (T3 r')))
        have HN : Hid (r' + 1 ≤ k + 3 * sumB Wz (bs.take (j + 1)) ∧ k ≤ r' + 1) := by
          obtain ⟨b1, b2, b3⟩ := ST.out
          have b5 := R1.out
          exact ⟨by omega, by omega⟩
        have rb : r' ≤ 4611686018430000000 := by
          obtain ⟨b1, b2, b3⟩ := ST.out
          have b5 := R1.out
          omega
        have rb2 : 0 ≤ r' := by omega
        clear T2 s0 s1 q0 CK
        go_wp2_with fail
        go_roundw
        case rel => exact ⟨j + 1, r' + 1, by omega, by go_num, by go_num, HN.out.2, HN.out.1, T3.out⟩
        case measure => simp [intOf]; omega
      · rw [sumB_all Wz hlt] at r1
        go_wp2_with fail
        go_ret
        exact ⟨_, rfl, r0, r1, T1⟩
theorem markBlock_any {w : World} {L U : Nat} {v : Value} {ss : List St} (h : OSts w L U v ss) (n : Int) (hU : U ≤ w.heap.size) (hs : sumS Wz ss ≤ 1048576) :
    Calls Try.prog 11 #[.agg #[v, .int .i64 n], .int .i64 1] w fun e w' => ∃ r : Int, e = .returned (.int .i64 r) ∧ 0 ≤ r ∧ Within L U (w.alloc (.cells #[v, .int .i64 n] 30)) w' := by
  obtain ⟨W0, hW0⟩ : ∃ W0, W0 = w.alloc (.cells #[v, .int .i64 n] 30) := ⟨_, rfl⟩
  have hB0 : Below w.heap.size w W0 := by rw [hW0]; exact (Below.refl _ w).alloc (Nat.le_refl _) _
  have HC := Lib.hid (show MarkC W0 L U v (.inl ss) from markM_any (h.keep (Same.of_below hB0 hU)).pm)
  have HC := Lib.hid (HC.out 1 W0 (TurnV.refl _ _ _) (by omega) (by omega) hs)
  obtain ⟨g, rfl⟩ := h.form
  rw [← hW0]
  clear h
  go_enter Try.func11, Try.ntmps11
  go_wp2_with fail
  rw [← hW0]
  clear hW0
  refine HC.out.mono ?_
  rintro e w2 ⟨r, rfl, r0, _, T⟩
  go_wp2_with fail
  go_ret
  exact ⟨_, rfl, by omega, T.within⟩
end Go.Proofs.Ytdooageiopnhaaa

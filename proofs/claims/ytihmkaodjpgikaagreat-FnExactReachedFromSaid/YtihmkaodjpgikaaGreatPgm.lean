/- Marks on copies of programs. -/
import Derived.Test.YtihmkaodjpgikaaGreatGa
import Derived.Test.YtihmkaodjpgikaaGreatGe
namespace Go.Proofs.YtihmkaodjpgikaaGreat
open Go.RowKit Go.BigFrame
/-- The shape of a row of k cells each, some of them slices: what marking keeps. -/
structure PR (w : World) (L U g k n : Nat) (T : TypeId) (a : Array Value) (I : Nat → Bool) (V : Nat → Nat → Value) : Prop where
  lo : L ≤ g
  hi : g < U
  len : n ≤ maxLen
  row : w.heap[g]? = some (.cells a T (0, 0))
  int : ∀ i j, i < n → j < k → I j = true → ∃ m, a[i * k + j]? = some (Value.int .i64 m)
  sl : ∀ i j, i < n → j < k → I j = false → a[i * k + j]? = some (V i j) ∧ ∃ s m c, V i j = .slice s m c
theorem PR.turn {w w' : World} {L U g k n L' U' : Nat} {T : TypeId} {a : Array Value} {I : Nat → Bool} {V : Nat → Nat → Value} (h : PR w L U g k n T a I V) (t : TurnV L' U' w w') : ∃ a', PR w' L U g k n T a' I V := by
  obtain ⟨a', e, c⟩ := t.row h.row
  refine ⟨a', h.lo, h.hi, h.len, e, fun i j hi hj hI => ?_, fun i j hi hj hI => ?_⟩
  · obtain ⟨m, hm⟩ := h.int i j hi hj hI
    exact c.2.2 _ _ hm
  · obtain ⟨h1, s, m, c', h2⟩ := h.sl i j hi hj hI
    refine ⟨?_, s, m, c', h2⟩
    rw [h2] at h1 ⊢
    exact c.2.1 _ _ _ _ h1
theorem PR.cell {w : World} {L U g k n : Nat} {T : TypeId} {a : Array Value} {I : Nat → Bool} {V : Nat → Nat → Value} (h : PR w L U g k n T a I V) {i j : Nat} (hi : i < n) (hj : j < k) (hI : I j = true) :
    (∃ m, w.cell? ⟨g, i * k + j, none⟩ = some (.int .i64 m)) ∧ w.frozen? ⟨g, i * k + j, none⟩ = false ∧ ∀ m : Int, TurnV L U w (w.setCell ⟨g, i * k + j, none⟩ (.int .i64 m)) := by
  obtain ⟨m, hm⟩ := h.int i j hi hj hI
  exact ⟨⟨m, by rw [cell_of_row w g _ a _ (0, 0) h.row]; exact hm⟩, frozen_of_row w g _ a _ h.row, fun m => TurnV.set h.lo h.hi h.row hm⟩
theorem PR.slice {w : World} {L U g k n : Nat} {T : TypeId} {a : Array Value} {I : Nat → Bool} {V : Nat → Nat → Value} (h : PR w L U g k n T a I V) {i j : Nat} (hi : i < n) (hj : j < k) (hI : I j = false) : w.cell? ⟨g, i * k + j, none⟩ = some (V i j) := by
  rw [cell_of_row w g _ a _ (0, 0) h.row]; exact (h.sl i j hi hj hI).1
theorem cell_of_blk {a : Array Value} {k n : Nat} {V : Nat → Nat → Value} (h : a.toList = cellsOf k n V) {i j : Nat} (hi : i < n) (hj : j < k) : a[i * k + j]? = some (V i j) := by
  have := cellsOf_at V hi hj
  rw [← h] at this
  rw [← Array.getElem?_toList]; exact this
/-- Constructors. -/
def PC (w : World) (L U : Nat) (v : Value) (n : Nat) : Prop := ∃ (g : Nat) (a : Array Value) (T : TypeId) (V : Nat → Nat → Value) (m : Nat → Nat), v = .slice (some ⟨g, 0, none⟩) n n ∧ PR w L U g 1 n T a (fun _ => false) V ∧ ∀ i, i < n → m i ≤ 1048576 ∧ PI w L U (V i 0) (m i)
theorem PC.turn {w w' : World} {L U L' U' n : Nat} {v : Value} (h : PC w L U v n) (t : TurnV L' U' w w') : PC w' L U v n := by
  obtain ⟨g, a, T, V, m, e, r, hi⟩ := h
  obtain ⟨a', r'⟩ := r.turn t
  exact ⟨g, a', T, V, m, e, r', fun i h => ⟨(hi i h).1, (hi i h).2.turn t⟩⟩
theorem OCons.pc {w : World} {L U : Nat} {v : Value} {cs : List (List Int)} (h : OCons w L U v cs) (hs : SmallC cs) : PC w L U v cs.length := by
  obtain ⟨V, ⟨g, a, rfl, h1, h2, h3, h4, h5⟩, hc⟩ := h
  refine ⟨g, a, _, fun i _ => V i, fun i => (nthL cs i).length, rfl, ⟨h1, h2, h3, h4, (fun _ _ _ _ h => by cases h), fun i j hi hj _ => ⟨cell_of_blk h5 hi hj, ?_⟩⟩, fun i hi => ⟨hs.2 i hi, (hc i hi).pi⟩⟩
  obtain ⟨g', _, e, _⟩ := hc i hi
  exact ⟨_, _, _, e⟩
set_option maxHeartbeats 800000 in
theorem markConV (L U n : Nat) (v : Value) (k : Int) (w : World) (hv : PC w L U v n) (h0 : 0 ≤ k) (h1 : k ≤ 2305843009213693952) (hn : n ≤ 1048576) :
    Calls Tryz.prog 42 #[v, .int .i64 k] w fun e w' => ∃ r : Int, e = .returned (.int .i64 r) ∧ k ≤ r ∧ r ≤ k + (n : Int) * 1048576 ∧ TurnV L U w w' := by
  obtain ⟨g, a, T, V, m, rfl, r, hc⟩ := hv
  have HR := Lib.hid r
  have HC := Lib.hid hc
  clear r hc
  go_enter Tryz.func42, Tryz.ntmps42
  go_wp2_with fail
  go_loopw [1, 5] (fun q i wr => ∃ (j : Nat) (r : Int), j ≤ n ∧ i = .int .i64 j ∧ q = .int .i64 r ∧ k ≤ r ∧ r ≤ k + (j : Int) * 1048576 ∧ TurnV L U w wr) (fun _ i _ => n - (intOf i).toNat)
  case atStart => exact ⟨0, k, by omega, rfl, rfl, by omega, by omega, TurnV.refl _ _ _⟩
  case round =>
    obtain ⟨j, r, hj, rfl, rfl, r0, r1, T1⟩ := hrel
    by_cases hlt : j < n
    · obtain ⟨a', R1⟩ := HR.out.turn T1
      have q0 := R1.slice hlt (j := 0) (by omega) rfl
      rw [Nat.mul_one, Nat.add_zero] at q0
      obtain ⟨mj, hmj⟩ : ∃ mj, m j = mj := ⟨_, rfl⟩
      obtain ⟨c1, c2⟩ := HC.out j hlt
      rw [hmj] at c1 c2
      have CK := markI_any L U mj (V j 0) r wr (c2.turn T1) (by omega) (by omega) c1
      obtain ⟨gj, _, _, e, _⟩ := c2
      rw [e] at q0 CK
      have CK := Lib.hid CK
      have HT := Lib.hid T1
      clear R1 hmj e T1
      go_wp2_with fail
      refine CK.out.mono ?_
      rintro e w2 ⟨rfl, T2⟩
      have HT2 := Lib.hid (HT.out.trans T2)
      clear T2 q0 CK
      go_wp2_with fail
      go_roundw
      case rel => exact ⟨j + 1, r + (mj : Int), by omega, by go_num, rfl, by omega, by omega, HT2.out⟩
      case measure => simp [intOf]; omega
    · go_wp2_with fail
      go_ret
      obtain rfl : j = n := by omega
      exact ⟨_, rfl, r0, r1, T1⟩
/-- Declarations. -/
def i3 (j : Nat) : Bool := decide (j < 2)
def PD (w : World) (L U : Nat) (v : Value) (n : Nat) : Prop := ∃ (g : Nat) (a : Array Value) (T : TypeId) (V : Nat → Nat → Value) (m : Nat → Nat), v = .slice (some ⟨g, 0, none⟩) n n ∧ PR w L U g 3 n T a i3 V ∧ ∀ i, i < n → m i ≤ 1048576 ∧ PC w L U (V i 2) (m i)
theorem PD.turn {w w' : World} {L U L' U' n : Nat} {v : Value} (h : PD w L U v n) (t : TurnV L' U' w w') : PD w' L U v n := by
  obtain ⟨g, a, T, V, m, e, r, hi⟩ := h
  obtain ⟨a', r'⟩ := r.turn t
  exact ⟨g, a', T, V, m, e, r', fun i h => ⟨(hi i h).1, (hi i h).2.turn t⟩⟩
theorem ODecs.pd {w : World} {L U : Nat} {v : Value} {ds : List Dec} (h : ODecs w L U v ds) (hs : SmallD ds) : PD w L U v ds.length := by
  obtain ⟨V, ⟨g, a, rfl, h1, h2, h3, h4, h5⟩, hc⟩ := h
  refine ⟨g, a, _, fun i _ => V i, fun i => (nthD ds i).cons.length, rfl, ⟨h1, h2, h3, h4, fun i j hi hj hI => ?_, fun i j hi hj hI => ?_⟩, fun i hi => ⟨(hs.2 i hi).1, (hc i hi).pc (hs.2 i hi)⟩⟩
  · have := cell_of_blk h5 hi hj
    simp only [i3, decide_eq_true_eq] at hI
    rcases (by omega : j = 0 ∨ j = 1) with rfl | rfl
    · exact ⟨_, this⟩
    · exact ⟨_, this⟩
  · have := cell_of_blk h5 hi hj
    simp only [i3, decide_eq_false_iff_not] at hI
    obtain rfl : j = 2 := by omega
    obtain ⟨V', ⟨g', _, e, _⟩, _⟩ := hc i hi
    exact ⟨this, _, _, _, e⟩
set_option maxHeartbeats 800000 in
theorem markDeclV (L U n : Nat) (v : Value) (w : World) (hv : PD w L U v n) (hn : n ≤ 1048576) :
    Calls Tryz.prog 25 #[v, .int .i64 1] w fun e w' => ∃ r : Int, e = .returned (.int .i64 r) ∧ 1 ≤ r ∧ r ≤ 1152921504608944129 ∧ TurnV L U w w' := by
  obtain ⟨g, a, T, V, m, rfl, r, hc⟩ := hv
  have HR := Lib.hid r
  have HC := Lib.hid hc
  clear r hc
  go_enter Tryz.func25, Tryz.ntmps25
  go_wp2_with fail
  go_loopw [1, 5] (fun q i wr => ∃ (j : Nat) (r : Int), j ≤ n ∧ i = .int .i64 j ∧ q = .int .i64 r ∧ 1 ≤ r ∧ r ≤ 1 + (j : Int) * 1099511627778 ∧ TurnV L U w wr) (fun _ i _ => n - (intOf i).toNat)
  case atStart => exact ⟨0, 1, by omega, rfl, rfl, by omega, by omega, TurnV.refl _ _ _⟩
  case round =>
    obtain ⟨j, r, hj, rfl, rfl, r0, r1, T1⟩ := hrel
    by_cases hlt : j < n
    · obtain ⟨a', R1⟩ := HR.out.turn T1
      obtain ⟨⟨m0, q0⟩, f0, t0⟩ := R1.cell hlt (j := 0) (by omega) rfl
      have T2 := t0 r
      obtain ⟨a2, R2⟩ := R1.turn T2
      obtain ⟨⟨m1, q1⟩, f1, t1⟩ := R2.cell hlt (j := 1) (by omega) rfl
      have T3 := t1 (r + 1)
      obtain ⟨a3, R3⟩ := R2.turn T3
      have q2 := R3.slice hlt (j := 2) (by omega) rfl
      obtain ⟨mj, hmj⟩ : ∃ mj, m j = mj := ⟨_, rfl⟩
      obtain ⟨c1, c2⟩ := HC.out j hlt
      rw [hmj] at c1 c2
      have TT := T1.trans (T2.trans T3)
      rw [Nat.add_zero] at q0 f0 q1 f1 q2 TT
      have CK := markConV L U mj (V j 2) (r + 1 + 1) _ (c2.turn TT) (by omega) (by omega) c1
      obtain ⟨gj, _, _, _, _, e, _⟩ := c2
      rw [e] at q2 CK
      have CK := Lib.hid CK
      have HT := Lib.hid TT
      have rb : r ≤ 2305843009213693952 := by omega
      clear R1 R2 R3 hmj e T1 T2 T3 TT t0 t1
      go_wp2_with fail
      refine CK.out.mono ?_
      rintro e w2 ⟨r', rfl, s0, s1, T4⟩
      have HT2 := Lib.hid (HT.out.trans T4)
      clear T4 q0 q1 q2 f0 f1 CK
      go_wp2_with fail
      go_roundw
      case rel => exact ⟨j + 1, r', by omega, by go_num, rfl, by omega, by omega, HT2.out⟩
      case measure => simp [intOf]; omega
    · go_wp2_with fail
      go_ret
      obtain rfl : j = n := by omega
      exact ⟨_, rfl, r0, by omega, T1⟩
/-- Expressions. -/
inductive PE (w : World) (L U : Nat) : Value → List Ex → Prop
  | mk (g : Nat) (a : Array Value) (T : TypeId) (V : Nat → Nat → Value) (es : List Ex) (r : PR w L U g 3 es.length T a i3 V) (f : ∀ i, i < es.length → ∃ G, V i 2 = .slice (some ⟨G, 0, none⟩) (nthX es i).kids.length (nthX es i).kids.length)
      (h : ∀ i, i < es.length → PE w L U (V i 2) (nthX es i).kids) : PE w L U (.slice (some ⟨g, 0, none⟩) es.length es.length) es
theorem PE.turn {w w' : World} {L U L' U' : Nat} {v : Value} {es : List Ex} (h : PE w L U v es) (t : TurnV L' U' w w') : PE w' L U v es := by
  induction h with
  | mk g a T V es r f _ ih =>
    obtain ⟨a', r'⟩ := r.turn t
    exact .mk g a' T V es r' f ih
theorem PE.form {w : World} {L U : Nat} {v : Value} {es : List Ex} (h : PE w L U v es) : ∃ g, v = .slice (some ⟨g, 0, none⟩) es.length es.length := by
  cases h with
  | mk g _ _ _ _ _ _ _ => exact ⟨g, rfl⟩
theorem OExs.pe {w : World} {L U : Nat} {v : Value} {es : List Ex} (h : OExs w L U v es) : PE w L U v es := by
  induction h with
  | mk v V es b hh ih =>
    obtain ⟨g, a, rfl, h1, h2, h3, h4, h5⟩ := b
    refine .mk g a _ (fun i _ => V i) es ⟨h1, h2, h3, h4, fun i j hi hj hI => ?_, fun i j hi hj hI => ?_⟩ (fun i hi => (ih i hi).form) ih
    · have := cell_of_blk h5 hi hj
      simp only [i3, decide_eq_true_eq] at hI
      rcases (by omega : j = 0 ∨ j = 1) with rfl | rfl
      · exact ⟨_, this⟩
      · exact ⟨_, this⟩
    · have := cell_of_blk h5 hi hj
      simp only [i3, decide_eq_false_iff_not] at hI
      obtain rfl : j = 2 := by omega
      obtain ⟨g', e⟩ := (ih i hi).form
      exact ⟨this, _, _, _, e⟩
set_option maxHeartbeats 800000 in
theorem markExprV {w0 : World} {L U : Nat} {v : Value} {es : List Ex} (h : PE w0 L U v es) : ∀ (k : Int) (w : World), TurnV L U w0 w → 0 ≤ k → k + 2 * sumL one_ es ≤ 4611686018427387904 → sumL one_ es ≤ 1048576 →
    Calls Tryz.prog 43 #[v, .int .i64 k] w fun e w' => ∃ r : Int, e = .returned (.int .i64 r) ∧ k ≤ r ∧ r ≤ k + 2 * sumL one_ es ∧ TurnV L U w w' := by
  induction h with
  | mk g a T V es r f hk ih =>
    intro k w T0 k0 k1 hs
    have hlen := sumL_length es
    have hl1 : es.length ≤ 1048576 := by omega
    have IH := Lib.hid ih
    have HR := Lib.hid r
    have HF := Lib.hid f
    have HS := Lib.hid hs
    clear ih hk r f hs hlen
    go_enter Tryz.func43, Tryz.ntmps43
    go_wp2_with fail
    go_loopw [1, 5] (fun q i wr => ∃ (j : Nat) (r : Int), j ≤ es.length ∧ i = .int .i64 j ∧ q = .int .i64 r ∧ k ≤ r ∧ r ≤ k + 2 * sumL one_ (es.take j) ∧ TurnV L U w wr) (fun _ i _ => es.length - (intOf i).toNat)
    case atStart => exact ⟨0, k, by omega, rfl, rfl, by omega, by omega, TurnV.refl _ _ _⟩
    case round =>
      obtain ⟨j, r, hj, rfl, rfl, r0, r1, T1⟩ := hrel
      by_cases hlt : j < es.length
      · obtain ⟨a', R1⟩ := HR.out.turn (T0.trans T1)
        obtain ⟨⟨m0, q0⟩, f0, t0⟩ := R1.cell hlt (j := 0) (by omega) rfl
        have T2 := t0 r
        obtain ⟨a2, R2⟩ := R1.turn T2
        obtain ⟨⟨m1, q1⟩, f1, t1⟩ := R2.cell hlt (j := 1) (by omega) rfl
        have T3 := t1 (r + 1)
        obtain ⟨a3, R3⟩ := R2.turn T3
        have q2 := R3.slice hlt (j := 2) (by omega) rfl
        have TT := T1.trans (T2.trans T3)
        rw [Nat.add_zero] at q0 f0 q1 f1 q2 TT
        have st := sumL_step one_ hlt
        rw [sum_eq] at st
        have o1 : one_ (nthX es j).op (nthX es j).num = 1 := rfl
        have tk := sumL_take one_ es (j + 1)
        have ss := HS.out
        have CK := IH.out j hlt (r + 1 + 1) _ (T0.trans TT) (by omega) (by omega) (by omega)
        obtain ⟨gk, e⟩ := HF.out j hlt
        rw [e] at q2 CK
        obtain ⟨t, ht⟩ : ∃ t, sumL one_ (nthX es j).kids = t := ⟨_, rfl⟩
        rw [ht] at st CK
        have CK := Lib.hid CK
        have HT := Lib.hid TT
        have ST := Lib.hid (And.intro st (And.intro o1 r1))
        have rb : r ≤ 4611686018430000000 := by omega
        clear st o1 tk ss ht T1 T2 T3 TT R1 R2 R3 t0 t1 e r1
        go_wp2_with fail
        refine CK.out.mono ?_
        rintro e w2 ⟨r', rfl, s0, s1, T4⟩
        have HT2 := Lib.hid (HT.out.trans T4)
        have HN : Hid (r' ≤ k + 2 * sumL one_ (es.take (j + 1))) := by
          show _ ≤ _
          obtain ⟨s2, s3, s4⟩ := ST.out
          omega
        clear T4 q0 q1 q2 f0 f1 CK s1
        go_wp2_with fail
        go_roundw
        case rel => exact ⟨j + 1, r', by omega, by go_num, rfl, by omega, HN.out, HT2.out⟩
        case measure => simp [intOf]; omega
      · rw [sumL_all one_ hlt] at r1
        go_wp2_with fail
        go_ret
        exact ⟨_, rfl, r0, r1, T1⟩
/-- Functions. -/
def i5 (j : Nat) : Bool := decide (1 ≤ j) && decide (j ≤ 3)
def PF (w : World) (L U : Nat) (v : Value) (fs : List Fn) : Prop := ∃ (g : Nat) (a : Array Value) (T : TypeId) (V : Nat → Nat → Value), v = .slice (some ⟨g, 0, none⟩) fs.length fs.length ∧ PR w L U g 5 fs.length T a i5 V ∧
  ∀ i, i < fs.length → PI w L U (V i 0) (nthF fs i).params.length ∧ PE w L U (V i 4) (nthF fs i).body.kids
theorem PF.turn {w w' : World} {L U L' U' : Nat} {v : Value} {fs : List Fn} (h : PF w L U v fs) (t : TurnV L' U' w w') : PF w' L U v fs := by
  obtain ⟨g, a, T, V, e, r, hi⟩ := h
  obtain ⟨a', r'⟩ := r.turn t
  exact ⟨g, a', T, V, e, r', fun i h => ⟨(hi i h).1.turn t, (hi i h).2.turn t⟩⟩
theorem OFns.pf {w : World} {L U : Nat} {v : Value} {fs : List Fn} (h : OFns w L U v fs) : PF w L U v fs := by
  obtain ⟨P, K, ⟨g, a, rfl, h1, h2, h3, h4, h5⟩, hp, hk⟩ := h
  refine ⟨g, a, _, fun i j => if j = 0 then P i else K i, rfl, ⟨h1, h2, h3, h4, fun i j hi hj hI => ?_, fun i j hi hj hI => ?_⟩, fun i hi => ⟨(hp i hi).pi, (hk i hi).pe⟩⟩
  · have := cell_of_blk h5 hi hj
    simp only [i5, Bool.and_eq_true, decide_eq_true_eq] at hI
    rcases (by omega : j = 1 ∨ j = 2 ∨ j = 3) with rfl | rfl | rfl
    · exact ⟨_, this⟩
    · exact ⟨_, this⟩
    · exact ⟨_, this⟩
  · have := cell_of_blk h5 hi hj
    have hI : j = 0 ∨ j = 4 := by
      simp only [i5, Bool.and_eq_false_iff, decide_eq_false_iff_not] at hI
      omega
    rcases hI with rfl | rfl
    · obtain ⟨g', _, e, _⟩ := hp i hi
      exact ⟨this, _, _, _, e⟩
    · obtain ⟨g', e⟩ := (hk i hi).form
      exact ⟨this, _, _, _, e⟩
set_option maxHeartbeats 1600000 in
theorem markFuncV (L U : Nat) (fs : List Fn) (v : Value) (k : Int) (w : World) (hv : PF w L U v fs) (h0 : 0 ≤ k) (h1 : k ≤ 1152921504608944129) (hs : SmallFs fs) :
    Calls Tryz.prog 26 #[v, .int .i64 k] w fun e w' => ∃ r : Int, e = .returned (.int .i64 r) ∧ k ≤ r ∧ TurnV L U w w' := by
  obtain ⟨g, a, T, V, rfl, r, hc⟩ := hv
  have hn := hs.1
  have HS := Lib.hid hs.2
  have HR := Lib.hid r
  have HC := Lib.hid hc
  clear r hc hs
  go_enter Tryz.func26, Tryz.ntmps26
  go_wp2_with fail
  go_loopw [1, 5] (fun q i wr => ∃ (j : Nat) (r : Int), j ≤ fs.length ∧ i = .int .i64 j ∧ q = .int .i64 r ∧ k ≤ r ∧ r ≤ k + (j : Int) * 3145731 ∧ TurnV L U w wr) (fun _ i _ => fs.length - (intOf i).toNat)
  case atStart => exact ⟨0, k, by omega, rfl, rfl, by omega, by omega, TurnV.refl _ _ _⟩
  case round =>
    obtain ⟨j, r, hj, rfl, rfl, r0, r1, T1⟩ := hrel
    by_cases hlt : j < fs.length
    · obtain ⟨a', R1⟩ := HR.out.turn T1
      have q0 := R1.slice hlt (j := 0) (by omega) rfl
      obtain ⟨c1, c2⟩ := HC.out j hlt
      obtain ⟨s1, s2⟩ := HS.out j hlt
      have c1 := c1.turn T1
      have c2 := c2.turn T1
      obtain ⟨np, hnp⟩ : ∃ np, (nthF fs j).params.length = np := ⟨_, rfl⟩
      obtain ⟨nk, hnk⟩ : ∃ nk, sumL one_ (nthF fs j).body.kids = nk := ⟨_, rfl⟩
      rw [hnp] at c1 s1
      have CA := markI_any L U np (V j 0) r wr c1 (by omega) (by omega) s1
      obtain ⟨gp, _, _, ep, _⟩ := c1
      obtain ⟨gk, ek⟩ := c2.form
      rw [ep] at q0 CA
      have CA := Lib.hid CA
      have H2 := Lib.hid c2
      have HR1 := Lib.hid R1
      have HT := Lib.hid T1
      have EK := Lib.hid ek
      have NK := Lib.hid hnk
      rw [hnk] at s2
      rw [Nat.add_zero] at q0
      have rb : r ≤ 2305843009213693952 := by omega
      clear R1 T1 c2 ep ek hnk hnp
      go_wp2_with fail
      refine CA.out.mono ?_
      rintro e w2 ⟨rfl, T2⟩
      obtain ⟨a2, R2⟩ := HR1.out.turn T2
      obtain ⟨⟨m1, q1⟩, f1, t1⟩ := R2.cell hlt (j := 1) (by omega) rfl
      have T3 := t1 (r + (np : Int))
      obtain ⟨a3, R3⟩ := R2.turn T3
      obtain ⟨⟨m2, q2⟩, f2, t2⟩ := R3.cell hlt (j := 2) (by omega) rfl
      have T4 := t2 (r + (np : Int) + 1)
      obtain ⟨a4, R4⟩ := R3.turn T4
      obtain ⟨⟨m3, q3⟩, f3, t3⟩ := R4.cell hlt (j := 3) (by omega) rfl
      have T5 := t3 (r + (np : Int) + 1 + 1)
      obtain ⟨a5, R5⟩ := R4.turn T5
      have q4 := R5.slice hlt (j := 4) (by omega) rfl
      rw [EK.out] at q4
      have TT := T2.trans (T3.trans (T4.trans T5))
      have CB := markExprV (H2.out.turn TT) (r + (np : Int) + 1 + 1 + 1) _ (TurnV.refl _ _ _) (by omega) (by rw [NK.out]; omega) (by rw [NK.out]; exact s2)
      rw [EK.out, NK.out] at CB
      have CB := Lib.hid CB
      have HT2 := Lib.hid (HT.out.trans TT)
      clear R2 R3 R4 R5 T2 T3 T4 T5 TT t1 t2 t3 q0
      go_wp2_with fail
      refine CB.out.mono ?_
      rintro e w3 ⟨r', rfl, u0, u1, T6⟩
      have HT3 := Lib.hid (HT2.out.trans T6)
      clear T6 q1 q2 q3 q4 f1 f2 f3 CB
      go_wp2_with fail
      go_roundw
      case rel => exact ⟨j + 1, r', by omega, by go_num, rfl, by omega, by omega, HT3.out⟩
      case measure => simp [intOf]; omega
    · go_wp2_with fail
      go_ret
      exact ⟨_, rfl, r0, T1⟩
set_option maxHeartbeats 400000 in
theorem markProgram_any {w : World} {L U : Nat} {v : Value} {p : Pg} (h : OPg w L U v p) (hU : U ≤ w.heap.size) (hs : SmallP p) :
    Calls Tryz.prog 10 #[v, .int .i64 1] w fun e w' => ∃ r : Int, e = .returned (.int .i64 r) ∧ 0 ≤ r ∧ Within L U (w.alloc (.cells v.cells 32)) w' := by
  obtain ⟨d, f, rfl, hd, hf⟩ := h
  obtain ⟨W0, hW0⟩ : ∃ W0, W0 = w.alloc (.cells #[d, f] 32) := ⟨_, rfl⟩
  have hB0 : Below w.heap.size w W0 := by rw [hW0]; exact (Below.refl _ w).alloc (Nat.le_refl _) _
  have hbox : W0.heap[w.heap.size]? = some (.cells #[d, f] 32 (0, 0)) := by rw [hW0]; exact alloc_last _ _ _ rfl
  have hd0 := hd.keep (Same.of_below hB0 hU)
  have hf0 := hf.keep (Same.of_below hB0 hU)
  have HC := Lib.hid (markDeclV L U _ _ W0 (hd0.pd hs.1) hs.1.1)
  have HF := Lib.hid hf0.pf
  have HS := Lib.hid hs.2
  obtain ⟨gd, rfl⟩ := hd.form
  obtain ⟨gf, rfl⟩ := hf.form
  have HX := Lib.hid hbox
  show Calls _ _ _ _ fun e w' => ∃ r : Int, e = .returned (.int .i64 r) ∧ 0 ≤ r ∧ Within L U (w.alloc (.cells #[.slice (some ⟨gd, 0, none⟩) p.decls.length p.decls.length, .slice (some ⟨gf, 0, none⟩) p.funcs.length p.funcs.length] 32)) w'
  rw [← hW0]
  clear hd hf hd0 hf0 hbox hs
  go_enter Tryz.func10, Tryz.ntmps10
  go_wp2_with fail
  rw [← hW0]
  clear hW0
  refine HC.out.mono ?_
  rintro e w2 ⟨r, rfl, r0, r1, T⟩
  have q1 := (cells2 (show w2.heap[w.heap.size]? = _ from by
    rcases T.block w.heap.size with e | ⟨_, l2, _⟩
    · exact e.trans HX.out
    · omega)).2
  have CF := Lib.hid (markFuncV L U _ _ r w2 (HF.out.turn T) (by omega) (by omega) HS.out)
  have HT := Lib.hid T
  clear T
  go_wp2_with fail
  refine CF.out.mono ?_
  rintro e w3 ⟨r', rfl, s0, T3⟩
  have HT3 := Lib.hid (HT.out.trans T3)
  clear T3 q1
  go_wp2_with fail
  go_ret
  exact ⟨_, rfl, by omega, HT3.out.within⟩
end Go.Proofs.YtihmkaodjpgikaaGreat

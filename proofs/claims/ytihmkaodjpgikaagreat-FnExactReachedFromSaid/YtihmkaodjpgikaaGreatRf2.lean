/- Contracts of chapter 2: the functions that are reached from one. -/
import Derived.Test.YtihmkaodjpgikaaGreatPc1
import Derived.Test.YtihmkaodjpgikaaGreatRf1
namespace Go.Proofs.YtihmkaodjpgikaaGreat
open Go.RowKit Go.BigFrame
theorem asc_in_len {xs : List Int} {m : Nat} (ha : Asc xs) (hi : InF m xs) : xs.length ≤ m := by
  have up : ∀ i, i < xs.length → (i : Int) ≤ nth xs i := by
    intro i
    induction i with
    | zero => intro h; rw [nth_of h]; exact (hi _ (List.getElem_mem h)).1
    | succ i ih =>
      intro h
      have h1 := ih (by omega)
      have h2 := ha i (i + 1) (by omega) h
      omega
  rcases hl : xs.length with _ | n
  · omega
  · have h1 := up n (by omega)
    rw [nth_of (by omega)] at h1
    have h2 := (hi _ (List.getElem_mem (by omega : n < xs.length))).2
    omega
def bodyOf (p : Pg) (k : Nat) : Ex := (nthF p.funcs k).body
/-- The functions that are reached from one. -/
def rcV (p : Pg) (f : Int) : List Int := if progOk p = true ∧ hasF p f = true then rchJ (bodyOf p) f p.funcs.length else []
theorem rcV_no {p : Pg} {f : Int} (h : progOk p = false ∨ hasF p f = false) : rcV p f = [] := by
  unfold rcV
  rw [if_neg]
  rintro ⟨h1, h2⟩
  rcases h with h | h
  · rw [h] at h1; cases h1
  · rw [h] at h2; cases h2
theorem rcV_yes {p : Pg} {k : Nat} (h1 : progOk p = true) (h2 : hasF p (k : Int) = true) : rcV p (k : Int) = rchJ (bodyOf p) (k : Int) p.funcs.length := by
  unfold rcV; rw [if_pos ⟨h1, h2⟩]
theorem rcV_len (p : Pg) (f : Int) : (rcV p f).length ≤ 1048576 := by
  rcases hs : progOk p with _ | _
  · rw [rcV_no (.inl hs)]; simp
  · rcases hb : hasF p f with _ | _
    · rw [rcV_no (.inr hb)]; simp
    · obtain ⟨k, rfl, hk⟩ : ∃ k : Nat, f = (k : Int) ∧ k < p.funcs.length := by
        unfold hasF at hb
        obtain ⟨h1, h2⟩ := Bool.and_eq_true_iff.1 hb
        have h1 := of_decide_eq_true h1
        have h2 := of_decide_eq_true h2
        exact ⟨f.toNat, by omega, by omega⟩
      rw [rcV_yes hs hb]
      have := asc_in_len (rchJ_asc (bodyOf p) (k : Int) p.funcs.length) (rchJ_in (prog_in hs) (by omega) (by omega) p.funcs.length)
      have := (sigs_len (prog_sigs hs)).2
      omega
/-- What the rounds ask of a program. -/
structure RcOk (p : Pg) : Prop where
  four : p.funcs.length ≤ 4
  small : ∀ k, k < p.funcs.length → 1 + sumL one_ (nthF p.funcs k).body.kids ≤ 30
  named : ∀ k, k < p.funcs.length → InF p.funcs.length ((bodyOf p k).nam [])
theorem RcOk.of {p : Pg} (h : progOk p = true) : RcOk p := ⟨(sigs_len (prog_sigs h)).2, fun _ hk => body_small h hk, prog_in h⟩
theorem wcJ_take {p : Pg} (hp : RcOk p) {xs : List Int} (ha : Asc xs) (hi : InF p.funcs.length xs) (q : Nat) : Asc (wcJ (bodyOf p) (xs.take q) xs) ∧ (wcJ (bodyOf p) (xs.take q) xs).length ≤ 4 := by
  have h1 := wcJ_asc (bodyOf p) (xs.take q) ha
  have h2 := asc_in_len h1 (wcJ_in hp.named (xs := xs.take q) (fun x hx => hi x (List.mem_of_mem_take hx)) hi)
  have := hp.four
  exact ⟨h1, by omega⟩
theorem rchJ_ok {p : Pg} (hp : RcOk p) {f : Nat} (hf : f < p.funcs.length) (r : Nat) : Asc (rchJ (bodyOf p) (f : Int) r) ∧ InF p.funcs.length (rchJ (bodyOf p) (f : Int) r) :=
  ⟨rchJ_asc _ _ _, rchJ_in hp.named (by omega) (by omega) r⟩
theorem stG_ok {p : Pg} (hp : RcOk p) {xs : List Int} (ha : Asc xs) (hi : InF p.funcs.length xs) {k : Nat} (hk : k ≤ p.funcs.length) : Asc (stG (bodyOf p) xs k) ∧ (stG (bodyOf p) xs k).length ≤ 4 := by
  have h1 := stG_asc (bodyOf p) ha k
  have h2 := asc_in_len h1 (stG_in hp.named hi k hk)
  have := hp.four
  exact ⟨h1, by omega⟩
theorem rchG_ok {p : Pg} (hp : RcOk p) {f : Nat} (hf : f < p.funcs.length) (r : Nat) : Asc (rchG (bodyOf p) p.funcs.length (f : Int) r) ∧ InF p.funcs.length (rchG (bodyOf p) p.funcs.length (f : Int) r) :=
  ⟨rchG_asc _ _ _ _, rchG_in hp.named (by omega) (by omega) r⟩
set_option maxHeartbeats 1600000 in
theorem withCallees_any {w : World} {p : Pg} {pv v : Value} {xs : List Int} (base : Nat) (hp : Pgm w 0 w.heap.size pv p) (ok : RcOk p) (hx : LsI base w v xs) (ha : Asc xs) (hi : InF p.funcs.length xs) :
    Calls Tryz.prog 22 #[pv, v] w fun e w' => ∃ u, e = .returned u ∧ Below w.heap.size w w' ∧ LsI base w' u (wcJ (bodyOf p) xs xs) := by
  obtain ⟨dd, ff, rfl, hd, hf⟩ := hp
  have hp : Pgm w 0 w.heap.size (.agg #[dd, ff]) p := ⟨dd, ff, rfl, hd, hf⟩
  obtain ⟨B1, b1, rfl, l1, m1⟩ := hd.open_
  obtain ⟨B2, b2, rfl, l2, m2⟩ := hf.open_
  obtain ⟨W0, hW0⟩ : ∃ W0, W0 = w.alloc (.cells #[.slice B1 p.decls.length b1, .slice B2 p.funcs.length b2] 32) := ⟨_, rfl⟩
  have hB0 : Below w.heap.size w W0 := by rw [hW0]; exact (Below.refl _ w).alloc (Nat.le_refl _) _
  have hz0 : W0.heap.size = w.heap.size + 1 := by rw [hW0]; simp
  have x0 : W0.heap[w.heap.size]? = some (.cells #[.slice B1 p.decls.length b1, .slice B2 p.funcs.length b2] 32 (0, 0)) := by rw [hW0]; exact alloc_last _ _ _ rfl
  have HX := Lib.hid fun W (hB : Below W0.heap.size W0 W) => cells2 ((hB.block w.heap.size (by omega)).trans x0)
  have HE := Lib.hid fun W (hB : Below W0.heap.size W0 W) => hB0.trans (hB.mono (show w.heap.size ≤ W0.heap.size by omega))
  have HPG := Lib.hid fun W (hB : Below W0.heap.size W0 W) => (hp.keep (Same.of_below (HE.out W hB) (Nat.le_refl _))).wide (Nat.le_refl _) (HE.out W hB).size
  have HF := Lib.hid fun W (hB : Below W0.heap.size W0 W) => (HPG.out W hB).two.2
  have HZ := Lib.hid hz0
  obtain ⟨B, d, rfl, hl, hd⟩ := hx.2.ints.open_
  have hx0 : LsI base W0 (.slice B xs.length d) xs := hx.up hB0
  have HV := Lib.hid hx.2.ints
  have OK := Lib.hid ok
  have AI := Lib.hid (And.intro ha hi)
  have hz1 : w.heap.size ≤ W0.heap.size := by omega
  clear hp hf x0 hz0 hx ok ha hi
  go_enter Tryz.func22, Tryz.ntmps22
  go_wp2_with fail
  rw [← hW0]
  clear hW0
  go_loopw [5, 11] (fun u i wr => ∃ q : Nat, q ≤ xs.length ∧ i = .int .i64 q ∧ LsI base wr u (wcJ (bodyOf p) (xs.take q) xs) ∧ Below W0.heap.size W0 wr) (fun _ i _ => xs.length - (intOf i).toNat)
  case atStart => exact ⟨0, by omega, rfl, hx0, Below.refl _ _⟩
  case round =>
    obtain ⟨q, hq, rfl, hL, hB⟩ := hrel
    have hz := hB.size
    clear hx0
    by_cases hlt : q < xs.length
    · obtain ⟨S0, S1⟩ := HX.out wr hB
      obtain ⟨bb, o, rfl, _, _, hc⟩ := (HV.out.keep (Same.of_below (HE.out wr hB) (Nat.le_refl _))).at_ hlt
      obtain ⟨f, hf, hfm⟩ := inF_nat AI.out.2 (List.getElem_mem hlt)
      rw [hf] at hc
      obtain ⟨b', o', A1', c1', A2', c2', rfl, _, hb', f0, f1, f2, f3, f4, _, hE'⟩ := (HF.out wr hB).at_ hfm
      have h4 := OK.out.four
      have h30 := OK.out.small f hfm
      obtain ⟨a1, a2⟩ := wcJ_take OK.out AI.out.1 AI.out.2 q
      have hn : wcJ (bodyOf p) (xs.take (q + 1)) xs = (nthF p.funcs f).body.nam (wcJ (bodyOf p) (xs.take q) xs) := by rw [wcJ_step _ hlt, hf]; rfl
      obtain ⟨ys, hys⟩ : ∃ ys, wcJ (bodyOf p) (xs.take q) xs = ys := ⟨_, rfl⟩
      rw [hys] at hn hL a1 a2
      have CK := withNamed_any base hE' (nthF p.funcs f).body.op (nthF p.funcs f).body.num ys _ wr (Same.refl _ _ _) (Nat.le_refl _) hL a1 (by omega)
      rw [← nam_eq, ← hn] at CK
      have CK := Lib.hid CK
      have HB := Lib.hid hB
      have k0 : (0 : Int) ≤ (f : Int) := by omega
      have k1 : (f : Int) < (p.funcs.length : Int) := by omega
      clear hn hys hE' hL hB hf
      go_wp2_with fail
      refine CK.out.mono ?_
      rintro e w2 ⟨u2, rfl, hB2, hL2⟩
      have HH := Lib.hid (And.intro hL2 (HB.out.trans (hB2.mono hz)))
      clear hB2 hL2 CK HB S0 S1 hc f0 f1 f2 f3 f4
      go_wp2_with fail
      go_roundw
      case rel => exact ⟨q + 1, by omega, by go_num, HH.out.1, HH.out.2⟩
      case measure => simp [intOf]; omega
    · rw [List.take_of_length_le (by omega)] at hL
      have HH := Lib.hid (And.intro hL (HE.out wr hB))
      clear hL hB
      go_wp2_with fail
      go_ret
      exact ⟨_, rfl, HH.out.2, HH.out.1⟩
set_option maxHeartbeats 1600000 in
theorem reachedTop_any {w : World} {p : Pg} {pv : Value} (f : Int) (hp : Pgm w 0 w.heap.size pv p) (hr : progR p) :
    Calls Tryz.prog 7 #[pv, .int .i64 f] w fun e w' => ∃ u, e = .returned u ∧ Below w.heap.size w w' ∧ Own w' w.heap.size u (rcV p f) := by
  obtain ⟨dd, ff, rfl, hd, hf⟩ := hp
  have hp : Pgm w 0 w.heap.size (.agg #[dd, ff]) p := ⟨dd, ff, rfl, hd, hf⟩
  obtain ⟨B1, b1, rfl, l1, m1⟩ := hd.open_
  obtain ⟨B2, b2, rfl, l2, m2⟩ := hf.open_
  obtain ⟨W0, hW0⟩ : ∃ W0, W0 = w.alloc (.cells #[.slice B1 p.decls.length b1, .slice B2 p.funcs.length b2] 32) := ⟨_, rfl⟩
  have hB0 : Below w.heap.size w W0 := by rw [hW0]; exact (Below.refl _ w).alloc (Nat.le_refl _) _
  have hz0 : W0.heap.size = w.heap.size + 1 := by rw [hW0]; simp
  have x0 : W0.heap[w.heap.size]? = some (.cells #[.slice B1 p.decls.length b1, .slice B2 p.funcs.length b2] 32 (0, 0)) := by rw [hW0]; exact alloc_last _ _ _ rfl
  have HX := Lib.hid fun W (hB : Below W0.heap.size W0 W) => cells2 ((hB.block w.heap.size (by omega)).trans x0)
  have HE := Lib.hid fun W (hB : Below W0.heap.size W0 W) => hB0.trans (hB.mono (show w.heap.size ≤ W0.heap.size by omega))
  have HPG := Lib.hid fun W (hB : Below W0.heap.size W0 W) => (hp.keep (Same.of_below (HE.out W hB) (Nat.le_refl _))).wide (Nat.le_refl _) (HE.out W hB).size
  have HF := Lib.hid fun W (hB : Below W0.heap.size W0 W) => (HPG.out W hB).two.2
  have HZ := Lib.hid hz0
  have CS := Lib.hid (validProgram_any (HPG.out W0 (Below.refl _ _)) hr)
  have hz1 : w.heap.size ≤ W0.heap.size := by omega
  clear hp hd hf x0 hz0
  obtain ⟨q0, q1⟩ := HX.out W0 (Below.refl _ _)
  rcases hs : progOk p with _ | _
  · rw [rcV_no (.inl hs)]
    rw [hs] at CS
    clear hs
    go_enter Tryz.func7, Tryz.ntmps7
    go_wp2_with fail
    rw [← hW0]
    clear hW0
    refine CS.out.mono ?_
    rintro e w1 ⟨rfl, hB1⟩
    have HB1 := Lib.hid (HE.out _ hB1)
    clear hB1
    go_wp2_with fail
    go_ret
    exact ⟨_, rfl, HB1.out, Own.nil _ _⟩
  · have hfl := (sigs_len (prog_sigs hs)).2
    rw [hs] at CS
    rcases hb : hasF p f with _ | _
    · rw [rcV_no (.inr hb)]
      have CH := Lib.hid fun (W : World) (hB : Below W0.heap.size W0 W) => hasFunc_is _ f _ _ p _ W (HPG.out W hB) hb
      clear hb hs
      go_enter Tryz.func7, Tryz.ntmps7
      go_wp2_with fail
      rw [← hW0]
      clear hW0
      refine CS.out.mono ?_
      rintro e w1 ⟨rfl, hB1⟩
      obtain ⟨Q0, Q1⟩ := HX.out w1 hB1
      have z1 := hB1.size
      have HB1 := Lib.hid hB1
      clear hB1 CS q0 q1
      go_wp2_with fail
      refine (CH.out w1 HB1.out).mono ?_
      rintro e w2 ⟨rfl, hB2⟩
      have HB2 := Lib.hid (HE.out _ (HB1.out.trans (hB2.mono z1)))
      clear hB2 Q0 Q1
      go_wp2_with fail
      go_ret
      exact ⟨_, rfl, HB2.out, Own.nil _ _⟩
    · have CH := Lib.hid fun (W : World) (hB : Below W0.heap.size W0 W) => hasFunc_is _ f _ _ p _ W (HPG.out W hB) hb
      obtain ⟨k, rfl, hk⟩ : ∃ k : Nat, f = (k : Int) ∧ k < p.funcs.length := by
        unfold hasF at hb
        obtain ⟨h1, h2⟩ := Bool.and_eq_true_iff.1 hb
        have h1 := of_decide_eq_true h1
        have h2 := of_decide_eq_true h2
        exact ⟨f.toNat, by omega, by omega⟩
      rw [rcV_yes hs hb]
      have OK := Lib.hid (RcOk.of hs)
      clear hb hs
      go_enter Tryz.func7, Tryz.ntmps7
      go_wp2_with fail
      rw [← hW0]
      clear hW0
      refine CS.out.mono ?_
      rintro e w1 ⟨rfl, hB1⟩
      obtain ⟨Q0, Q1⟩ := HX.out w1 hB1
      have z1 := hB1.size
      have HB1 := Lib.hid hB1
      clear hB1 CS q0 q1
      go_wp2_with fail
      refine (CH.out w1 HB1.out).mono ?_
      rintro e w2 ⟨rfl, hB2⟩
      have hB3 := HB1.out.trans (hB2.mono z1)
      have z3 := hB3.size
      obtain ⟨W4, hW4⟩ : ∃ W4, W4 = w2.alloc (.cells #[.int .i64 (k : Int)] 3) := ⟨_, rfl⟩
      have hB4 : Below W0.heap.size W0 W4 := by rw [hW4]; exact hB3.alloc z3 _
      have ho0 : Own W4 W0.heap.size (.slice (some ⟨w2.heap.size, 0, none⟩) 1 1) (rchJ (bodyOf p) (k : Int) 0) := by
        rw [hW4]
        exact Own.of (n := 1) (World.ownsRow_lit (base := W0.heap.size) (e := 3) (size := 1) w2 #[.int .i64 (k : Int)] 1 z3 (by simp [maxLen]) rfl)
      have HO0 := Lib.hid (And.intro ho0 hB4)
      clear hB2 hB3 Q0 Q1 CH HB1 ho0 hB4
      go_wp2_with fail
      rw [← hW4]
      clear hW4
      go_loopw [5, 6] (fun u i wr => ∃ r : Nat, r ≤ p.funcs.length ∧ i = .int .i64 r ∧ Own wr W0.heap.size u (rchJ (bodyOf p) (k : Int) r) ∧ Below W0.heap.size W0 wr) (fun _ i _ => p.funcs.length - (intOf i).toNat)
      case atStart => exact ⟨0, by omega, rfl, HO0.out.1, HO0.out.2⟩
      case round =>
        obtain ⟨r, hr', rfl, hown, hB⟩ := hrel
        have hz := hB.size
        obtain ⟨S0, S1⟩ := HX.out wr hB
        by_cases hlt : r < p.funcs.length
        · obtain ⟨a1, a2⟩ := rchJ_ok OK.out hk r
          have CK := withCallees_any W0.heap.size (HPG.out wr hB) OK.out ⟨hz, hown⟩ a1 a2
          rw [show wcJ (bodyOf p) (rchJ (bodyOf p) (k : Int) r) (rchJ (bodyOf p) (k : Int) r) = rchJ (bodyOf p) (k : Int) (r + 1) from rfl] at CK
          have CK := Lib.hid CK
          have HB := Lib.hid hB
          clear hown hB a1 a2
          go_wp2_with fail
          refine CK.out.mono ?_
          rintro e w5 ⟨u5, rfl, hB5, hL5⟩
          have HH := Lib.hid (And.intro hL5.2 (HB.out.trans (hB5.mono hz)))
          clear hB5 hL5 CK HB S0 S1
          go_wp2_with fail
          go_roundw
          case rel => exact ⟨r + 1, by omega, by go_num, HH.out.1, HH.out.2⟩
          case measure => simp [intOf]; omega
        · obtain rfl : r = p.funcs.length := by omega
          have HH := Lib.hid (And.intro (hown.wide hz1) (HE.out wr hB))
          clear hown hB
          go_wp2_with fail
          go_ret
          exact ⟨_, rfl, HH.out.2, HH.out.1⟩
end Go.Proofs.YtihmkaodjpgikaaGreat

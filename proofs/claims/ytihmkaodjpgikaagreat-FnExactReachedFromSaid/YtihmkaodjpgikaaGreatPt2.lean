/- Contracts of chapter 2: what operations give for values of some types. -/
import Derived.Test.YtihmkaodjpgikaaGreatPt1
import Derived.Test.YtihmkaodjpgikaaGreatCf
namespace Go.Proofs.YtihmkaodjpgikaaGreat
open Go.RowKit Go.BigFrame
set_option maxHeartbeats 400000 in
theorem resultOfCon_any (c : Int) (ts : List Int) (L U L' U' : Nat) (ds : List Dec) (v u : Value) (w : World) (hv : Decs w L U v ds) (hU : U ≤ w.heap.size) (hb : typesOk ds = true) (hu : Ints w L' U' u ts) (hU' : U' ≤ w.heap.size) :
    Calls Tryz.prog 95 #[v, .int .i64 c, u] w fun e w' => e = .returned (.int .i64 (conRes ds c ts)) ∧ Below w.heap.size w w' := by
  obtain ⟨B, d, rfl, hl, hd⟩ := hv.open_
  obtain ⟨B', d', rfl, hl', hd'⟩ := hu.open_
  have hbig : cnt ds ds.length ≤ 4611686018427387904 := big_of_twelve (cnt_twelve hb)
  have CT := typeOfCon_any c L U ds _ w hv hU hbig
  by_cases h0 : 0 ≤ conTy ds c
  · obtain ⟨x, hx⟩ : ∃ x, conTy ds c = x := ⟨_, rfl⟩
    obtain ⟨F, hF⟩ : ∃ F, flds ds c = F := ⟨_, rfl⟩
    have CF := Lib.hid fun W (hB : Below w.heap.size w W) => fieldsOfCon_any c L U ds _ W (hv.keep (Same.of_below hB hU)) (by have := hB.size; omega) hbig h0
    rw [hF] at CF
    obtain ⟨r, hr⟩ : ∃ r, decide (ts = F) = r := ⟨_, rfl⟩
    have HR : Hid (conRes ds c ts = cond r x (-1)) := by
      show _ = _
      unfold conRes
      rw [hF, ← hr, hx]
      by_cases e : ts = F
      · rw [if_pos ⟨by omega, e⟩, decide_eq_true e]; rfl
      · rw [if_neg (by simp [e]), decide_eq_false e]; rfl
    rw [hx] at CT h0
    rw [HR.out]
    have CT := Lib.hid CT
    clear hx hF hv
    go_enter Tryz.func95, Tryz.ntmps95
    go_wp2_with fail
    refine CT.out.mono ?_
    rintro e w1 ⟨rfl, hB1⟩
    go_wp2_with fail
    refine (CF.out w1 hB1).mono ?_
    rintro e w2 ⟨uf, rfl, hB2, hI⟩
    have hB2' := hB1.trans (hB2.mono hB1.size)
    obtain ⟨Bf, bf, rfl, _, _⟩ := hI.open_
    have hu2 := hu.keep (Same.of_below hB2' hU')
    clear hB1 hB2 hu
    go_wp2_with fail
    refine (sameInts_b r _ _ _ _ _ _ _ _ w2 hu2 hI hr).mono ?_
    rintro e w3 ⟨rfl, hB3⟩
    have hB3' := Lib.hid (hB2'.trans (hB3.mono hB2'.size))
    clear hB2' hB3 hI hu2 hr
    go_wp2_with fail
    refine (typeWhen_is r x w3).mono ?_
    rintro e w4 ⟨rfl, rfl⟩
    go_wp2_with fail
    go_ret
    exact ⟨rfl, hB3'.out⟩
  · have HR : conRes ds c ts = -1 := by unfold conRes; rw [if_neg (by omega)]
    rw [HR]
    have hx : conTy ds c = -1 := by rcases conTy_cases ds c with h | ⟨k, _, h, _⟩ <;> omega
    rw [hx] at CT
    clear HR h0 hx
    go_enter Tryz.func95, Tryz.ntmps95
    go_wp2_with fail
    refine CT.mono ?_
    rintro e w1 ⟨rfl, hB1⟩
    go_wp2_with fail
    go_ret
    exact ⟨rfl, hB1⟩
/-- A program's box, and what it reads as from then on. -/
theorem cells2b {W : World} {g : Nat} {T : TypeId} {a b : Value} (h : W.heap[g]? = some (.cells #[a, b] T (0, 0))) : W.cell? ⟨g, 0, none⟩ = some a ∧ W.cell? ⟨g, 1, none⟩ = some b := cells2 h
set_option maxHeartbeats 800000 in
theorem resultOfCall_any (f : Int) (ts : List Int) (L U L' U' : Nat) (p : Pg) (v u : Value) (w : World) (hv : Pgm w L U v p) (hU : U ≤ w.heap.size) (hu : Ints w L' U' u ts) (hU' : U' ≤ w.heap.size) :
    Calls Tryz.prog 96 #[v, .int .i64 f, u] w fun e w' => e = .returned (.int .i64 (callRes p f ts)) ∧ Below w.heap.size w w' := by
  have hv0 := hv
  obtain ⟨dd, ff, rfl, hd, hf⟩ := hv0
  obtain ⟨B1, b1, rfl, l1, m1⟩ := hd.open_
  obtain ⟨B2, b2, rfl, l2, m2⟩ := hf.open_
  obtain ⟨B', d', rfl, hl', hd'⟩ := hu.open_
  obtain ⟨W0, hW0⟩ : ∃ W0, W0 = w.alloc (.cells #[.slice B1 p.decls.length b1, .slice B2 p.funcs.length b2] 32) := ⟨_, rfl⟩
  have hB0 : Below w.heap.size w W0 := by rw [hW0]; exact (Below.refl _ w).alloc (Nat.le_refl _) _
  have hz0 : W0.heap.size = w.heap.size + 1 := by rw [hW0]; simp
  have hbox : W0.heap[w.heap.size]? = some (.cells #[.slice B1 p.decls.length b1, .slice B2 p.funcs.length b2] 32 (0, 0)) := by rw [hW0]; exact alloc_last _ _ _ rfl
  obtain ⟨q0, q1⟩ := cells2 hbox
  have HV := Lib.hid (hv.keep (Same.of_below hB0 hU))
  have HX := Lib.hid fun W (hB : Below W0.heap.size W0 W) => cells2 ((hB.block w.heap.size (by omega)).trans hbox)
  have HF := Lib.hid fun W (hB : Below W0.heap.size W0 W) => hf.keep (Same.of_below (hB0.trans (hB.mono (show w.heap.size ≤ W0.heap.size by omega))) hU)
  have HU := Lib.hid fun W (hB : Below W0.heap.size W0 W) => hu.keep (Same.of_below (hB0.trans (hB.mono (show w.heap.size ≤ W0.heap.size by omega))) hU')
  have HE := Lib.hid fun W (hB : Below W0.heap.size W0 W) => hB0.trans (hB.mono (show w.heap.size ≤ W0.heap.size by omega))
  clear hv hd hf hu hbox
  rcases hasF_cases p f with ⟨_, e⟩ | ⟨_, _, e⟩ | ⟨k, rfl, hk, e, ef⟩
  · rw [show callRes p f ts = -1 by unfold callRes; rw [if_neg (by rw [e]; simp)]]
    go_enter Tryz.func96, Tryz.ntmps96
    go_wp2_with fail
    rw [← hW0]
    clear hW0
    refine (hasFunc_is _ _ _ _ _ _ W0 HV.out e).mono ?_
    rintro e w1 ⟨rfl, hB1⟩
    go_wp2_with fail
    go_ret
    exact ⟨rfl, HE.out _ hB1⟩
  · rw [show callRes p f ts = -1 by unfold callRes; rw [if_neg (by rw [e]; simp)]]
    go_enter Tryz.func96, Tryz.ntmps96
    go_wp2_with fail
    rw [← hW0]
    clear hW0
    refine (hasFunc_is _ _ _ _ _ _ W0 HV.out e).mono ?_
    rintro e w1 ⟨rfl, hB1⟩
    go_wp2_with fail
    go_ret
    exact ⟨rfl, HE.out _ hB1⟩
  · obtain ⟨r, hr⟩ : ∃ r, decide (ts = (nthF p.funcs k).params) = r := ⟨_, rfl⟩
    rw [show callRes p (k : Int) ts = cond r (nthF p.funcs k).result (-1) by
      unfold callRes
      rw [e, ef, ← hr]
      by_cases h : ts = (nthF p.funcs k).params
      · rw [if_pos ⟨rfl, h⟩, decide_eq_true h]; rfl
      · rw [if_neg (by simp [h]), decide_eq_false h]; rfl]
    have E := Lib.hid e
    clear e ef
    go_enter Tryz.func96, Tryz.ntmps96
    go_wp2_with fail
    rw [← hW0]
    clear hW0
    refine (hasFunc_is _ _ _ _ _ _ W0 HV.out E.out).mono ?_
    rintro e w1 ⟨rfl, hB1⟩
    clear q0 q1
    obtain ⟨q0, q1⟩ := HX.out w1 hB1
    obtain ⟨g, o, A1, c1, A2, c2, rfl, _, _, e0, e1, e2, e3, e4, hI, _⟩ := (HF.out w1 hB1).at_ hk
    have HS := Lib.hid fun n => sameInts_q r _ _ _ _ _ _ _ _ w1 n (HU.out w1 hB1) hI hr
    have k0 : (0 : Int) ≤ (k : Int) := by omega
    have k1 : (k : Int) < (p.funcs.length : Int) := by omega
    have HB1 := Lib.hid hB1
    clear hI hB1 hr
    go_wp2_with fail
    go_quiet (first | ((go_at_call 94; exact HS.out _)) | ((go_at_call 93; exact quiet_eq (typeWhen_is _ _ _))))
    go_wp2_with fail
    go_ret
    exact ⟨rfl, HE.out _ (below_drewN HB1.out _)⟩
end Go.Proofs.YtihmkaodjpgikaaGreat

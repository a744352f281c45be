/- Contracts of chapter 6: uses of a variable, as the model counts them. -/
import Derived.Test.YtmahamlfdegkkabU1
namespace Go.Proofs.Ytmahamlfdegkkab
open Go.RowKit Go.BigFrame
theorem sInRange_any (a b c : Int) (w : World)  :
    Calls Try.prog 45 #[.int .i64 a, .int .i64 b, .int .i64 c] w fun e w' => e = .returned (.bool (decide (b ≤ a) && decide (a ≤ c))) ∧ w = w' := by
  by_cases h0 : b ≤ a
  · by_cases h1 : a ≤ c
    · rw [show (decide (b ≤ a) && decide (a ≤ c)) = true by simp [h0, h1]]
      go_enter Try.func45, Try.ntmps45
      go_wp2
      go_ret
      exact ⟨rfl, rfl⟩
    · rw [show (decide (b ≤ a) && decide (a ≤ c)) = false by simp [h1]]
      go_enter Try.func45, Try.ntmps45
      go_wp2
      go_ret
      exact ⟨rfl, rfl⟩
  · rw [show (decide (b ≤ a) && decide (a ≤ c)) = false by simp [h0]]
    go_enter Try.func45, Try.ntmps45
    go_wp2
    go_ret
    exact ⟨rfl, rfl⟩
theorem sIsCounting_any (o : Int) (w : World) : Calls Try.prog 69 #[.int .i64 o] w fun e w' => e = .returned (.bool (isC o)) ∧ w = w' := by
  go_enter Try.func69, Try.ntmps69
  go_wp2_with (go_at_call 45; refine (sInRange_any _ _ _ _).mono ?_; rintro e w' ⟨rfl, rfl⟩)
  go_ret
  exact ⟨rfl, rfl⟩
theorem sIsCounting_is (b : Bool) (o : Int) (w : World) (h : isC o = b) : Calls Try.prog 69 #[.int .i64 o] w fun e w' => e = .returned (.bool b) ∧ w = w' := by
  subst h; exact sIsCounting_any o w
set_option maxHeartbeats 800000 in
theorem sUsesAt_of {w0 : World} {L U : Nat} {A1 K1 : Option Addr} {c1 k1 : Nat} {KV : Nat → Value} (s : St) (v : Int) (w : World) (hI : Ints w0 L U (.slice A1 s.args.length c1) s.args) (r : Row w0 L U 2 K1 s.kids.length k1 (fun j x => blCell (nthB s.kids j) (KV j) x)) (hS : Same L U w0 w) (hU : U ≤ w.heap.size) (hs : s.sum Wz ≤ 1048576)
    (hV : ∀ j, j < s.kids.length → ∃ A c, KV j = .slice A (nthB s.kids j).steps.length c)
    (C : ∀ j, j < s.kids.length → ∀ (res : Int) (W : World), Same L U w0 W → U ≤ W.heap.size → Calls Try.prog 57 #[.agg #[KV j, .int .i64 res], .int .i64 v] W fun e w' => e = .returned (.int .i64 ((sumS (Wu v) (nthB s.kids j).steps + (Wu v).b res : Nat) : Int)) ∧ Below W.heap.size W w') :
    Calls Try.prog 59 #[.agg #[.int .i64 s.op, .int .i64 s.num, .int .i64 s.into, .slice A1 s.args.length c1, .slice K1 s.kids.length k1], .int .i64 v] w fun e w' => e = .returned (.int .i64 ((s.sum (Wu v) : Nat) : Int)) ∧ Below w.heap.size w w' := by
  have hl := r.le
  have hc : k1 ≤ 9223372036854775807 := r.cap
  obtain ⟨_, _, eI, hl1, hc1⟩ := hI.open_
  cases eI
  obtain ⟨W0, hW0⟩ : ∃ W0, W0 = w.alloc (.cells #[.int .i64 s.op, .int .i64 s.num, .int .i64 s.into, .slice A1 s.args.length c1, .slice K1 s.kids.length k1] 71) := ⟨_, rfl⟩
  have hB0 : Below w.heap.size w W0 := by rw [hW0]; exact (Below.refl _ w).alloc (Nat.le_refl _) _
  have hz0 : W0.heap.size = w.heap.size + 1 := by rw [hW0]; simp
  have hbox : W0.heap[w.heap.size]? = some (.cells #[.int .i64 s.op, .int .i64 s.num, .int .i64 s.into, .slice A1 s.args.length c1, .slice K1 s.kids.length k1] 71 (0, 0)) := by rw [hW0]; exact alloc_last _ _ _ rfl
  have cb3 := cell_of_row W0 w.heap.size 3 _ _ (0, 0) hbox
  have cb4 := cell_of_row W0 w.heap.size 4 _ _ (0, 0) hbox
  simp only [List.getElem?_toArray, List.getElem?_cons_zero, List.getElem?_cons_succ] at cb3 cb4
  have hS0 : Same L U w0 W0 := hS.trans (Same.of_below hB0 hU)
  have hI0 := hI.keep hS0
  have HC := Lib.hid C
  have HV := Lib.hid hV
  have bd := st_le (wu_le v) s
  have b2 := bd
  rw [st_sum (Wu v)] at b2
  clear C hV hbox
  rcases hcnt : isC s.op with _ | _
  · have se : s.sum (Wu v) = s.args.count v + sumB (Wu v) s.kids := by rw [st_sum]; simp [Wu, hcnt]
    rw [se] at bd ⊢
    have HN := Lib.hid hcnt
    have kb := sumB_take (Wu v) s.kids
    obtain ⟨ca, hca⟩ : ∃ ca, s.args.count v = ca := ⟨_, rfl⟩
    rw [hca] at bd ⊢
    have HCA := Lib.hid hca
    have HKB := Lib.hid kb
    have tot : ca + sumB (Wu v) s.kids ≤ 1048576 := by omega
    clear hcnt se b2 hca kb bd
    go_enter Try.func59, Try.ntmps59
    go_wp2_with fail
    rw [← hW0]
    clear hW0
    refine (sIsCounting_is _ _ W0 HN.out).mono ?_
    rintro e w1 ⟨rfl, rfl⟩
    go_wp2_with fail
    go_loopw [5, 6] (fun q i wr => ∃ k n : Nat, k ≤ s.args.length ∧ i = .int .i64 k ∧ q = .int .i64 (n : Int) ∧ n = (s.args.take k).count v ∧ wr = W0) (fun _ i _ => s.args.length - (intOf i).toNat)
    case atStart => exact ⟨0, 0, by omega, rfl, rfl, by simp, rfl⟩
    case round =>
      obtain ⟨k, n, hk, rfl, rfl, hn, rfl⟩ := hrel
      by_cases hlt : k < s.args.length
      · obtain ⟨b, o, rfl, _, _, hq⟩ := hI0.at_ hlt
        have st := count_step (v := v) hlt
        have nb := count_take (xs := s.args) (v := v) k
        have szz : s.args.length ≤ 1048576 := by
          rw [st_sum] at hs
          have : Wz.s s.op s.args = 1 + s.args.length := rfl
          omega
        rw [← hn] at st nb
        by_cases he : s.args[k] = v
        · rw [if_pos he] at st
          have heb : (s.args[k] == v) = true := by simp [he]
          have ST := Lib.hid st
          clear he st hn
          go_wp2_with fail
          go_roundw
          case rel => exact ⟨k + 1, n + 1, by omega, by go_num, by go_num, ST.out.symm, by first | rfl | trivial⟩
          case measure => simp [intOf]; omega
        · rw [if_neg he, Nat.add_zero] at st
          have heb : (s.args[k] == v) = false := by simp [he]
          have ST := Lib.hid st
          clear he st hn
          go_wp2_with fail
          go_roundw
          case rel => exact ⟨k + 1, n, by omega, by go_num, rfl, ST.out.symm, by first | rfl | trivial⟩
          case measure => simp [intOf]; omega
      · rw [count_all hlt, HCA.out] at hn
        subst hn
        go_wp2_with fail
        go_loopw [5, 7] (fun q i wq => ∃ j n2 : Nat, j ≤ s.kids.length ∧ i = .int .i64 j ∧ q = .int .i64 (n2 : Int) ∧ n2 = n + sumB (Wu v) (s.kids.take j) ∧ Below wr.heap.size wr wq) (fun _ i _ => s.kids.length - (intOf i).toNat)
        case atStart => exact ⟨0, n, by omega, rfl, rfl, by simp [sumB], Below.refl _ _⟩
        case round =>
          obtain ⟨j, n2, hj, rfl, rfl, hn2, hBq⟩ := hrel
          have hzq := hBq.size
          have hwq := hB0.trans (hBq.mono (by omega))
          have cbq := (hBq.cell (p := ⟨w.heap.size, 4, none⟩) (by show w.heap.size < _; omega)).trans cb4
          by_cases hjt : j < s.kids.length
          · have hSq := hS.trans (Same.of_below hwq hU)
            obtain ⟨bb, ob, rfl, _, hbb, d0, d1⟩ := brow_at (r.keep hSq) hjt
            obtain ⟨A2, c2', hV2⟩ := HV.out j hjt
            have sb := sumB_step (Wu v) hjt
            rw [bl_sum] at sb
            have kb := HKB.out (j + 1)
            have CC := HC.out j hjt (nthB s.kids j).result
            rw [hV2] at d0 CC
            obtain ⟨t, ht⟩ : ∃ t, sumS (Wu v) (nthB s.kids j).steps + (Wu v).b (nthB s.kids j).result = t := ⟨_, rfl⟩
            rw [ht] at CC sb
            have CK := Lib.hid (CC _ hSq (by omega))
            have n2b : n2 ≤ 1048576 := by omega
            have tb : t ≤ 1048576 := by omega
            have HN2 : Hid (n2 + t = n + sumB (Wu v) (s.kids.take (j + 1))) := by show _ = _; omega
            clear sb kb CC ht hn2 hV2 hSq hwq
            go_wp2_with fail
            refine CK.out.mono ?_
            rintro e w2 ⟨rfl, hB2⟩
            have hB5 := Lib.hid (hBq.trans (hB2.mono hzq))
            clear hB2 hBq CK cbq
            go_wp2_with fail
            go_roundw
            case rel => exact ⟨j + 1, n2 + t, by omega, by go_num, by go_num, HN2.out, hB5.out⟩
            case measure => simp [intOf]; omega
          · rw [sumB_all (Wu v) hjt] at hn2
            go_wp2_with fail
            go_ret
            exact ⟨ret_int (by rw [hn2]), hwq⟩
  · have se : s.sum (Wu v) = 0 := by rw [st_sum]; simp [Wu, hcnt]
    rw [se]
    have HN := Lib.hid hcnt
    clear hcnt se b2 bd
    go_enter Try.func59, Try.ntmps59
    go_wp2_with fail
    rw [← hW0]
    clear hW0
    refine (sIsCounting_is _ _ W0 HN.out).mono ?_
    rintro e w1 ⟨rfl, rfl⟩
    go_wp2_with fail
    go_ret
    exact ⟨rfl, hB0⟩
set_option maxHeartbeats 800000 in
theorem sUsesIn_any {w0 : World} {L U : Nat} {u : Value} {ss : List St} (h : Sts w0 L U u ss) (v : Int) : ∀ (res : Int) (w : World), Same L U w0 w → U ≤ w.heap.size → sumS Wz ss ≤ 1048576 →
    Calls Try.prog 57 #[.agg #[u, .int .i64 res], .int .i64 v] w fun e w' => e = .returned (.int .i64 ((sumS (Wu v) ss + (Wu v).b res : Nat) : Int)) ∧ Below w.heap.size w w' := by
  induction h with
  | mk A c VA KA KC KV ss r ha hk h ih =>
    intro res w hS hU hsz
    have hl := r.le
    have hc : c ≤ 9223372036854775807 := r.cap
    have small : ∀ k, k < ss.length → (nthS ss k).sum Wz ≤ 1048576 := fun k hlt => by have := sumS_mem Wz hlt; omega
    have HS := Lib.hid fun k (hlt : k < ss.length) A1 c1 (hI : Ints w0 L U (.slice A1 (nthS ss k).args.length c1) (nthS ss k).args) (W : World) (a1 : Same L U w0 W) (a2 : U ≤ W.heap.size) => sUsesAt_of (nthS ss k) v W hI (hk k hlt) a1 a2 (small k hlt) (fun j hj => by obtain ⟨A, c, e, _⟩ := (h k hlt j hj).open_; exact ⟨A, c, e⟩) (fun j hj res W b1 b2 => ih k hlt j hj res W b1 b2 (by
      have h1 := sumB_mem Wz hj
      rw [bl_sum] at h1
      have h2 := small k hlt
      rw [st_sum] at h2
      have h3 : cond (Wz.k (nthS ss k).op) (sumB Wz (nthS ss k).kids) 0 = sumB Wz (nthS ss k).kids := rfl
      rw [h3] at h2
      omega))
    have HA := Lib.hid ha
    have bd := sumS_le (wu_le v) ss
    have wb : (Wu v).b res ≤ 1 := (wu_le v).b res
    have hcase : ((res == v) = true ∧ Hid ((Wu v).b res = 1)) ∨ ((res == v) = false ∧ Hid ((Wu v).b res = 0)) := by
      by_cases e : res = v
      · exact .inl ⟨by simp [e], by show _ = _; simp [Wu, e]⟩
      · exact .inr ⟨by simp [e], by show _ = _; simp [Wu, e]⟩
    obtain ⟨W0, hW0⟩ : ∃ W0, W0 = w.alloc (.cells #[.slice A ss.length c, .int .i64 res] 49) := ⟨_, rfl⟩
    have hB0 : Below w.heap.size w W0 := by rw [hW0]; exact (Below.refl _ w).alloc (Nat.le_refl _) _
    have hz0 : W0.heap.size = w.heap.size + 1 := by rw [hW0]; simp
    have hbox : W0.heap[w.heap.size]? = some (.cells #[.slice A ss.length c, .int .i64 res] 49 (0, 0)) := by rw [hW0]; exact alloc_last _ _ _ rfl
    have HX := Lib.hid hbox
    have TOT := Lib.hid (show sumS (Wu v) ss ≤ 1048576 by omega)
    clear ih hk ha h small bd wb hbox hsz
    go_enter Try.func57, Try.ntmps57
    rcases hcase with ⟨he, HM⟩ | ⟨he, HM⟩
    all_goals (
      go_wp2_with fail
      rw [← hW0]
      clear hW0
      go_loopw [5, 6] (fun q i wr => ∃ k n : Nat, k ≤ ss.length ∧ i = .int .i64 k ∧ q = .int .i64 (n : Int) ∧ Hid (n = (Wu v).b res + sumS (Wu v) (ss.take k)) ∧ Below W0.heap.size W0 wr) (fun _ i _ => ss.length - (intOf i).toNat)
      case atStart => exact ⟨0, (Wu v).b res, by omega, rfl, by rw [HM.out]; rfl, by show _ = _; simp [sumS], Below.refl _ _⟩
      case round =>
        obtain ⟨k, n, hk, rfl, rfl, hn, hB⟩ := hrel
        have hz := hB.size
        have hw : Below w.heap.size w wr := hB0.trans (hB.mono (by omega))
        obtain ⟨cb, _⟩ := two ((hB.block _ (by omega)).trans HX.out)
        by_cases hlt : k < ss.length
        · have hS1 : Same L U w0 wr := hS.trans (Same.of_below hw hU)
          obtain ⟨b, oo, rfl, _, hb, c0, c1, c2, c3, c4⟩ := srow_at (r.keep hS1) hlt
          have hI := HA.out k hlt
          obtain ⟨A1, c1', hV, _, _⟩ := hI.open_
          rw [hV] at c3 hI
          have st := sumS_step (Wu v) hlt
          have tk := sumS_take (Wu v) ss (k + 1)
          have tt := TOT.out
          have wb : (Wu v).b res ≤ 1 := (wu_le v).b res
          obtain ⟨t, ht⟩ : ∃ t, (nthS ss k).sum (Wu v) = t := ⟨_, rfl⟩
          have CK := HS.out k hlt A1 c1' hI wr hS1 (by omega)
          rw [ht] at CK st
          have CK := Lib.hid CK
          have hn' := hn.out
          have nb : n ≤ 1048577 := by omega
          have tb : t ≤ 1048576 := by omega
          have HN : Hid (n + t = (Wu v).b res + sumS (Wu v) (ss.take (k + 1))) := by show _ = _; omega
          clear st tk tt ht hn hn' hV hS1 hw hI wb
          go_wp2_with fail
          refine CK.out.mono ?_
          rintro e w2 ⟨rfl, hB2⟩
          have hB5 := Lib.hid (hB.trans (hB2.mono hz))
          clear hB2 hB CK cb
          go_wp2_with fail
          go_roundw
          case rel => exact ⟨k + 1, n + t, by omega, by go_num, by go_num, HN, hB5.out⟩
          case measure => simp [intOf]; omega
        · have hn' := hn.out
          rw [sumS_all (Wu v) hlt] at hn'
          have HN := Lib.hid hn'
          clear hn hn'
          go_wp2_with fail
          go_ret
          exact ⟨ret_int (by rw [HN.out]; omega), hw⟩)
end Go.Proofs.Ytmahamlfdegkkab

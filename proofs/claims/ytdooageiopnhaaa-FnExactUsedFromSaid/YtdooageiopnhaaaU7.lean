/- A row of ints that grows while other rows stand: what such a step leaves alone; the contract of allUses. -/
import Derived.Test.YtdooageiopnhaaaU6b
import Derived.Test.YtdooageiopnhaaaU1
namespace Go.Proofs.Ytdooageiopnhaaa
open Go.RowKit Go.BigFrame
/-- Only rows of ints from a block on may have changed, and blocks may be new. -/
structure Grew (base : Nat) (w w' : World) : Prop where
  os : w'.os = w.os
  tape : w'.tape = w.tape
  output : w'.output = w.output
  size : w.heap.size ≤ w'.heap.size
  block : ∀ k, k < w.heap.size → (k < base ∨ ∀ c z, w.heap[k]? ≠ some (.cells c 3 z)) → w'.heap[k]? = w.heap[k]?
theorem Grew.refl (base : Nat) (w : World) : Grew base w w := ⟨rfl, rfl, rfl, Nat.le_refl _, fun _ _ _ => rfl⟩
theorem Grew.trans {base : Nat} {a b c : World} (h : Grew base a b) (k : Grew base b c) : Grew base a c :=
  ⟨k.os.trans h.os, k.tape.trans h.tape, k.output.trans h.output, Nat.le_trans h.size k.size, fun i hi hn => by
    have e := h.block i hi hn
    exact (k.block i (Nat.lt_of_lt_of_le hi h.size) (by rw [e]; exact hn)).trans e⟩
theorem Grew.of_below {base : Nat} {w w' : World} (h : Below w.heap.size w w') : Grew base w w' := ⟨h.os, h.tape, h.output, h.size, fun k hk _ => h.block k hk⟩
theorem Grew.below {base : Nat} {w w' : World} (h : Grew base w w') (hb : base ≤ w.heap.size) : Below base w w' := ⟨h.os, h.tape, h.output, h.size, fun k hk => h.block k (by omega) (.inl hk)⟩
theorem Grew.alloc {base : Nat} {a w : World} (h : Grew base a w) (o : Obj) : Grew base a (w.alloc o) := h.trans (.of_below ((Below.refl _ w).alloc (Nat.le_refl _) _))
theorem Grew.box {base g : Nat} {w w' : World} (h : Grew base w w') {c : Array Value} {T : TypeId} {z : Nat × Nat} (hT : T ≠ 3) (e : w.heap[g]? = some (.cells c T z)) : w'.heap[g]? = some (.cells c T z) := by
  rw [h.block g (Array.getElem?_eq_some_iff.1 e).1 (.inr fun c' z' h' => by rw [e] at h'; injection h' with h'; injection h' with _ h2; exact hT h2)]
  exact e
theorem Grew.of_own {base : Nat} {w w' : World} {v : Value} {xs : List Int} (h : Own w base v xs) (g : w.grownBy w' v.ownBlock) : Grew base w w' :=
  ⟨g.os, g.tape, g.output, g.size, fun k hk hn => g.block k hk fun e => by
    rcases h.2 with ⟨rfl, _⟩ | ⟨g', cap, cur, rfl, h1, h2, _⟩
    · cases e
    · injection e with e
      subst e
      rcases hn with hn | hn
      · exact absurd hn (by show ¬ k < base; exact Nat.not_lt.2 h1)
      · exact hn _ _ h2⟩
theorem Own.alloc' {w : World} {base : Nat} {v : Value} {xs : List Int} (h : Own w base v xs) (o : Obj) : Own (w.alloc o) base v xs := World.ownsRow.alloc h o
/-- One number is appended, beside other rows. -/
theorem wp_grow {w : World} {ops : Array Oper} {rest : List Oper} {o : Oper} {a : Act} {Q : Exit → Act → World → Prop} (hgd : o.guard = none) (s x : Operand)
    (ho : o.op = .call { callee := .builtin .append, args := #[s, x], argTypes := #[26, 26] }) {base : Nat} {v : Value} {ys : List Int} {m : Int} (hs : a.eval s = v) (hown : Own w base v ys)
    (hx : a.eval x = .slice (some ⟨w.heap.size, 0, none⟩) 1 1) (hl : ys.length ≤ 10000000) (hb : base ≤ w.heap.size)
    (h : ∀ v' w', Own w' base v' (ys ++ [m]) → Grew base w w' → wpList Try.prog ops Q rest (a.put o.dst v') w') : wpList Try.prog ops Q (o :: rest) a (w.alloc (.cells #[.int .i64 m] 3)) := by
  obtain ⟨i0, hi, hz0, hz1, hz2⟩ := info_parts infoI
  refine wpList_append_own _ hgd s x 26 ho base 3 i0 (.int .i64 0) 1 8 Try.underlying26 hi hz0 hz1 hz2 rfl (by decide) v ys.length (ys.map (Value.int .i64)) hs (hown.alloc _) ⟨w.heap.size, 0, none⟩ 1 1 [.int .i64 m] hx rfl (cell_one_new _ _ _) (by simp [Value.oneCell']) (by unfold maxLen; omega) (by omega) (by simp; omega) ?_
  intro v' w' hown' hg _
  have hB : Grew base w w' := ((Grew.refl base w).alloc _).trans (.of_own (hown.alloc' _) hg)
  refine h v' w' ?_ hB
  have e : (ys ++ [m]).map (Value.int .i64) = ys.map (Value.int .i64) ++ [.int .i64 m] := by simp
  show w'.ownsRow base 3 1 v' (ys ++ [m]).length ((ys ++ [m]).map (Value.int .i64))
  rw [e, List.length_append]
  exact hown'
theorem sumS_drop (W : Wt) (ss : List St) (k : Nat) : sumS W (ss.drop k) ≤ sumS W ss := by
  have := sumS_append W (ss.take k) (ss.drop k)
  rw [List.take_append_drop] at this
  omega
theorem nthS_drop {ss : List St} {k i : Nat} (h : i < (ss.drop k).length) : nthS (ss.drop k) i = nthS ss (k + i) := by
  rw [nthS_of h, nthS_of (by simp at h; omega), List.getElem_drop]
theorem sumS_len' (ss : List St) : ss.length ≤ sumS Wz ss := by
  induction ss with
  | nil => simp
  | cons s ss ih =>
    have e : Wz.s s.op s.args = 1 + s.args.length := rfl
    simp only [sumS, List.length_cons, st_sum, e]
    omega
set_option maxHeartbeats 1600000 in
theorem allUses_any {w0 : World} {L U : Nat} {u : Value} {ss : List St} (h : Sts w0 L U u ss) : ∀ (res : Int) (k base : Nat) (xs : List Int) (v : Value) (w : World), Same L U w0 w → U ≤ base → base ≤ w.heap.size → Own w base v xs → k ≤ ss.length → xs.length + sumS Wz ss ≤ 3000000 →
    Calls Try.prog 26 #[v, .agg #[u, .int .i64 res], .int .i64 k] w fun e w' => ∃ v', e = .returned v' ∧ Grew base w w' ∧ Own w' base v' (xs ++ (usesS (ss.drop k) ++ [res])) := by
  induction h with
  | mk A c VA KA KC KV ss r ha hk h ih =>
    intro res k base xs v w hS hUb hb hown hkl hsz
    have hl := r.le
    have hc : c ≤ 9223372036854775807 := r.cap
    have hl0 := sumS_len' ss
    obtain ⟨W0, hW0⟩ : ∃ W0, W0 = w.alloc (.cells #[.slice A ss.length c, .int .i64 res] 30) := ⟨_, rfl⟩
    have hG0 : Grew base w W0 := by rw [hW0]; exact (Grew.refl _ _).alloc _
    have hO0 : Own W0 base v xs := by rw [hW0]; exact hown.alloc' _
    have hz0 : W0.heap.size = w.heap.size + 1 := by rw [hW0]; simp
    have hbox : W0.heap[w.heap.size]? = some (.cells #[.slice A ss.length c, .int .i64 res] 30 (0, 0)) := by rw [hW0]; exact alloc_last _ _ _ rfl
    have hS0 : Same L U w0 W0 := hS.trans (Same.of_below (hG0.below hb) hUb)
    have HX := Lib.hid hbox
    have k0 : (0 : Int) ≤ (k : Int) := by omega
    have k1 : (k : Int) ≤ (ss.length : Int) := by omega
    by_cases hlt : k < ss.length
    · obtain ⟨m, hm⟩ : ∃ m, ss.length - k = m := ⟨_, rfl⟩
      have hck : ¬ c = k := by omega
      obtain ⟨b0, o0, rfl, _⟩ := srow_at r hlt
      have hml : (ss.drop k).length = m := by simp [hm]
      obtain ⟨ds, hds⟩ : ∃ ds, ss.drop k = ds := ⟨_, rfl⟩
      have hsd := sumS_drop Wz ss k
      rw [hds] at hml hsd
      have hat : ∀ i, i < m → k + i < ss.length ∧ nthS ds i = nthS ss (k + i) := fun i hi => ⟨by omega, by rw [← hds]; exact nthS_drop (by rw [hds]; omega)⟩
      have HK := Lib.hid fun i (hi : i < m) => hk (k + i) (hat i hi).1
      have HA := Lib.hid fun i (hi : i < m) => ha (k + i) (hat i hi).1
      have HH := Lib.hid fun i (hi : i < m) => h (k + i) (hat i hi).1
      have IH := Lib.hid fun i (hi : i < m) => ih (k + i) (hat i hi).1
      have RR := Lib.hid fun i (hi : i < m) W (s : Same L U w0 W) => srow_at (r.keep s) (hat i hi).1
      have HD := Lib.hid fun i (hi : i < m) => (hat i hi).2
      have hm2 : m ≤ 3000000 := by omega
      have hsz2 : xs.length + sumS Wz ds ≤ 3000000 := by omega
      obtain ⟨_, cb1⟩ := two hbox
      rw [hds]
      have HM := Lib.hid hml
      clear ha hk h ih r hat hds hml hsd hS hown hl0 hsz hbox cb1
      go_enter Try.func26, Try.ntmps26
      go_wp2_with fail
      rw [← hW0]
      clear hW0 hm
      go_loopw [7, 20] (fun q i wr => ∃ (i' : Nat) (ys : List Int), i' ≤ m ∧ i = .int .i64 i' ∧ Hid (ys = xs ++ usesS (ds.take i')) ∧ Own wr base q ys ∧ Grew base W0 wr) (fun _ i _ => m - (intOf i).toNat)
      case atStart => exact ⟨0, xs, by omega, rfl, by show _ = _; simp [usesS], hO0, Grew.refl _ _⟩
      case round =>
        obtain ⟨i, ys, hi, rfl, HY, hO, hG⟩ := hrel
        have hz := hG.size
        have hb1 : base ≤ wr.heap.size := by omega
        have HB := HX.out
        have hyl : ys.length + sumS Wz (ds.drop i) ≤ 3000000 := by
          have h1 := usesS_len (ds.take i)
          have h2 := sumS_append Wz (ds.take i) (ds.drop i)
          rw [List.take_append_drop] at h2
          have h3 := HY.out
          subst h3
          rw [List.length_append]
          omega
        by_cases hit : i < m
        · have hid : i < ds.length := by have := HM.out; omega
          have hS1 : Same L U w0 wr := hS0.trans (Same.of_below (hG.below (by omega)) hUb)
          obtain ⟨b1, oo, eA, _, hb2, c0, c1, c2, c3, c4⟩ := RR.out i hit wr hS1
          injection eA with eA
          injection eA with e1 e2
          subst e1 e2
          obtain ⟨s, hs⟩ : ∃ s, nthS ss (k + i) = s := ⟨_, rfl⟩
          have hd := HD.out i hit
          have hI := HA.out i hit
          have hR := HK.out i hit
          have hH := HH.out i hit
          have hIH := IH.out i hit
          rw [hs] at c0 c1 c2 c4 hd hI hR hH hIH
          obtain ⟨A1, c1', hV, hal, hac⟩ := hI.open_
          rw [hV] at c3 hI
          have a0 : o0 + (k + i) * 5 = o0 + k * 5 + i * 5 := by omega
          rw [a0] at c0 c1 c2 c3 c4
          have hsw : s.sum Wz + ys.length ≤ 3000000 := by
            have h4 : (nthS (ds.drop i) 0).sum Wz ≤ sumS Wz (ds.drop i) := sumS_mem Wz (by simp; omega)
            rw [nthS_drop (by simp; omega), Nat.add_zero, hd] at h4
            omega
          have hst : usesS (ds.take (i + 1)) = usesS (ds.take i) ++ s.uses := by rw [usesS_step hid, hd]
          have HN := Lib.hid (show ys ++ s.uses = xs ++ usesS (ds.take (i + 1)) by rw [hst, HY.out, List.append_assoc])
          obtain ⟨W1, hW1⟩ : ∃ W1, W1 = wr.alloc (.cells #[.int .i64 s.op, .int .i64 s.num, .int .i64 s.into, .slice A1 s.args.length c1', .slice (KA (k + i)) s.kids.length (KC (k + i))] 54) := ⟨_, rfl⟩
          have hG1 : Grew base W0 W1 := by rw [hW1]; exact hG.alloc _
          have hO1 := hO.alloc' (.cells #[.int .i64 s.op, .int .i64 s.num, .int .i64 s.into, .slice A1 s.args.length c1', .slice (KA (k + i)) s.kids.length (KC (k + i))] 54)
          rw [← hW1] at hO1
          have hz1 : W1.heap.size = wr.heap.size + 1 := by rw [hW1]; simp
          have hbs : W1.heap[wr.heap.size]? = some (.cells #[.int .i64 s.op, .int .i64 s.num, .int .i64 s.into, .slice A1 s.args.length c1', .slice (KA (k + i)) s.kids.length (KC (k + i))] 54 (0, 0)) := by rw [hW1]; exact alloc_last _ _ _ rfl
          have cs0 := cell_of_row W1 wr.heap.size 0 _ _ (0, 0) hbs
          have cs3 := cell_of_row W1 wr.heap.size 3 _ _ (0, 0) hbs
          simp only [List.getElem?_toArray, List.getElem?_cons_zero, List.getElem?_cons_succ] at cs0 cs3
          have HS4 := Lib.hid fun W (hW : Grew base W1 W) => (show W.cell? ⟨wr.heap.size, 4, none⟩ = some (.slice (KA (k + i)) s.kids.length (KC (k + i))) by rw [cell_of_row W wr.heap.size 4 _ _ (0, 0) (hW.box (by decide) hbs)]; rfl)
          have HR := Lib.hid hR
          have HHk := Lib.hid hH
          have HI2 := Lib.hid hIH
          have HIa := Lib.hid hI
          have hkc := hR.le
          have hkc2 : KC (k + i) ≤ 9223372036854775807 := hR.cap
          rw [st_uses] at HN
          rw [st_sum] at hsw
          have e1 : Wz.s s.op s.args = 1 + s.args.length := rfl
          have e2 : cond (Wz.k s.op) (sumB Wz s.kids) 0 = sumB Wz s.kids := rfl
          rw [e1, e2] at hsw
          clear hbs hR hH hIH hI hst hd hs hV hS1 a0 hG hO e1 e2 HY hid
          rcases hcnt : isC s.op with _ | _
          · rw [hcnt, cond_false] at HN
            have HC := Lib.hid hcnt
            clear hcnt
            go_wp2_with fail
            rw [← hW1]
            clear hW1
            refine (isCounting_is _ _ W1 HC.out).mono ?_
            rintro e w1 ⟨rfl, rfl⟩
            go_wp2_with fail
            go_loopw [7, 30] (fun q j wq => ∃ (a : Nat) (zs : List Int), a ≤ s.args.length ∧ j = .int .i64 a ∧ Hid (zs = ys ++ s.args.take a) ∧ Own wq base q zs ∧ Grew base W1 wq) (fun _ j _ => s.args.length - (intOf j).toNat)
            case atStart => exact ⟨0, ys, by omega, rfl, by show _ = _; simp, hO1, Grew.refl _ _⟩
            case round =>
              obtain ⟨a, zs, haa, rfl, HZ, hOq, hGq⟩ := hrel
              have hzq := hGq.size
              have hzl : zs.length ≤ ys.length + s.args.length := by rw [HZ.out, List.length_append, List.length_take]; omega
              by_cases hat : a < s.args.length
              · have hSq : Same L U w0 wr := hS0.trans (Same.of_below ((hG1.trans hGq).below (by omega)) hUb)
                obtain ⟨b2, o2, rfl, _, _, hq⟩ := (HIa.out.keep hSq).at_ hat
                have HN2 : Hid (zs ++ [s.args[a]] = ys ++ s.args.take (a + 1)) := by
                  show _ = _
                  rw [take_more hat, HZ.out, List.append_assoc]
                clear hSq HZ
                go_wp2_with (at_builtin; refine wp_grow rfl (.tmp 34) (.tmp 36) rfl rfl hOq rfl (by omega) (by omega) ?_)
                intro u1 w1 ho1 hB1
                have HF := Lib.hid (And.intro ho1 (hGq.trans hB1))
                clear ho1 hB1 hOq hGq hq
                go_wp2_with fail
                go_roundw
                case rel => exact ⟨a + 1, _, by omega, by go_num, HN2, HF.out.1, HF.out.2⟩
                case measure => simp [intOf]; omega
              · have HZ2 : Hid (zs = ys ++ s.args) := by
                  show _ = _
                  rw [HZ.out, List.take_of_length_le (by omega)]
                have cs4 := HS4.out wr hGq
                clear HZ cs0 cs3
                go_wp2_with fail
                go_loopw [7, 42] (fun q j wp => ∃ (d : Nat) (ts : List Int), d ≤ s.kids.length ∧ j = .int .i64 d ∧ Hid (ts = zs ++ usesB (s.kids.take d)) ∧ Own wp base q ts ∧ Grew base W1 wp) (fun _ j _ => s.kids.length - (intOf j).toNat)
                case atStart => exact ⟨0, zs, by omega, rfl, by show _ = _; simp [usesB], hOq, hGq⟩
                case round =>
                  obtain ⟨d, ts, hdd, rfl, HT, hOp, hGp⟩ := hrel
                  have hzp := hGp.size
                  by_cases hdt : d < s.kids.length
                  · have hSp : Same L U w0 wr := hS0.trans (Same.of_below ((hG1.trans hGp).below (by omega)) hUb)
                    obtain ⟨b3, o3, hKA, _, hbb, d0, d1⟩ := brow_at (HR.out.keep hSp) hdt
                    obtain ⟨A2, c2', hV2, _, _⟩ := (HHk.out d hdt).open_
                    have IHj := HI2.out d hdt (nthB s.kids d).result 0 base ts
                    rw [hV2] at d0 IHj
                    have hB3 : Grew base W1 (wr.alloc (.cells #[.slice A2 (nthB s.kids d).steps.length c2', .int .i64 (nthB s.kids d).result] 30)) := hGp.alloc _
                    have htl : ts.length + sumS Wz (nthB s.kids d).steps ≤ 3000000 := by
                      have h1 := usesB_len (s.kids.take d)
                      have h2 := sumB_step Wz hdt
                      have h3 := sumB_take Wz s.kids (d + 1)
                      rw [bl_sum] at h2
                      rw [HT.out, List.length_append]
                      omega
                    have CK := Lib.hid (IHj _ (wr.alloc (.cells #[.slice A2 (nthB s.kids d).steps.length c2', .int .i64 (nthB s.kids d).result] 30)) (hS0.trans (Same.of_below ((hG1.trans hB3).below (by omega)) hUb)) hUb (by simp; omega) (hOp.alloc' _) (by omega) htl)
                    have HN3 : Hid (ts ++ (usesS ((nthB s.kids d).steps.drop 0) ++ [(nthB s.kids d).result]) = zs ++ usesB (s.kids.take (d + 1))) := by
                      show _ = _
                      rw [usesB_step hdt, bl_uses, HT.out, List.drop_zero, List.append_assoc]
                    have HG3 := Lib.hid hB3
                    clear IHj hV2 hSp HT htl hB3 hOp hGp
                    rw [hKA]
                    go_wp2_with fail
                    refine CK.out.mono ?_
                    rintro e w2 ⟨u2, rfl, hB2, hO2⟩
                    have HF := Lib.hid (And.intro hO2 (HG3.out.trans hB2))
                    clear hB2 hO2 CK HG3
                    go_wp2_with fail
                    go_roundw
                    case rel => exact ⟨d + 1, _, by omega, by go_num, HN3, HF.out.1, HF.out.2⟩
                    case measure => simp [intOf]; omega
                  · have HN4 : Hid (ts = xs ++ usesS (ds.take (i + 1))) := by
                      show _ = _
                      rw [HT.out, usesB_all hdt, HZ2.out, ← HN.out, List.append_assoc]
                    clear HT
                    go_wp2_with fail
                    go_roundw
                    case rel => exact ⟨i + 1, _, by omega, by go_num, HN4, hOp, hG1.trans hGp⟩
                    case measure => simp [intOf]; omega
          · rw [hcnt, cond_true, List.append_nil] at HN
            have HC := Lib.hid hcnt
            clear hcnt
            go_wp2_with fail
            rw [← hW1]
            clear hW1
            refine (isCounting_is _ _ W1 HC.out).mono ?_
            rintro e w1 ⟨rfl, rfl⟩
            go_wp2_with fail
            go_roundw
            case rel => exact ⟨i + 1, _, by omega, by go_num, HN, hO1, hG1⟩
            case measure => simp [intOf]; omega
        · have HZ : Hid (ys = xs ++ usesS ds) := by
            show _ = _
            rw [HY.out, List.take_of_length_le (by have := HM.out; omega)]
          obtain ⟨_, cb1⟩ := two (hG.box (by decide) HB)
          clear HY HB
          go_wp2_with (at_builtin; refine wp_grow rfl (.tmp 51) (.tmp 54) rfl rfl hO rfl (by omega) (by omega) ?_)
          intro u1 w1 ho1 hB1
          have HF := Lib.hid (And.intro ho1 (hG0.trans (hG.trans hB1)))
          clear ho1 hB1 hO hG
          go_wp2_with fail
          go_ret
          exact ⟨_, rfl, HF.out.2, by rw [← List.append_assoc, ← HZ.out]; exact HF.out.1⟩
    · have hd : ss.drop k = [] := List.drop_eq_nil_of_le (by omega)
      have hk2 : ss.length - k = 0 := by omega
      rw [hd]
      obtain ⟨_, cb1⟩ := two hbox
      have hb0 : base ≤ W0.heap.size := by omega
      clear ha hk h ih r hS hown hd hz0
      by_cases hck : c = k
      all_goals (
        try subst hck
        go_enter Try.func26, Try.ntmps26
        go_wp2_with fail
        rw [← hW0]
        clear hW0
        go_loopw [7, 20] (fun q i wr => i = .int .i64 0 ∧ q = v ∧ wr = W0) (fun _ i _ => 0)
        case atStart => exact ⟨rfl, rfl, rfl⟩
        case round =>
          obtain ⟨rfl, rfl, rfl⟩ := hrel
          go_wp2_with (at_builtin; refine wp_grow rfl (.tmp 51) (.tmp 54) rfl rfl hO0 rfl (by omega) (by omega) ?_)
          intro u1 w1 ho1 hB1
          have HF := Lib.hid (And.intro ho1 (hG0.trans hB1))
          clear ho1 hB1
          go_wp2_with fail
          go_ret
          exact ⟨_, rfl, HF.out.2, by simpa [usesS] using HF.out.1⟩)
end Go.Proofs.Ytdooageiopnhaaa

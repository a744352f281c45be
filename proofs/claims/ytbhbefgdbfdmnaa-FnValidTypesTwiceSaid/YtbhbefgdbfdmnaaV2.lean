/- The walk of the law FnValidTypesTwice. -/
import Derived.Test.YtbhbefgdbfdmnaaL
import Derived.Test.YtbhbefgdbfdmnaaAp
import Derived.Deep.AppendLies
namespace Go.Proofs.Ytbhbefgdbfdmnaa
open Go.RowKit Go.BigFrame
/-- append at a step of a region that draws its order, behind a guard that holds. -/
theorem step_lies {P : Program} {w : World} {ops : Array Oper} {o : Oper} {a : Act} {K : Act → World → Prop} {Q : Exit → Act → World → Prop} {E : Prop} (hgd : Region.wanted o (yielded ops a.tmps) = true) (s x : Operand) (t : TypeId)
    (ho : o.op = .call { callee := .builtin .append, args := #[s, x], argTypes := #[t, t] })
    (base : Nat) (e : TypeId) (i : TypeInfo) (z : Value) (size bytes : Nat) (ht : P.underlying t = some (.slice e)) (hi : P.info? e = some i) (hz : i.zero = some z)
    (hsize : i.size = size) (hby : i.bytes = bytes) (hzs : z.cells.size = size) (hsz : 0 < size)
    (v : Value) (n : Nat) (xs : List Value) (hs : a.eval s = v) (hown : w.ownsRow base e size v n xs)
    (ad : Addr) (m c : Nat) (news : List Value) (hx : a.eval x = .slice (some ad) m c) (hl : news.length = m * size) (hnews : ∀ j u, news[j]? = some u → w.cell? (ad.add j) = some u) (h1 : ∀ u ∈ news, u.oneCell' = true)
    (hm : 0 < m) (h63 : n + m ≤ maxLen) (hbytes : (n + m) * bytes ≤ 140737488355328) (hbase : base ≤ w.heap.size) (H : Nat) (hH : w.heap.size = H)
    (h : ∀ g cap w', w'.ownsRow base e size (.slice (some ⟨g, 0, none⟩) (n + m) cap) (n + m) (xs ++ news) → w.grownBy w' v.ownBlock → (v.ownBlock = some g ∨ g = H) → g < w'.heap.size → K (a.put o.dst (.slice (some ⟨g, 0, none⟩) (n + m) cap)) w') :
    if Region.wanted o (yielded ops a.tmps) = true then Oper.wp P o a w K Q else E := by
  rw [if_pos hgd]
  exact wp_append_lies w s x t ho base e i z size bytes ht hi hz hsize hby hzs hsz v n xs hs hown ad m c news hx hl hnews h1 hm h63 hbytes hbase H hH h
theorem step_first {P : Program} {w : World} {ops : Array Oper} {o : Oper} {a : Act} {K : Act → World → Prop} {Q : Exit → Act → World → Prop} {E : Prop} (hgd : Region.wanted o (yielded ops a.tmps) = true) (s x : Operand) (t : TypeId)
    (ho : o.op = .call { callee := .builtin .append, args := #[s, x], argTypes := #[t, t] })
    (base : Nat) (e : TypeId) (i : TypeInfo) (z : Value) (size bytes : Nat) (ht : P.underlying t = some (.slice e)) (hi : P.info? e = some i) (hz : i.zero = some z)
    (hsize : i.size = size) (hby : i.bytes = bytes) (hzs : z.cells.size = size) (hsz : 0 < size)
    (v : Value) (hs : a.eval s = v) (hown : w.ownsRow base e size v 0 [])
    (ad : Addr) (m c : Nat) (news : List Value) (hx : a.eval x = .slice (some ad) m c) (hl : news.length = m * size) (hnews : ∀ j u, news[j]? = some u → w.cell? (ad.add j) = some u) (h1 : ∀ u ∈ news, u.oneCell' = true)
    (hm : 0 < m) (h63 : m ≤ maxLen) (hbytes : m * bytes ≤ 140737488355328) (hbase : base ≤ w.heap.size) (H : Nat) (hH : w.heap.size = H)
    (h : ∀ g cap w', w'.ownsRow base e size (.slice (some ⟨g, 0, none⟩) m cap) m news → w.grownBy w' v.ownBlock → (v.ownBlock = some g ∨ g = H) → g < w'.heap.size → K (a.put o.dst (.slice (some ⟨g, 0, none⟩) m cap)) w') :
    if Region.wanted o (yielded ops a.tmps) = true then Oper.wp P o a w K Q else E := by
  refine step_lies hgd s x t ho base e i z size bytes ht hi hz hsize hby hzs hsz v 0 [] hs hown ad m c news hx hl hnews h1 hm (by omega) (by rw [Nat.zero_add]; exact hbytes) hbase H hH fun g cap w' k1 k2 k3 k4 => ?_
  rw [Nat.zero_add] at k1 ⊢
  exact h g cap w' k1 k2 k3 k4
theorem row_news {w : World} {L U k b o n c : Nat} {V : Nat → Nat → Value} (hr : Row w L U k (some ⟨b, o, none⟩) n c V) : ∀ j u, (cellsOf k n V)[j]? = some u → w.cell? ((⟨b, o, none⟩ : Addr).add j) = some u := by
  intro j u hu
  obtain ⟨p1, p2, p3⟩ := cellsOf_parts V hu
  obtain ⟨b', o', e', _, _, hc⟩ := hr.place (Nat.lt_of_le_of_lt (Nat.zero_le _) p1)
  injection e' with e'
  injection e' with e1 e2
  subst e1 e2
  have := hc (j / k) (j % k) p1 p2
  rw [p3, Nat.add_assoc, Nat.mul_comm, Nat.div_add_mod] at this
  unfold Addr.add
  by_cases hj : j = 0
  · subst hj; rw [if_pos rfl]; simpa using this
  · rw [if_neg hj]; exact this
set_option maxHeartbeats 3200000 in
theorem fnValidTypesTwice_walk (A : Option Addr) (n c : Nat) (w : World) (h : Code_ w A n c) :
    Calls Try.prog 3 #[.slice A n c] w fun e w' => e = .returned (.bool true) ∧ Below w.heap.size w w' := by
  by_cases hbig : 1048576 < n
  · go_enter Try.func3, Try.ntmps3
    go_wp2_with fail
    go_ret
    exact ⟨rfl, Below.refl _ _⟩
  · have Hc := Lib.hid h
    clear h
    go_enter Try.func3, Try.ntmps3
    go_wp2_with fail
    refine (drawValidTypes A n c w Hc.out).mono ?_
    rintro e w1 ⟨v, ds, rfl, hl, hd, hB1⟩
    obtain ⟨B, cc, rfl, hlc, hcc⟩ := hd.open_
    rcases hb : typesOk ds with _ | _
    · have H := Lib.hid hb
      clear hb
      go_wp2_with (first | (go_at_call 5; refine (validTypes_is _ _ _ _ _ _ hd (Nat.le_refl _) H.out).mono ?_; rintro e w2 ⟨rfl, hB2⟩; have hd2 := hd.keep (Same.of_below hB2 (Nat.le_refl _))) | (go_at_call 6; refine (sValidTypesTop _ _ _ _ _ hd2 hB2.size).mono ?_; rintro e w3 ⟨rfl, hB3⟩; rw [H.out]))
      refine (sValidTypesTop _ _ _ _ w3 (hd2.keep (Same.of_below hB3 hB2.size)) (Nat.le_trans hB2.size hB3.size)).mono ?_
      rintro e w4 ⟨rfl, hB4⟩
      rw [H.out]
      go_wp2_with fail
      go_ret
      exact ⟨rfl, hB1.trans ((hB2.mono hB1.size).trans ((hB3.mono (Nat.le_trans hB1.size hB2.size)).trans (hB4.mono (Nat.le_trans hB1.size (Nat.le_trans hB2.size hB3.size)))))⟩
    · have H := Lib.hid hb
      clear hb
      go_wp2_with (first | (go_at_call 5; refine (validTypes_is _ _ _ _ _ _ hd (Nat.le_refl _) H.out).mono ?_; rintro e w2 ⟨rfl, hB2⟩; have hd2 := hd.keep (Same.of_below hB2 (Nat.le_refl _))) | (go_at_call 6; refine (sValidTypesTop _ _ _ _ _ hd2 hB2.size).mono ?_; rintro e w3 ⟨rfl, hB3⟩; rw [H.out]))
      have hB3' : Below w.heap.size w w3 := hB1.trans ((hB2.mono hB1.size).trans (hB3.mono (Nat.le_trans hB1.size hB2.size)))
      have hd3 := hd2.keep (Same.of_below hB3 hB2.size)
      have hU3 := Nat.le_trans hB2.size hB3.size
      have hW3 := hB3'.size
      clear hd hd2 hB1 hB2 hB3
      go_loopw [5] (fun i wr => ∃ k : Nat, k ≤ ds.length ∧ i = .int .i64 k ∧ Below w3.heap.size w3 wr) (fun i _ => ds.length - (intOf i).toNat)
      case atStart => exact ⟨0, by omega, rfl, Below.refl _ _⟩
      case round =>
        obtain ⟨k, hk, rfl, hB⟩ := hrel
        have hz := hB.size
        by_cases hlt : k < ds.length
        · have hdr := hd3.keep (Same.of_below hB hU3)
          obtain ⟨b, o, A', c', rfl, _, hbU, e0, e1, e2, _⟩ := hdr.at_ hlt
          have hbr : b < wr.heap.size := by omega
          have k0 : (0 : Int) ≤ (k : Int) := by omega
          have k1 : (k : Int) < (ds.length : Int) := by omega
          by_cases g0 : (nthD ds k).cons.length = 0
          · have g0b : (((nthD ds k).cons.length : Int) == 0) = true := by simp [g0]
            obtain ⟨i0, hi, hz0, hz1, hz2⟩ := info_parts infoDecl
            have h4 := typesOk_four H.out
            have HF := Lib.hid (typesOk_twice hlt g0)
            have HC := Lib.hid fun W (hW : Below wr.heap.size wr W) => (show W.cell? ⟨b, o + k * 3, none⟩ = some (.int .i64 (nthD ds k).frm) ∧ W.cell? ⟨b, o + k * 3 + 1, none⟩ = some (.int .i64 (nthD ds k).to) ∧ W.cell? ⟨b, o + k * 3 + 2, none⟩ = some (.slice A' (nthD ds k).cons.length c') from ⟨(hW.cell hbr).trans e0, (hW.cell hbr).trans e1, (hW.cell hbr).trans e2⟩)
            obtain ⟨_, _, V, hvv, hr, hcs⟩ := hdr
            injection hvv with hv1 hv2 hv3
            subst hv1 hv3
            have hVk : V k = .slice A' (nthD ds k).cons.length c' := by
              obtain ⟨b', o', e', _, _, hcl⟩ := hr.place (by omega)
              injection e' with e'
              injection e' with e3 e4
              subst e3 e4
              have := (hcl k 2 hlt (by omega)).symm.trans e2
              injection this
            have HNW := Lib.hid fun W (hW : Below wr.heap.size wr W) => row_news (hr.keep (Same.of_below hW (show w1.heap.size ≤ wr.heap.size by omega)))
            have HONE := Lib.hid (show ∀ u ∈ cellsOf 3 ds.length (fun i j => decCell (nthD ds i) (V i) j), u.oneCell' = true by
              intro u hu
              obtain ⟨j, hj⟩ := List.getElem?_of_mem hu
              obtain ⟨p1, p2, p3⟩ := cellsOf_parts _ hj
              rw [← p3]; exact decCell_one (hcs _ p1) _ _)
            have HONE2 := Lib.hid (show ∀ u ∈ ([.int .i64 (nthD ds k).frm, .int .i64 (nthD ds k).to, .slice A' (nthD ds k).cons.length c'] : List Value), u.oneCell' = true by intro u hu; simp at hu; rcases hu with rfl | rfl | rfl <;> rfl)
            have HP := Lib.hid (show 0 < ds.length ∧ ds.length ≤ maxLen ∧ ds.length * 40 ≤ 140737488355328 from ⟨by omega, by unfold maxLen; omega, by omega⟩)
            have HP2 := Lib.hid (show ds.length + 1 ≤ maxLen ∧ (ds.length + 1) * 40 ≤ 140737488355328 from ⟨by unfold maxLen; omega, by omega⟩)
            have HDP := Lib.hid fun (v : Value) (W : World) (ho : W.ownsRow wr.heap.size 28 3 v (ds.length + 1) ((cellsOf 3 ds.length fun i j => decCell (nthD ds i) (V i) j) ++ [.int .i64 (nthD ds k).frm, .int .i64 (nthD ds k).to, .slice A' (nthD ds k).cons.length c'])) (hW : Below wr.heap.size wr W) => (show Decs W w.heap.size W.heap.size v (ds ++ [nthD ds k]) from by
              have hS5 : Same w.heap.size w1.heap.size wr W := Same.of_below hW (by omega)
              have hz5 := hW.size
              refine decs_pushed ho (by omega) (fun i hi' => ((hcs i hi').keep hS5).wide (Nat.le_refl _) (by omega)) ?_
              rw [← hVk]
              exact ((hcs k hlt).keep hS5).wide (Nat.le_refl _) (by omega))
            have HL3 := Lib.hid (show ((wr.drew.alloc (.cells #[.int .i64 (nthD ds k).frm, .int .i64 (nthD ds k).to, .slice A' (nthD ds k).cons.length c'] 28)).alloc (.cells #[] 28)).ownsRow wr.heap.size 28 3 (.slice (some ⟨wr.heap.size + 1, 0, none⟩) 0 0) 0 [] from by
              have := World.ownsRow_lit (base := wr.heap.size) (e := 28) (size := 3) (wr.drew.alloc (.cells #[.int .i64 (nthD ds k).frm, .int .i64 (nthD ds k).to, .slice A' (nthD ds k).cons.length c'] 28)) #[] 0 (by simp) (by simp [maxLen]) rfl
              rw [show (wr.drew.alloc (.cells #[.int .i64 (nthD ds k).frm, .int .i64 (nthD ds k).to, .slice A' (nthD ds k).cons.length c'] 28)).heap.size = wr.heap.size + 1 by simp] at this
              exact this)
            have HB := Lib.hid hB
            clear g0 hr hcs hVk hB e0 e1 e2
            obtain ⟨e0, e1, e2⟩ := HC.out wr (Below.refl _ _)
            go_wp2_with fail
            go_region_held3 (fun w' => w'.cell? ⟨b, o + k * 3, none⟩ = some (.int .i64 (nthD ds k).frm) ∧ w'.cell? ⟨b, o + k * 3 + 1, none⟩ = some (.int .i64 (nthD ds k).to) ∧ w'.cell? ⟨b, o + k * 3 + 2, none⟩ = some (.slice A' (nthD ds k).cons.length c'))
              (first | go_keep | (exact HC.out _ hBC) | (exact HC.out _ hB5) | (exact HC.out _ hB4) | (exact HC.out _ (hB4.alloc hB4.size _)))
              (first | (refine step_lies rfl (.tmp 41) (.tmp 46) 23 rfl wr.heap.size 28 i0 (.agg #[.int .i64 0, .int .i64 0, .slice none 0 0]) 3 40 Try.underlying23 hi hz0 hz1 hz2 rfl (by decide) _ _ _ rfl (hown4.alloc _) ⟨wA.heap.size, 0, none⟩ 1 1 [.int .i64 (nthD ds k).frm, .int .i64 (nthD ds k).to, .slice A' (nthD ds k).cons.length c'] rfl rfl (World.news_of_block (fr := (0, 0)) (alloc_last _ _ _ rfl)) HONE2.out (by omega) HP2.out.1 HP2.out.2 (by first | exact hB4.size | (have := hB4.size; simp; omega)) _ rfl ?_; intro g2 cap2 wB hown5 hg5 hor5 hlt5; have hB5 : Below wr.heap.size wr wB := Below.own ((hB4.alloc hB4.size _)) (hown4.alloc _) hg5 (Nat.le_refl _) (by first | exact hB4.size | (have := hB4.size; simp; omega)); have hd5 := HDP.out _ wB hown5 hB5) | (refine step_lies rfl (.tmp 41) (.tmp 46) 23 rfl wr.heap.size 28 i0 (.agg #[.int .i64 0, .int .i64 0, .slice none 0 0]) 3 40 Try.underlying23 hi hz0 hz1 hz2 rfl (by decide) _ _ _ rfl (hown4) ⟨wr.heap.size + 1, 0, none⟩ 1 1 [.int .i64 (nthD ds k).frm, .int .i64 (nthD ds k).to, .slice A' (nthD ds k).cons.length c'] rfl rfl (World.news_of_block (fr := (0, 0)) hbx) HONE2.out (by omega) HP2.out.1 HP2.out.2 (by first | exact hB4.size | (have := hB4.size; simp; omega)) _ rfl ?_; intro g2 cap2 wB hown5 hg5 hor5 hlt5; have hB5 : Below wr.heap.size wr wB := Below.own (hB4) (hown4) hg5 (Nat.le_refl _) (by first | exact hB4.size | (have := hB4.size; simp; omega)); have hd5 := HDP.out _ wB hown5 hB5) | (refine step_lies rfl (.tmp 41) (.tmp 46) 23 rfl wr.heap.size 28 i0 (.agg #[.int .i64 0, .int .i64 0, .slice none 0 0]) 3 40 Try.underlying23 hi hz0 hz1 hz2 rfl (by decide) _ _ _ rfl (hown4) ⟨wr.heap.size, 0, none⟩ 1 1 [.int .i64 (nthD ds k).frm, .int .i64 (nthD ds k).to, .slice A' (nthD ds k).cons.length c'] rfl rfl (World.news_of_block (fr := (0, 0)) hbx) HONE2.out (by omega) HP2.out.1 HP2.out.2 (by first | exact hB4.size | (have := hB4.size; simp; omega)) _ rfl ?_; intro g2 cap2 wB hown5 hg5 hor5 hlt5; have hB5 : Below wr.heap.size wr wB := Below.own (hB4) (hown4) hg5 (Nat.le_refl _) (by first | exact hB4.size | (have := hB4.size; simp; omega)); have hd5 := HDP.out _ wB hown5 hB5) | (refine step_first rfl (.tmp 39) (.tmp 40) 23 rfl wr.heap.size 28 i0 (.agg #[.int .i64 0, .int .i64 0, .slice none 0 0]) 3 40 Try.underlying23 hi hz0 hz1 hz2 rfl (by decide) (.slice (some ⟨wr.heap.size, 0, none⟩) 0 0) rfl ((World.ownsRow_lit (base := wr.heap.size) (e := 28) (size := 3) wr.drew #[] 0 (Nat.le_refl _) (by simp [maxLen]) rfl)) ⟨b, o, none⟩ ds.length cc (cellsOf 3 ds.length fun i j => decCell (nthD ds i) (V i) j) rfl (length_cellsOf _ _ _) (HNW.out _ (((Below.refl _ wr).drew.alloc (Nat.le_refl _) _))) HONE.out HP.out.1 HP.out.2.1 HP.out.2.2 (by simp; try omega) _ rfl ?_; intro g1 cap1 wA hown4 hg4 hor4 hlt4; have hB4 : Below wr.heap.size wr wA := Below.own (((Below.refl _ wr).drew.alloc (Nat.le_refl _) _)) ((World.ownsRow_lit (base := wr.heap.size) (e := 28) (size := 3) wr.drew #[] 0 (Nat.le_refl _) (by simp [maxLen]) rfl)) hg4 (Nat.le_refl _) (by simp; try omega); skip) | (refine step_first rfl (.tmp 39) (.tmp 40) 23 rfl wr.heap.size 28 i0 (.agg #[.int .i64 0, .int .i64 0, .slice none 0 0]) 3 40 Try.underlying23 hi hz0 hz1 hz2 rfl (by decide) (.slice (some ⟨wr.heap.size, 0, none⟩) 0 0) rfl (World.ownsRow.alloc (World.ownsRow_lit (base := wr.heap.size) (e := 28) (size := 3) wr.drew #[] 0 (Nat.le_refl _) (by simp [maxLen]) rfl) (.cells #[.int .i64 (nthD ds k).frm, .int .i64 (nthD ds k).to, .slice A' (nthD ds k).cons.length c'] 28)) ⟨b, o, none⟩ ds.length cc (cellsOf 3 ds.length fun i j => decCell (nthD ds i) (V i) j) rfl (length_cellsOf _ _ _) (HNW.out _ ((((Below.refl _ wr).drew.alloc (Nat.le_refl _) _).alloc (by simp; try omega) _))) HONE.out HP.out.1 HP.out.2.1 HP.out.2.2 (by simp; try omega) _ rfl ?_; intro g1 cap1 wA hown4 hg4 hor4 hlt4; have hB4 : Below wr.heap.size wr wA := Below.own ((((Below.refl _ wr).drew.alloc (Nat.le_refl _) _).alloc (by simp; try omega) _)) (World.ownsRow.alloc (World.ownsRow_lit (base := wr.heap.size) (e := 28) (size := 3) wr.drew #[] 0 (Nat.le_refl _) (by simp [maxLen]) rfl) (.cells #[.int .i64 (nthD ds k).frm, .int .i64 (nthD ds k).to, .slice A' (nthD ds k).cons.length c'] 28)) hg4 (Nat.le_refl _) (by simp; try omega); have hbx : wA.heap[wr.heap.size + 1]? = some (.cells #[.int .i64 (nthD ds k).frm, .int .i64 (nthD ds k).to, .slice A' (nthD ds k).cons.length c'] 28 (0, 0)) := (hg4.block _ (by simp) (by simp [Value.ownBlock])).trans (alloc_last _ _ _ (by simp))) | (refine step_first rfl (.tmp 39) (.tmp 40) 23 rfl wr.heap.size 28 i0 (.agg #[.int .i64 0, .int .i64 0, .slice none 0 0]) 3 40 Try.underlying23 hi hz0 hz1 hz2 rfl (by decide) (.slice (some ⟨wr.heap.size + 1, 0, none⟩) 0 0) rfl (HL3.out) ⟨b, o, none⟩ ds.length cc (cellsOf 3 ds.length fun i j => decCell (nthD ds i) (V i) j) rfl (length_cellsOf _ _ _) (HNW.out _ ((((Below.refl _ wr).drew.alloc (Nat.le_refl _) _).alloc (by simp; try omega) _))) HONE.out HP.out.1 HP.out.2.1 HP.out.2.2 (by simp; try omega) _ rfl ?_; intro g1 cap1 wA hown4 hg4 hor4 hlt4; have hB4 : Below wr.heap.size wr wA := Below.own ((((Below.refl _ wr).drew.alloc (Nat.le_refl _) _).alloc (by simp; try omega) _)) (HL3.out) hg4 (Nat.le_refl _) (by simp; try omega); have hbx : wA.heap[wr.heap.size]? = some (.cells #[.int .i64 (nthD ds k).frm, .int .i64 (nthD ds k).to, .slice A' (nthD ds k).cons.length c'] 28 (0, 0)) := (hg4.block _ (by simp; omega) (by simp [Value.ownBlock])).trans ((Below.heap_alloc _ _ _ (by simp)).trans (alloc_last _ _ _ rfl))) | (go_simp; go_at_call 5; refine (validTypes_is false _ _ _ _ _ hd5 (Nat.le_refl _) HF.out).mono ?_; rintro e wC ⟨rfl, hBC'⟩; have hBC := hB5.trans (hBC'.mono hB5.size)))
            all_goals (
              have HBC := Lib.hid (HB.out.trans (hBC.mono hz))
              clear hBC hBC' hB5 hd5 hown5 hg5 hB4 hown4 hg4
              go_wp2_with fail
              go_roundw
              case rel => exact ⟨k + 1, by omega, by go_num, HBC.out⟩
              case measure => simp [intOf]; omega)
          · have g0b : (((nthD ds k).cons.length : Int) == 0) = false := by simp; exact fun h => g0 (by simp [h])
            clear g0
            go_wp2_with fail
            go_quiet (fail)
            go_wp2_with fail
            go_roundw
            case rel => exact ⟨k + 1, by omega, by go_num, below_drewN hB _⟩
            case measure => simp [intOf]; omega
        · go_wp2_with fail
          go_ret
          exact ⟨rfl, hB3'.trans (hB.mono hW3)⟩
end Go.Proofs.Ytbhbefgdbfdmnaa

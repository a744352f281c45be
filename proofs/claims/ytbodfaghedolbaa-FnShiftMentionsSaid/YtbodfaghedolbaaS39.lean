/- Generic texts and models for the proofs of this seat: part 39. -/
import Derived.Test.YtbodfaghedolbaaS38
import Derived.StillTailTactics
import Derived.Deep.RegionHeld3
import Derived.WalkKit
set_option linter.unusedVariables false
set_option linter.unusedSimpArgs false
namespace Go.Proofs.Ytbodfaghedolbaa
open Go Go.RowKit
structure CI (p0 : Stb) (w0 : World) (b o N c : Nat) (kids : List (List AC)) (k : Nat) (m : Array Value) (w : World) : Prop where
  size : m.size = 21
  m0 : m.getD 0 undef = .slice (some ⟨b, o, none⟩) N c
  ex : ∃ us p, w.ownsRow w0.heap.size 32 3 (m.getD 3 undef) k us ∧ RepL p w us (kids.take k).flatten ∧ (∀ g, (m.getD 3 undef).ownBlock = some g → p g = 0 ∧ p.ok g 3) ∧ Rep p w (.slice (some ⟨b, o, none⟩) N c) (.sl 3 kids) ∧ Zp p w ∧ Evo (fun _ => False) p0 w0 p w
section
variable {p0 : Stb} {w0 : World} {b o N c : Nat} {kids : List (List AC)}
theorem ci_round (hK : KidsOk kids) (hs : kids.length + rsS kids ≤ 50000) {k : Nat} {m : Array Value} {w : World} (h : CI p0 w0 b o N c kids k m w) (hk : k < kids.length) (h4 : m.getD 4 undef = .int .i64 (k : Int)) (Q : Exit → Act → World → Prop)
    (hQ : ∀ a' w', a'.defers = [] → CI p0 w0 b o N c kids (k + 1) a'.tmps w' → a'.tmps.getD 4 undef = .int .i64 (k : Int) → Q .normal a' w') :
    CE5.wp Try.prog Q { tmps := m, defers := [] } w := by
  obtain ⟨us, p, hown, hus, hpz, hrep, hz, hev⟩ := h.ex
  obtain ⟨hN, _, hrows, hb, hp, hok, hcap, f, hcc, hrr⟩ := rep_inv hrep (by intro e; rw [e] at hk; simp at hk)
  have hmem : kids[k] ∈ kids := List.getElem_mem hk
  have hf := hK _ hmem
  have hle := rsS_mem hmem
  have hg : kids.getD k [] = kids[k] := by simp [List.getD, hk]
  generalize hrow : kids[k] = row at *
  cases hf with
  | expr e0 e1 l ho hno hl hk2 =>
  have hget : ∀ (j : Nat) (x : AC), [AC.int e0, .int e1, .sl 3 l][j]? = some x → w.cell? ⟨b, o + k * 3 + j, none⟩ = some (f k j) ∧ Rep p w (f k j) x := fun j x hx => ⟨hcc k j x (by rw [hg]; exact hx), hrr k j x (by rw [hg]; exact hx)⟩
  obtain ⟨b0, r0⟩ := hget 0 _ rfl
  obtain ⟨b1, r1⟩ := hget 1 _ rfl
  obtain ⟨b2, r2⟩ := hget 2 _ rfl
  have q0 : f k 0 = .int .i64 e0 := by
    generalize f k 0 = v at r0
    cases r0
    rfl
  have q1 : f k 1 = .int .i64 e1 := by
    generalize f k 1 = v at r1
    cases r1
    rfl
  obtain ⟨A1, l1, c1, q2⟩ := rep_slice r2
  rw [q0] at b0
  rw [q1] at b1
  rw [q2] at b2 r2
  have hbs := hown.1
  have hl1 : l.length + rsS l ≤ 50000 := by
    have hc : cS [AC.int e0, .int e1, .sl 3 l] = 1 + l.length + rsS l ∨ l.length + rsS l ≤ cS [AC.int e0, .int e1, .sl 3 l] := .inr (by simp [cS, rsS, acS, acS.cS, acS.rsS])
    omega
  have hcall := vals_call (P := Try.prog) (L := lay) orders_ok lay_ok ext_ok sig_ok (s_copyExpr (o := e0) (n := e1) hk2 (by omega)) (by kernel_rfl) (p := p) (w := w) (vals := [.agg #[.int .i64 e0, .int .i64 e1, .slice A1 l1 c1]]) ⟨⟨_, rfl, .int _, .int _, r2, trivial⟩, trivial⟩ hz
  refine ce5_at (base := w0.heap.size) (us := us) (post := fun x0 x1 A3 l3 k3 w' => x0 = e0 ∧ x1 = e1 ∧ ∃ p', Rep p' w' (.slice A3 l3 k3) (.sl 3 l) ∧ Evo (fun _ => False) p w p' w' ∧ Zp p' w') (by omega) (by omega) b0 b1 b2 ?_ h.size h.m0 h4 Q ?_
  · refine hcall.mono ?_
    rintro e w' ⟨v, rfl, hB, p', hsr, hev', hz', _⟩
    obtain ⟨arr, rfl, hl⟩ : ∃ arr, v = .agg arr ∧ RepL p' w' arr.toList [.int e0, .int e1, .sl 3 l] := hsr
    obtain ⟨ls⟩ := arr
    match ls, hl with
    | [x0, x1, x2], ⟨t0, t1, t2, _⟩ =>
      cases t0
      cases t1
      obtain ⟨A3, l3, k3, rfl⟩ := rep_slice t2
      exact ⟨_, _, _, _, _, rfl, ⟨rfl, rfl, p', t2, hev', hz'⟩, hown.kept (row := none) ⟨hev'.os, hev'.tape, hev'.output, hev'.size, fun x hx _ => hev'.block x hx (fun h => h)⟩ (by cases (m.getD 3 undef).ownBlock <;> simp), by have := hev'.size; have := hev.size; omega⟩
  · rintro x0 x1 A3 l3 k3 w' ⟨rfl, rfl, p', hr3, hev', hz'⟩ v' w2 a' hown2 hgr hob hd hs' hm0 hm3 hm4
    have hpo : ∀ g, (m.getD 3 undef).ownBlock = some g → p' g = 0 := fun g hg => (hev'.same g (hown.lt g hg).2 (fun h => h)).trans (hpz g hg).1
    have hE : Evo (fun x => (m.getD 3 undef).ownBlock = some x) p' w' (okP p' w' 3) w2 := by
      have hblk : ∀ x, x < w'.heap.size → (m.getD 3 undef).ownBlock ≠ some x → w2.heap[x]? = w'.heap[x]? := fun x hx hn => (hgr.block x (by simp; omega) (fun e => hn e.symm)).trans (Below.heap_alloc _ _ _ hx)
      refine ⟨hgr.os, hgr.tape, hgr.output, by have := hgr.size; simp at this; omega, hblk, fun _ _ => Nat.le_refl _, fun _ _ _ => rfl, fun x y hx hy => ?_, fun x hx => okP_lt hx, fun x h1 _ i j hi hj => okP_uq h1 hi hj⟩
      exact World.cell?_of_block (w := w') (hblk x hx (fun e => by have := hpo x e; omega))
    have hE0 : Evo (fun _ => False) p0 w0 (okP p' w' 3) w2 := (hev.trans hev' (C := fun _ => False) (fun _ _ h => h) (fun _ _ h => h)).trans hE (fun _ _ h => h) (fun x hx e => by have := (hown.lt x e).1; omega)
    refine hQ a' w2 hd ⟨hs', hm0, us ++ [.int .i64 x0, .int .i64 x1, .slice A3 l3 k3], okP p' w' 3, by rw [hm3]; exact hown2, ?_, ?_, (hrep.evo hev').evo hE, ⟨fun x hx => hz'.1 x (Nat.le_trans hE.size hx), fun _ _ _ => trivial⟩, hE0⟩ hm4
    · rw [List.take_succ_eq_append_getElem hk, List.flatten_append, hrow]
      have h3 : RepL (okP p' w' 3) w2 [.int .i64 x0, .int .i64 x1, .slice A3 l3 k3] [.int x0, .int x1, .sl 3 l] := ⟨.int _, .int _, hr3.evo hE, trivial⟩
      simpa using ((hus.evo hev').evo hE).append h3
    · intro g hg
      rw [hm3] at hg
      rcases hob with e | e
      · have hg' := e ▸ hg
        refine ⟨hpo g hg', ?_⟩
        rw [okP_lt (Nat.lt_of_lt_of_le (hown.lt g hg').2 hev'.size), hev'.okk g (hown.lt g hg').2]
        exact (hpz g hg').2
      · rw [e] at hg
        cases hg
        refine ⟨hz'.1 _ (by omega), ?_⟩
        rw [okP_ge (by omega)]
end
end Go.Proofs.Ytbodfaghedolbaa
namespace Go.Proofs.Ytbodfaghedolbaa
open Go Go.RowKit
section
variable {p0 : Stb} {w0 : World} {b o N c : Nat} {kids : List (List AC)}
set_option maxHeartbeats 4000000 in
theorem copyExprs_low (hz : Zp p0 w0) (hr : Rep p0 w0 (.slice (some ⟨b, o, none⟩) N c) (.sl 3 kids)) (hn : kids ≠ []) (hK : KidsOk kids) (hs : kids.length + rsS kids ≤ 50000) : Calls Try.prog 83 #[.slice (some ⟨b, o, none⟩) N c] w0 fun e w' => ∃ v us p', e = .returned v ∧
    w'.ownsRow w0.heap.size 32 3 v kids.length us ∧ RepL p' w' us kids.flatten ∧ (∀ g, v.ownBlock = some g → p' g = 0 ∧ p'.ok g 3) ∧ Zp p' w' ∧ Evo (fun _ => False) p0 w0 p' w' := by
  have hN := (rep_inv hr hn).1
  go_enter Try.func83, Try.ntmps83
  go_wp2_with fail
  refine wp_loop (fun a w => a.defers = [] ∧ ∃ k : Nat, k ≤ kids.length ∧ a.tmps.getD 4 undef = .int .i64 (k : Int) ∧ CI p0 w0 b o N c kids k a.tmps w) (fun a w => match a.tmps.getD 4 undef with
    | .int _ z => kids.length - z.toNat
    | _ => 0) ?_ ?_
  · refine ⟨rfl, 0, Nat.zero_le _, rfl, rfl, rfl, [], upP p0 w0.heap.size 0 3, ?_, ?_, ?_, ?_, ?_, ?_⟩
    · exact World.ownsRow_lit (base := w0.heap.size) (e := 32) (size := 3) w0 #[] 0 (Nat.le_refl _) (by simp [maxLen]) rfl
    · show RepL _ _ [] []
      trivial
    · intro g hg
      cases hg
      exact ⟨by rw [upP_f, if_pos rfl], upP_ok_self _ _ _ _⟩
    · exact hr.evo (evo_alloc _ 0 (fun _ => False) 3)
    · exact ⟨fun x hx => by
        rw [upP_f]
        split
        · rfl
        · exact hz.1 x (by simp at hx; omega), fun _ _ _ => trivial⟩
    · exact evo_alloc _ 0 _ 3
  rintro ⟨m1, dd⟩ w1 ⟨hd, k, hk, h4, hL⟩
  have hd : dd = [] := hd
  subst hd
  have h4 : m1.getD 4 undef = .int .i64 (k : Int) := h4
  have hL : CI p0 w0 b o N c kids k m1 w1 := hL
  refine wp_seq (wp_seq (ce3_at (by omega) (by omega) hL.size hL.m0 h4 _ fun a1 hd1 hs1 hm0 hm3 hm4 hm9 => ?_))
  have hL1 : CI p0 w0 b o N c kids k a1.tmps w1 := ⟨hs1, hm0, by rw [hm3]; exact hL.ex⟩
  obtain ⟨m2, dd⟩ := a1
  have hd1 : dd = [] := hd1
  subst hd1
  refine wp_cond (t := decide (k < N)) hm9 ?_
  by_cases hlt : k < N
  · rw [decide_eq_true hlt]
    simp only [if_true]
    refine wp_skip ?_
    show Code.wp _ (.seq (.block 1 CE5) CE4) _ ⟨m2, []⟩ w1
    refine wp_seq (wp_block (ci_round hK hs hL1 (by omega) hm4 _ fun a' w' hd' hL' h4' => ?_))
    obtain ⟨m3, dd⟩ := a'
    have hd' : dd = [] := hd'
    subst hd'
    show Code.wp _ CE4 _ ⟨m3, []⟩ w'
    refine ce4_at (by omega) hL'.size hL'.m0 h4' _ fun a2 hd2 hs2 hm0' hm3' hm4' => ?_
    show (_ ∧ _) ∧ _
    refine ⟨⟨hd2, k + 1, by omega, hm4', hs2, hm0', by rw [hm3']; exact hL'.ex⟩, ?_⟩
    simp only [hm4', h4]
    omega
  · rw [decide_eq_false hlt]
    simp only [Bool.false_eq_true, if_false]
    refine wp_exit ?_
    obtain rfl : k = kids.length := by omega
    obtain ⟨us, p, hown, hus, hpz, hrep, hz1, hev⟩ := hL1.ex
    rw [List.take_length] at hus
    have e := ce_lit (m := m2) hL1.size
    have hfin : ∃ v us p', m2.getD 3 undef = v ∧ w1.ownsRow w0.heap.size 32 3 v kids.length us ∧ RepL p' w1 us kids.flatten ∧ (∀ g, v.ownBlock = some g → p' g = 0 ∧ p'.ok g 3) ∧ Zp p' w1 ∧ Evo (fun _ => False) p0 w0 p' w1 := ⟨_, us, p, rfl, hown, hus, hpz, hz1, hev⟩
    clear hL hL1 hown hus hpz hrep hz1 hev hm4 hm9 hm0 hs1 hm3 h4
    obtain ⟨v, us, p', hv, hfin⟩ := hfin
    rw [hv] at e
    rw [e]
    have HF := Lib.hid hfin
    clear hfin e hv
    simp only [Exit.then, Exit.inBlock, if_true]
    go_wp2
    go_ret
    exact ⟨v, rfl, us, HF.out.1, p', HF.out.2⟩
end
end Go.Proofs.Ytbodfaghedolbaa
namespace Go.Proofs.Ytbodfaghedolbaa
open Go Go.RowKit
section
variable {ns : List Nat} (hns : ns.length ≤ 2000) {w0 : World} {p0 : Stb} {b : Nat}
include hns
set_option maxHeartbeats 4000000 in
theorem someBody_any {pos : Nat} (hpos : pos + 102000 ≤ 800000) (hz : Zp p0 w0) (ht : TK p0 w0 (fun _ => False) b (Qr ns pos)) : Calls Try.prog 54 #[ptrB b] w0 fun e w' => ∃ v p' D R pos' f, e = .returned (.tuple #[v, .int .i64 ((f : Nat) : Int)]) ∧ D ∈ goodL ∧ GR R ∧ f < R.length ∧ (∀ x ∈ R, BodyOk x) ∧ RepS p' w' v (pgC D R) ∧
    Evo (· = b) p0 w0 p' w' ∧ Zp p' w' ∧ TK p' w' (fun _ => False) b (Qr ns pos') ∧ pos' ≤ pos + 54000 := by
  have hb := ht.lt
  have hea := evo_alloc (p := p0) (w := w0) (.cells #[.slice none 0 0, .slice none 0 0] 26) 0 (· = b)
  have hz1 : Zp (upP p0 w0.heap.size 0) (w0.alloc (.cells #[.slice none 0 0, .slice none 0 0] 26)) := ⟨fun c hc => by
    rw [upP_f]
    split
    · rfl
    · exact hz.1 c (by simp at hc; omega), fun _ _ _ => trivial⟩
  have hcall := goodProgram_any hns (by omega) hz1 (ht.evo (evo_alloc _ 0 _))
  go_enter Try.func54, Try.ntmps54
  go_wp2_with fail
  refine hcall.mono ?_
  rintro e w1 ⟨v, p1, D, R, pos1, rfl, hD, hR, hR2, hbd, hrep, hev, hz2, ht2, hp1⟩
  clear hcall
  obtain ⟨arr, rfl, hl⟩ := hrep
  obtain ⟨l⟩ := arr
  match l, hl with
  | [u0, u1], ⟨r0, r1, _⟩ =>
  obtain ⟨D1, d1, d2, rfl⟩ := rep_slice r0
  obtain ⟨E1, e1, e2, rfl⟩ := rep_slice r1
  have hlen : E1 = E1 ∧ e1 = R.length := by
    refine ⟨rfl, ?_⟩
    generalize hc : AC.sl 5 (pmsC R) = c at r1
    generalize hv : Value.slice E1 e1 e2 = v at r1
    cases r1 with
    | int n => cases hc
    | bool b => cases hc
    | nil a k =>
      injection hc with _ hc
      have : (pmsC R).length = 0 := by rw [hc]; rfl
      rw [pmsC, List.length_map] at this
      injection hv
      omega
    | sl =>
      injection hc with _ hc
      injection hv with _ hv _
      rw [hv, ← hc, pmsC, List.length_map]
  obtain ⟨_, rfl⟩ := hlen
  have hsz1 : w0.heap.size < w1.heap.size := by have := hev.size; simp at this; omega
  -- the box of the program
  have hW : ∃ W, W = w1.alloc (.cells #[.slice D1 d1 d2, .slice E1 R.length e2] 26) := ⟨_, rfl⟩
  obtain ⟨W, hW⟩ := hW
  have hea2 : Evo (· = b) p1 w1 (upP p1 w1.heap.size 0) W := by rw [hW]; exact evo_alloc _ 0 _
  have hz3 : Zp (upP p1 w1.heap.size 0) W := ⟨fun c hc => by
    rw [upP_f]
    split
    · rfl
    · exact hz2.1 c (by rw [hW] at hc; simp at hc; omega), fun _ _ _ => trivial⟩
  have ht3 : TK (upP p1 w1.heap.size 0) W (fun _ => False) b (Qr ns pos1) := by rw [hW]; exact ht2.evo (evo_alloc _ 0 _)
  obtain ⟨x, hx, hpick⟩ := t_pick hns (p := pos1) (by omega) (m := R.length) (by omega)
  have hc0 : W.cell? ⟨w1.heap.size, 0, none⟩ = some (.slice D1 d1 d2) := by rw [hW]; exact hcell_of (heap_alloc_new _ _) rfl
  have hc1 : W.cell? ⟨w1.heap.size, 1, none⟩ = some (.slice E1 R.length e2) := by rw [hW]; exact hcell_of (heap_alloc_new _ _) rfl
  have hsW : W.heap.size = w1.heap.size + 1 := by rw [hW]; simp
  have hcall2 : Calls Try.prog 55 #[ptrB b, .int .i64 ((R.length : Nat) : Int)] W.drew (fun e w' => e = .returned (.int .i64 ((x : Nat) : Int)) ∧ ∃ p', Evo (· = b) (upP p1 w1.heap.size 0) W p' w' ∧ Zp p' w' ∧ TK p' w' (fun _ => False) b (Qr ns (pos1 + 1))) := by
    have hdr : Evo (· = b) (upP p1 w1.heap.size 0) W (upP p1 w1.heap.size 0) W.drew := (Evo.refl _ _ _).drew
    refine (((tok 55 (by kernel_rfl)).2 (Qr ns pos1) [.cell (.int ((R.length : Nat) : Int))] _ hpick).2 (upP p1 w1.heap.size 0) W.drew b [.int .i64 ((R.length : Nat) : Int)] ⟨.int _, trivial⟩ hz3 (ht3.evo ((Evo.refl _ _ _).drew))).mono ?_
    rintro e w' ⟨v, rfl, p', hsr, _, _, hev', hz', ht', _⟩
    have hsr : Rep p' w' v (.int (x : Int)) := hsr
    cases hsr
    exact ⟨rfl, p', hdr.trans hev' (fun _ _ e => e) (fun _ _ e => e), hz', ht'⟩
  subst hW
  have CK := Lib.hid hcall2
  have nb1 : w1.heap.size ≠ b := by omega
  have nb2 : w0.heap.size ≠ b := by omega
  have hnn : w0.heap.size ≠ w1.heap.size := by omega
  have hh2 : (w1.alloc (.cells #[.slice D1 d1 d2, .slice E1 R.length e2] 26)).heap[w0.heap.size]? = some (.cells #[.slice none 0 0, .slice none 0 0] 26 (0, 0)) :=
    (Below.heap_alloc _ _ _ hsz1).trans ((hev.block _ (by simp) nb2).trans (heap_alloc_new _ _))
  clear hcall2 hpick
  go_wp2_with fail
  go_region_held3 (fun w' => w'.cell? ⟨w1.heap.size, 0, none⟩ = some (.slice D1 d1 d2) ∧ w'.cell? ⟨w1.heap.size, 1, none⟩ = some (.slice E1 R.length e2))
    (first | go_keep | (exact ⟨by assumption, by assumption⟩) | (exact ⟨by rw [World.cell?_setCell_far _ _ _ _ hnn, World.cell?_setCell_far _ _ _ _ hnn]; assumption, by rw [World.cell?_setCell_far _ _ _ _ hnn, World.cell?_setCell_far _ _ _ _ hnn]; assumption⟩))
    (first | (go_at_call 55; refine CK.out.mono ?_; rintro e w' ⟨rfl, p', hev', hz', ht'⟩; have k0 : w'.cell? ⟨w1.heap.size, 0, none⟩ = some (.slice D1 d1 d2) := (World.cell?_of_block (hev'.block _ (by simp) nb1)).trans hc0; have k1 : w'.cell? ⟨w1.heap.size, 1, none⟩ = some (.slice E1 R.length e2) := (World.cell?_of_block (hev'.block _ (by simp) nb1)).trans hc1; have q2 : w'.heap[w0.heap.size]? = some (.cells #[.slice none 0 0, .slice none 0 0] 26 (0, 0)) := (hev'.block _ (by simp; omega) nb2).trans hh2; have k2 := hcell_of (j := 0) q2 rfl; have k3 := hcell_of (j := 1) q2 rfl; have k4 := frozen_of_row w' _ 0 _ _ q2; have k5 := frozen_of_row w' _ 1 _ _ q2))
  have hpz : p' w0.heap.size = 0 := by
    rw [hev'.same _ (by simp; omega) nb2, upP_f, if_neg hnn, hev.same _ (by simp) nb2, upP_f, if_pos rfl]
  have hevs : Evo (· = w0.heap.size) p' w' p' ((w'.setCell ⟨w0.heap.size, 0, none⟩ (.slice D1 d1 d2)).setCell ⟨w0.heap.size, 1, none⟩ (.slice E1 R.length e2)) :=
    (evo_block hpz (by simp [World.setCell]) (fun y hy => heap_setCell_other _ _ _ _ hy) rfl rfl rfl : Evo (· = w0.heap.size) p' w' p' (w'.setCell ⟨w0.heap.size, 0, none⟩ (.slice D1 d1 d2))).trans (evo_block hpz (by simp [World.setCell]) (fun y hy => heap_setCell_other _ _ _ _ hy) rfl rfl rfl) (fun _ _ e => e) (fun _ _ e => e)
  have hn01 : (⟨w0.heap.size, 1, none⟩ : Addr) ≠ ⟨w0.heap.size, 0, none⟩ := by simp
  have hn10 : (⟨w0.heap.size, 0, none⟩ : Addr) ≠ ⟨w0.heap.size, 1, none⟩ := by simp
  have z0 : ((w'.setCell ⟨w0.heap.size, 0, none⟩ (.slice D1 d1 d2)).setCell ⟨w0.heap.size, 1, none⟩ (.slice E1 R.length e2)).cell? ⟨w0.heap.size, 0, none⟩ = some (.slice D1 d1 d2) := by
    rw [World.cell?_setCell_other (h := hn01)]
    exact World.cell?_setCell_same _ _ _ k2
  have z1 : ((w'.setCell ⟨w0.heap.size, 0, none⟩ (.slice D1 d1 d2)).setCell ⟨w0.heap.size, 1, none⟩ (.slice E1 R.length e2)).cell? ⟨w0.heap.size, 1, none⟩ = some (.slice E1 R.length e2) := by
    refine World.cell?_setCell_same _ _ _ (u := .slice none 0 0) ?_
    rw [World.cell?_setCell_other (h := hn10)]
    exact k3
  have hE : Evo (· = b) p1 w1 p' w' := hea2.trans hev' (fun _ _ e => e) (fun _ _ e => e)
  have hF : Evo (· = b) p0 w0 p' ((w'.setCell ⟨w0.heap.size, 0, none⟩ (.slice D1 d1 d2)).setCell ⟨w0.heap.size, 1, none⟩ (.slice E1 R.length e2)) :=
    ((hea.trans hev (C := (· = b)) (fun _ _ e => e) (fun _ _ e => e)).trans hE (C := (· = b)) (fun _ _ e => e) (fun _ _ e => e)).trans hevs (fun _ _ e => e) (fun c hc e => absurd hc (by have : c = w0.heap.size := e; omega))
  have HF := Lib.hid hF
  have HS := Lib.hid hevs
  have HE := Lib.hid hE
  clear hF hevs hE CK
  go_wp2_with fail
  refine bodyPost_ret (v := .tuple #[.agg #[.slice D1 d1 d2, .slice E1 R.length e2], .int .i64 ((x : Nat) : Int)]) ?_ rfl ⟨_, p', D, R, pos1 + 1, x, rfl, hD, hR, hx, hbd, ⟨_, rfl, (r0.evo HE.out).evo HS.out, (r1.evo HE.out).evo HS.out, trivial⟩, HF.out, ⟨fun c hc => hz'.1 c (Nat.le_trans HS.out.size hc), fun _ _ _ => trivial⟩, ((ht'.own (Own' := (· = w0.heap.size)) (fun e => nb2 e.symm)).evo HS.out).own (fun h => h), by omega⟩
  simp [results, Try.results54, go_sem, z0, z1]
end
end Go.Proofs.Ytbodfaghedolbaa

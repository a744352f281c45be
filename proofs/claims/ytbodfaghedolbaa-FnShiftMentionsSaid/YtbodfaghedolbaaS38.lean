/- Generic texts and models for the proofs of this seat: part 38. -/
import Derived.Test.YtbodfaghedolbaaS37
import Derived.WalkKit
import Derived.Deep.AppendLies
set_option linter.unusedVariables false
set_option linter.unusedSimpArgs false
namespace Go.Proofs.Ytbodfaghedolbaa
open Go Go.RowKit
theorem vok : CallOk Try.prog sig (V Try.prog lay sig.has ext) := V_ok lay_ok ext_ok sig_ok (fun _ hC => drawn_ok orders_ok lay_ok hC)
theorem tok : CallOkT Try.prog sig tt (TV Try.prog lay tt (V Try.prog lay sig.has ext) extT) := TV_ok orders_ok lay_ok vok tab_ok
structure GP (w0 : World) (p0 : Stb) (b c2 c3 B o cap : Nat) (D : List DM) (R : List PM) (q : List AC) (p : Stb) (w : World) (m : Array Value) : Prop where
  size : m.size = 110
  m0 : m.getD 0 undef = ptrB b
  m2 : m.getD 2 undef = .pointer (some ⟨c2, 0, none⟩)
  m3 : m.getD 3 undef = .pointer (some ⟨c3, 0, none⟩)
  x2 : ∃ z0 z1 T, w.heap[c2]? = some (.cells #[z0, z1] T (0, 0))
  x3 : ∃ D1 d1 d2 T, w.heap[c3]? = some (.cells #[.slice D1 d1 d2, .slice (some ⟨B, o, none⟩) R.length cap] T (0, 0)) ∧ Rep p w (.slice D1 d1 d2) (.sl 3 (decsC D))
  xB : ∃ a T, w.heap[B]? = some (.cells a T (0, 0)) ∧ o + R.length * 5 ≤ a.size
  rep : Rep p w (.slice (some ⟨B, o, none⟩) R.length cap) (.sl 5 (pmsC R))
  z2 : p c2 = 0
  z3 : p c3 = 0
  n23 : c2 ≠ c3
  n2B : c2 ≠ B
  n3B : c3 ≠ B
  n2b : c2 ≠ b
  n3b : c3 ≠ b
  g2 : w0.heap.size ≤ c2
  g3 : w0.heap.size ≤ c3
  gB : w0.heap.size ≤ B
  gb : b < w0.heap.size
  uq : ∀ j, p.ok B j → j = 5
  okB : p.ok B 5
  tk : TK p w (fun _ => False) b q
  zp : Zp p w
  evo : Evo (· = b) p0 w0 p w
  hD : D ∈ goodL
  hR : GR R
  fit : ∀ x ∈ R, Fit .expr [.int x.o, .int x.n, .sl 3 x.kids]
section
variable {w0 w w' : World} {p0 p p' : Stb} {b c2 c3 B o cap : Nat} {D : List DM} {R : List PM} {q q' : List AC} {m m' : Array Value}
theorem GP.slots (h : GP w0 p0 b c2 c3 B o cap D R q p w m) (hs : m'.size = 110) (h0 : m'.getD 0 undef = m.getD 0 undef) (h2 : m'.getD 2 undef = m.getD 2 undef) (h3 : m'.getD 3 undef = .pointer (some ⟨c3, 0, none⟩)) : GP w0 p0 b c2 c3 B o cap D R q p w m' :=
  { h with size := hs, m0 := h0.trans h.m0, m2 := h2.trans h.m2, m3 := h3 }
theorem get_lt {w : World} {c : Nat} {x : Obj} (h : w.heap[c]? = some x) : c < w.heap.size := (Array.getElem?_eq_some_iff.1 h).1
theorem GP.lt2 (h : GP w0 p0 b c2 c3 B o cap D R q p w m) : c2 < w.heap.size := by obtain ⟨_, _, _, h⟩ := h.x2; exact get_lt h
theorem GP.lt3 (h : GP w0 p0 b c2 c3 B o cap D R q p w m) : c3 < w.heap.size := by obtain ⟨_, _, _, _, h, _⟩ := h.x3; exact get_lt h
theorem GP.ltB (h : GP w0 p0 b c2 c3 B o cap D R q p w m) : B < w.heap.size := by obtain ⟨_, _, h, _⟩ := h.xB; exact get_lt h
theorem GP.on (h : GP w0 p0 b c2 c3 B o cap D R q p w m) (hev : Evo (· = b) p w p' w') (hz : Zp p' w') (ht : TK p' w' (fun _ => False) b q') : GP w0 p0 b c2 c3 B o cap D R q' p' w' m := by
  have nBb : B ≠ b := fun e => by have := h.gB; have := h.gb; omega
  refine { h with x2 := ?_, x3 := ?_, xB := ?_, rep := h.rep.evo hev, z2 := (hev.same c2 h.lt2 h.n2b).trans h.z2, z3 := (hev.same c3 h.lt3 h.n3b).trans h.z3, uq := fun j hj => h.uq j (by rw [← hev.okk B h.ltB]; exact hj), okB := by rw [hev.okk B h.ltB]; exact h.okB, tk := ht, zp := hz, evo := h.evo.trans hev (fun _ _ e => e) (fun _ _ e => e) }
  · rw [hev.block c2 h.lt2 h.n2b]; exact h.x2
  · rw [hev.block c3 h.lt3 h.n3b]
    obtain ⟨D1, d1, d2, T, h1, h2⟩ := h.x3
    exact ⟨D1, d1, d2, T, h1, h2.evo hev⟩
  · rw [hev.block B h.ltB nBb]; exact h.xB
theorem ap_pm {x : PM} (h : Fit .expr [.int x.o, .int x.n, .sl 3 x.kids]) : apL 5 (pmC x) = true := by
  have h1 := ap_expr h
  simp only [apL, apC, Bool.and_true, Bool.true_and] at h1
  simp only [pmC, apL, apC, Bool.and_true, Bool.true_and, ap_ints]
  exact h1
theorem ap_good : ∀ D ∈ goodL, apC 5 (.sl 3 (decsC D)) = true := by decide
theorem GP.cells3 (h : GP w0 p0 b c2 c3 B o cap D R q p w m) : ∃ D1 d1 d2, w.cell? ⟨c3, 0, none⟩ = some (.slice D1 d1 d2) ∧ w.cell? ⟨c3, 1, none⟩ = some (.slice (some ⟨B, o, none⟩) R.length cap) ∧ Rep p w (.slice D1 d1 d2) (.sl 3 (decsC D)) := by
  obtain ⟨D1, d1, d2, T, h1, h2⟩ := h.x3
  exact ⟨D1, d1, d2, by simp [World.cell?, h1], by simp [World.cell?, h1], h2⟩
theorem GP.put (h : GP w0 p0 b c2 c3 B o cap D R q p w m) {ns : List Nat} {pos : Nat} (hq : q = Qr ns pos) {k : Nat} (hk : k < R.length) {A0 A3 : Option Addr} {l0 k0 l3 k3 : Nat} {e0 e1 : Int} {kids : List (List AC)}
    (hps : Rep p w (.slice A0 l0 k0) (.sl 1 (intsC (gP R k).ps))) (hkids : Rep p w (.slice A3 l3 k3) (.sl 3 kids)) (hf : Fit .expr [.int e0, .int e1, .sl 3 kids]) :
    GP w0 p0 b c2 c3 B o cap D (R.set k ⟨(gP R k).ps, (gP R k).r, e0, e1, kids⟩) q p (put5 w B (o + k * 5) (.slice A0 l0 k0) (.int .i64 (gP R k).r) (.int .i64 e0) (.int .i64 e1) (.slice A3 l3 k3)) m := by
  subst hq
  obtain ⟨a, T, hB, hs⟩ := h.xB
  have nBb : B ≠ b := fun e => by have := h.gB; have := h.gb; omega
  have hlen : (R.set k ⟨(gP R k).ps, (gP R k).r, e0, e1, kids⟩).length = R.length := by simp
  have hev := put5_evo (w := w) (B := B) (o := o + k * 5) (x0 := .slice A0 l0 k0) (x1 := .int .i64 (gP R k).r) (x2 := .int .i64 e0) (x3 := .int .i64 e1) (x4 := .slice A3 l3 k3) (raP p B 0) (by rw [raP_f, if_pos rfl])
  have hex := ap_expr hf
  have hrow := rep_put5 (o := o) (k := k) hB hs h.uq h.rep (fun r hr => by
    simp only [pmsC, List.mem_map] at hr
    obtain ⟨x, hx, rfl⟩ := hr
    exact ap_pm (h.fit x hx)) (by simpa [pmsC] using hk) (x0 := .slice A0 l0 k0) (x1 := .int .i64 (gP R k).r) (x2 := .int .i64 e0) (x3 := .int .i64 e1) (x4 := .slice A3 l3 k3) (c0 := .sl 1 (intsC (gP R k).ps)) (c1 := .int (gP R k).r) (c2 := .int e0) (c3 := .int e1) (c4 := .sl 3 kids) ⟨hps, .int _, .int _, .int _, hkids, trivial⟩
    (by
      simp only [apL, apC, Bool.and_true, Bool.true_and] at hex
      simp only [apL, apC, Bool.and_true, Bool.true_and, ap_ints]
      exact hex)
  refine { h with x2 := ?_, x3 := ?_, xB := ?_, rep := ?_, tk := ?_, zp := ⟨fun c hc => h.zp.1 c (by rw [put5_size] at hc; exact hc), fun c hc => h.zp.2 c (by rw [put5_size] at hc; exact hc)⟩, evo := ?_, hR := ?_, fit := ?_ }
  · rw [put5_other h.n2B]; exact h.x2
  · rw [put5_other h.n3B, hlen]
    obtain ⟨D1, d1, d2, T, h1, h2⟩ := h.x3
    exact ⟨D1, d1, d2, T, h1, low_evo h.uq hev h2 (ap_good D h.hD)⟩
  · rw [hlen]
    exact ⟨_, T, put5_heap hB, by simpa using hs⟩
  · rw [hlen]
    have e : pmsC (R.set k ⟨(gP R k).ps, (gP R k).r, e0, e1, kids⟩) = (pmsC R).set k [.sl 1 (intsC (gP R k).ps), .int (gP R k).r, .int e0, .int e1, .sl 3 kids] := by
      simp [pmsC, List.map_set, pmC]
    rw [e]
    exact hrow
  · obtain ⟨a1, T1, g1, g2⟩ := h.tk.cells
    refine ⟨h.tk.not, by rw [put5_size]; exact h.tk.lt, h.tk.pz, a1, T1, by rw [put5_other (fun e => nBb e.symm)]; exact g1, ?_⟩
    match hl : a1.toList, g2 with
    | [v0, v1], ⟨r0, r1, _⟩ =>
      refine ⟨low_evoQ h.uq h.okB (by omega) hev r0, ?_, trivial⟩
      rcases r1 with r1 | ⟨_, _, _, _, _, _, _, e, _⟩
      · exact .inl (low_evo h.uq hev r1 rfl)
      · cases e
  · have he := h.evo
    refine ⟨by simpa [put5, World.setCell] using he.os, by simpa [put5, World.setCell] using he.tape, by simpa [put5, World.setCell] using he.output, by rw [put5_size]; exact he.size, fun c hc hn => ?_, he.keepP, he.same, fun c x hc hx => ?_, he.okk, fun c h1 h2 => he.uq c h1 (by rw [put5_size] at h2; exact h2)⟩
    · exact (put5_other (Nat.ne_of_lt (Nat.lt_of_lt_of_le hc h.gB))).trans (he.block c hc hn)
    · exact (World.cell?_of_block (w := w) (put5_other (Nat.ne_of_lt (Nat.lt_of_lt_of_le hc h.gB)))).trans (he.stable c x hc hx)
  · refine ⟨by rw [hlen]; exact h.hR.len, fun x hx => ?_⟩
    rcases List.mem_or_eq_of_mem_set hx with hx | rfl
    · exact h.hR.sg x hx
    · exact h.hR.at hk
  · intro x hx
    rcases List.mem_or_eq_of_mem_set hx with hx | rfl
    · exact h.fit x hx
    · exact hf
end
end Go.Proofs.Ytbodfaghedolbaa
namespace Go.Proofs.Ytbodfaghedolbaa
open Go Go.RowKit
theorem heap_alloc_new (w : World) (o : Obj) : (w.alloc o).heap[w.heap.size]? = some o := by
  have : (w.alloc o).heap = w.heap.push o := rfl
  rw [this]
  simp
theorem hcell_of {w : World} {c j : Nat} {a : Array Value} {T : TypeId} {v : Value} (h : w.heap[c]? = some (.cells a T (0, 0))) (hj : a[j]? = some v) : w.cell? ⟨c, j, none⟩ = some v := by simp [World.cell?, h, hj]
theorem rep_slice {p : Stb} {w : World} {v : Value} {k : Nat} {rows : List (List AC)} (h : Rep p w v (.sl k rows)) : ∃ a l c, v = .slice a l c := by
  generalize hc : AC.sl k rows = c at h
  cases h with
  | int n => cases hc
  | bool b => cases hc
  | nil a k => exact ⟨_, _, _, rfl⟩
  | sl => exact ⟨_, _, _, rfl⟩
def BodyOk (x : PM) : Prop := Fit .expr [.int x.o, .int x.n, .sl 3 x.kids] ∧ 1 + x.kids.length + rsS x.kids ≤ 900
structure LP (ns : List Nat) (pos0 : Nat) (w0 : World) (p0 : Stb) (b : Nat) (N : Nat) (k : Nat) (m : Array Value) (w : World) : Prop where
  ex : ∃ c2 c3 B o cap D R pos p, GP w0 p0 b c2 c3 B o cap D R (Qr ns pos) p w m ∧ R.length = N ∧ pos + k * 13000 ≤ pos0 + N * 13000 ∧ ∀ j, k ≤ j → j < N → BodyOk (gP R j)
section
variable {ns : List Nat} (hns : ns.length ≤ 2000) {w0 : World} {p0 : Stb} {b : Nat}
include hns
theorem round_gp {pos0 N k : Nat} (hpos : pos0 + 100000 ≤ 800000) (hN : N ≤ 4) (hk : k < N) {m : Array Value} {w : World} (h : LP ns pos0 w0 p0 b N (k + 1) m w) (h8 : m.getD 8 undef = .int .i64 (k : Int)) (Q : Exit → Act → World → Prop)
    (hQ : ∀ a' w', a'.defers = [] → a'.tmps.getD 8 undef = .int .i64 (k : Int) → LP ns pos0 w0 p0 b N k a'.tmps w' → Q .normal a' w') :
    (Code.seq R11 R12).wp Try.prog Q { tmps := m, defers := [] } w := by
  obtain ⟨c2, c3, B, o, cap, D, R, pos, p, g, hRN, hps, hok⟩ := h.ex
  obtain ⟨D1, d1, d2, hc0, hc1, hD⟩ := g.cells3
  have hkR : k < R.length := by omega
  obtain ⟨e0, e1, kids, pos', hb, hp1, hfit, hsz⟩ := t_bodyOf hns g.hD g.hR hkR (p := pos) (by omega)
  have hcall := (tok 64 (by kernel_rfl)).2 (Qr ns pos) [pgC D R, .cell (.int (k : Int))] _ hb
  refine wp_seq (r11_at (post := fun e0' e1' A3 l3 k3 w' => e0' = e0 ∧ e1' = e1 ∧ ∃ p', Rep p' w' (.slice A3 l3 k3) (.sl 3 kids) ∧ Evo (· = b) p w p' w' ∧ Zp p' w' ∧ TK p' w' (fun _ => False) b (Qr ns pos')) hc0 hc1 ?_ g.size g.m3 h8 _ ?_)
  · rw [g.m0]
    refine (hcall.2 p w b [.agg #[.slice D1 d1 d2, .slice (some ⟨B, o, none⟩) R.length cap], .int .i64 (k : Int)] ⟨⟨_, rfl, hD, g.rep, trivial⟩, .int _, trivial⟩ g.zp g.tk).mono ?_
    rintro e w' ⟨v, rfl, p', hsr, _, _, hev, hz, ht, _⟩
    obtain ⟨arr, rfl, hl⟩ : ∃ arr, v = .agg arr ∧ RepL p' w' arr.toList [.int e0, .int e1, .sl 3 kids] := hsr
    obtain ⟨l⟩ := arr
    match l, hl with
    | [x0, x1, x2], ⟨r0, r1, r2, _⟩ =>
      cases r0
      cases r1
      obtain ⟨A3, l3, k3, rfl⟩ : ∃ A3 l3 k3, x2 = .slice A3 l3 k3 := by
        cases r2 with
        | nil a => exact ⟨_, _, _, rfl⟩
        | sl => exact ⟨_, _, _, rfl⟩
      exact ⟨_, _, _, _, _, rfl, rfl, rfl, p', r2, hev, hz, ht⟩
  · rintro e0' e1' A3 l3 k3 w' ⟨rfl, rfl, p', hkids, hev, hz, ht⟩ a1 hd1 hs1 hm0 hm2 hm3 hm8 hm9
    -- behind the call
    have g1 := g.on hev hz ht
    have hea := evo_alloc (p := p') (w := w') (.cells #[.int .i64 e0', .int .i64 e1', .slice A3 l3 k3] 32) 0 (· = b)
    have hz1 : Zp (upP p' w'.heap.size 0) (w'.alloc (.cells #[.int .i64 e0', .int .i64 e1', .slice A3 l3 k3] 32)) := ⟨fun c hc => by
      rw [upP_f]
      split
      · rfl
      · exact hz.1 c (by simp at hc; omega), fun _ _ _ => trivial⟩
    have g2 := (g1.on hea hz1 (ht.evo (evo_alloc _ 0 _))).slots hs1 hm0 hm2 hm3
    have hkids2 := hkids.evo hea
    have hn9 : (w'.alloc (.cells #[.int .i64 e0', .int .i64 e1', .slice A3 l3 k3] 32)).heap[w'.heap.size]? = some (.cells #[.int .i64 e0', .int .i64 e1', .slice A3 l3 k3] 32) := heap_alloc_new _ _
    generalize hW : w'.alloc (.cells #[.int .i64 e0', .int .i64 e1', .slice A3 l3 k3] 32) = W at *
    generalize upP p' w'.heap.size 0 = P2 at *
    obtain ⟨E1, E2, E3, hE0, hE1, _⟩ := g2.cells3
    obtain ⟨aB, TB, hB, hsB⟩ := g2.xB
    obtain ⟨_, _, _, _, _, _, _, f, hcc, hrr⟩ := rep_inv g2.rep (by
      intro e
      have h0 : (pmsC R).length = 0 := by rw [e]; rfl
      rw [pmsC, List.length_map] at h0
      omega)
    have hrow : (pmsC R).getD k [] = pmC (gP R k) := by simp [pmsC, gP, List.getD, hkR]
    have hget : ∀ (j : Nat) (c : AC), (pmC (gP R k))[j]? = some c → W.cell? ⟨B, o + k * 5 + j, none⟩ = some (f k j) ∧ Rep P2 W (f k j) c := fun j c hc => ⟨hcc k j c (by rw [hrow]; exact hc), hrr k j c (by rw [hrow]; exact hc)⟩
    obtain ⟨b0, r0⟩ := hget 0 _ rfl
    obtain ⟨b1, r1⟩ := hget 1 _ rfl
    obtain ⟨b2, _⟩ := hget 2 _ rfl
    obtain ⟨b3, _⟩ := hget 3 _ rfl
    obtain ⟨b4, _⟩ := hget 4 _ rfl
    have fz : ∀ j, W.frozen? ⟨B, j, none⟩ = false := fun j => frozen_of_row W B j aB TB hB
    obtain ⟨A0, l0, k0, h0⟩ := rep_slice r0
    have h1 : f k 1 = .int .i64 (gP R k).r := by
      generalize f k 1 = v at r1
      cases r1
      rfl
    rw [h0] at b0 r0
    rw [h1] at b1
    have hmx : R.length ≤ 1048576 := by omega
    obtain ⟨m1, dd⟩ := a1
    have hd1 : dd = [] := hd1
    subst hd1
    show R12.wp _ Q ⟨m1, []⟩ W
    refine r12_at hkR hmx hE0 hE1 b0 b1 b2 b3 b4 (hcell_of hn9 rfl) (hcell_of hn9 rfl) (hcell_of hn9 rfl) (fz _) (fz _) (fz _) (fz _) (fz _) hs1 hm3 hm8 hm9 _ ?_
    intro a' hd' hs' hm0' hm2' hm3' hm8'
    have hdr : Evo (· = b) P2 W P2 W.drew := (Evo.refl _ _ _).drew
    have g3 := (g2.on hdr g2.zp (g2.tk.evo ((Evo.refl _ _ _).drew))).put rfl hkR (r0.evo hdr) (hkids2.evo hdr) hfit
    refine hQ a' _ hd' hm8' ⟨c2, c3, B, o, cap, D, _, pos', P2, g3.slots hs' hm0' hm2' hm3', by simpa using hRN, by omega, fun j hj hjN => ?_⟩
    by_cases hjk : j = k
    · subst hjk
      rw [show gP (R.set j ⟨(gP R j).ps, (gP R j).r, e0', e1', kids⟩) j = ⟨(gP R j).ps, (gP R j).r, e0', e1', kids⟩ by simp [gP, List.getD, hkR]]
      exact ⟨hfit, hsz⟩
    · rw [show gP (R.set k ⟨(gP R k).ps, (gP R k).r, e0', e1', kids⟩) j = gP R j by simp [gP, List.getD, List.getElem?_set_ne (fun e => hjk e.symm)]]
      exact hok j (by omega) hjN
end
end Go.Proofs.Ytbodfaghedolbaa
namespace Go.Proofs.Ytbodfaghedolbaa
open Go Go.RowKit
theorem LP.slots {ns : List Nat} {pos0 N k b : Nat} {w0 w : World} {p0 : Stb} {m m' : Array Value} (h : LP ns pos0 w0 p0 b N k m w) (hs : m'.size = 110) (h0 : m'.getD 0 undef = m.getD 0 undef) (h2 : m'.getD 2 undef = m.getD 2 undef) (h3 : m'.getD 3 undef = m.getD 3 undef) : LP ns pos0 w0 p0 b N k m' w := by
  obtain ⟨c2, c3, B, o, cap, D, R, pos, p, g, h1⟩ := h.ex
  exact ⟨c2, c3, B, o, cap, D, R, pos, p, g.slots hs h0 h2 (h3.trans g.m3), h1⟩
theorem LP.size {ns : List Nat} {pos0 N k b : Nat} {w0 w : World} {p0 : Stb} {m : Array Value} (h : LP ns pos0 w0 p0 b N k m w) : m.size = 110 := by
  obtain ⟨c2, c3, B, o, cap, D, R, pos, p, g, h1⟩ := h.ex
  exact g.size
def blkGP : Code := .block 0 (.loop (.seq (.seq R9 (.cond (.tmp 84) .skip (.exit 0))) (.seq (.block 1 (.seq R11 R12)) R10)))
section
variable {ns : List Nat} (hns : ns.length ≤ 2000) {w0 : World} {p0 : Stb} {b : Nat}
include hns
theorem loop_gp {pos0 N : Nat} (hpos : pos0 + 100000 ≤ 800000) (hN : N ≤ 4) {m : Array Value} {w : World} (h : LP ns pos0 w0 p0 b N N m w) (h8 : m.getD 8 undef = .int .i64 ((N : Int) - 1)) (Q : Exit → Act → World → Prop)
    (hQ : ∀ a' w', a'.defers = [] → LP ns pos0 w0 p0 b N 0 a'.tmps w' → Q .normal a' w') : blkGP.wp Try.prog Q { tmps := m, defers := [] } w := by
  refine wp_block (wp_loop (fun a w => a.defers = [] ∧ ∃ k : Nat, k ≤ N ∧ a.tmps.getD 8 undef = .int .i64 ((k : Int) - 1) ∧ LP ns pos0 w0 p0 b N k a.tmps w) (fun a w => match a.tmps.getD 8 undef with
    | .int _ z => (z + 1).toNat
    | _ => 0) ⟨rfl, N, Nat.le_refl _, h8, h⟩ ?_)
  rintro ⟨m1, dd⟩ w1 ⟨hd, k, hk, h8, hL⟩
  have hd : dd = [] := hd
  subst hd
  have h8 : m1.getD 8 undef = .int .i64 ((k : Int) - 1) := h8
  refine wp_seq (wp_seq (r9_at (by omega) (by omega) hL.size h8 _ fun a1 hd1 hs1 hm0 hm2 hm3 hm8 hm84 => ?_))
  have hL1 := hL.slots hs1 hm0 hm2 hm3
  obtain ⟨m2, dd⟩ := a1
  have hd1 : dd = [] := hd1
  subst hd1
  show Code.wp _ (.cond (.tmp 84) .skip (.exit 0)) _ ⟨m2, []⟩ w1
  refine wp_cond (t := decide (0 ≤ (k : Int) - 1)) hm84 ?_
  cases k with
  | zero =>
    rw [decide_eq_false (by omega)]
    simp only [Bool.false_eq_true, if_false]
    exact wp_exit (by
      show Exit.inBlock 0 Q (.exit 0) _ _
      simp only [Exit.inBlock, if_true]
      exact hQ _ _ rfl hL1)
  | succ j =>
    rw [decide_eq_true (by omega)]
    simp only [if_true]
    refine wp_skip ?_
    have e : (((j + 1 : Nat) : Int) - 1) = (j : Int) := by omega
    rw [e] at hm8 h8
    show Code.wp _ (.seq (.block 1 (.seq R11 R12)) R10) _ ⟨m2, []⟩ w1
    refine wp_seq (wp_block (round_gp hns hpos hN (by omega) hL1 hm8 _ fun a' w' hd' h8' hL' => ?_))
    obtain ⟨m3, dd⟩ := a'
    have hd' : dd = [] := hd'
    subst hd'
    show Code.wp _ R10 _ ⟨m3, []⟩ w'
    refine r10_at (by omega) (by omega) hL'.size h8' _ fun a2 hd2 hs2 hm0 hm2 hm3 hm8' => ?_
    show (_ ∧ _) ∧ _
    refine ⟨⟨hd2, j, by omega, hm8', hL'.slots hs2 hm0 hm2 hm3⟩, ?_⟩
    simp only [hm8', h8, e]
    omega
end
end Go.Proofs.Ytbodfaghedolbaa
namespace Go.Proofs.Ytbodfaghedolbaa
open Go Go.RowKit
def gvs (st : Option Out) (d j k : Nat) : Bool := match st with
  | some o => match o.norm with
    | some s => match s.pid.lookup (d, j) with
      | some id => match s.alive.lookup id with
        | some k' => Nat.beq k k' && Nat.beq s.len 110
        | none => false
      | none => false
    | none => false
  | none => false
theorem gvs_ok {O : Out} {st : Stt} {d j k : Nat} (h : gvs (some O) d j k = true) (hn : O.norm = some st) : st.len = 110 ∧ ∃ id, ((d, j), id) ∈ st.pid ∧ (id, k) ∈ st.alive := by
  unfold gvs at h
  simp only [hn] at h
  split at h
  · rename_i id h1
    split at h
    · rename_i k' h2
      rw [Bool.and_eq_true] at h
      have h3 := Nat.eq_of_beq_eq_true h.1
      subst h3
      exact ⟨Nat.eq_of_beq_eq_true h.2, id, mem_of_lookup' h1, mem_of_lookup h2⟩
    · cases h
  · cases h
theorem gvsA : gvs (tcode (drawnT tt) lay sig (joinC rg_gpA .skip) ⟨[], [], [], 110, [], []⟩) 3 1 5 = true := by kernel_rfl
theorem rep_take {p : Stb} {w : World} {b o n cap k : Nat} {rows : List (List AC)} (h : Rep p w (.slice (some ⟨b, o, none⟩) n cap) (.sl k rows)) (j : Nat) (hj : j ≤ rows.length) (hn : rows ≠ []) : Rep p w (.slice (some ⟨b, o, none⟩) j cap) (.sl k (rows.take j)) := by
  obtain ⟨_, hk, hrows, hb, hp, hok, hcap, f, hcc, hrr⟩ := rep_inv h hn
  have hl : (rows.take j).length = j := by simp; omega
  have hget : ∀ (i x : Nat) (c : AC), ((rows.take j).getD i [])[x]? = some c → (rows.getD i [])[x]? = some c := fun i x c h => by
    simp only [List.getD, List.getElem?_take] at h ⊢
    split at h
    · exact h
    · simp at h
  rw [show Value.slice (some ⟨b, o, none⟩) j cap = Value.slice (some ⟨b, o, none⟩) (rows.take j).length cap by rw [hl]]
  refine .sl b o cap k _ f hk (fun r hr => hrows r (List.mem_of_mem_take hr)) hb ?_ hok (by rw [hl]; omega) (fun i x c h => hcc i x c (hget i x c h)) (fun i x c h => hrr i x c (hget i x c h))
  rw [hl]
  have := Nat.mul_le_mul_right k hj
  omega
section
variable {ns : List Nat} (hns : ns.length ≤ 2000) {w0 : World} {p0 : Stb} {b : Nat}
include hns
theorem goodProgram_own {pos : Nat} (hpos : pos + 101000 ≤ 800000) (hz : Zp p0 w0) (ht : TK p0 w0 (fun _ => False) b (Qr ns pos)) : Calls Try.prog 42 #[ptrB b] w0 fun e w' => ∃ v p' D R pos', e = .returned v ∧ D ∈ goodL ∧ GR R ∧ 2 ≤ R.length ∧ (∀ x ∈ R, BodyOk x) ∧ RepS p' w' v (pgC D R) ∧
    Evo (· = b) p0 w0 p' w' ∧ Zp p' w' ∧ TK p' w' (fun _ => False) b (Qr ns pos') ∧ pos' ≤ pos + 53000 ∧ ∃ D1 d1 d2 B o cap, v = .agg #[.slice D1 d1 d2, .slice (some ⟨B, o, none⟩) R.length cap] ∧ w0.heap.size ≤ B ∧ p'.ok B 5 ∧ (∀ j, p'.ok B j → j = 5) ∧ ∃ a T, w'.heap[B]? = some (.cells a T (0, 0)) ∧ o + R.length * 5 ≤ a.size := by
  refine calls_of_wp Try.func42 (c := cOf Try.f42) (by kernel_rfl) ?_
  rw [body_gp]
  have hs0 : (#[ptrB b] ++ Array.replicate (Try.f42.ntmps - (#[ptrB b] : Array Value).size) undef).size = 110 := by simp [Try.ntmps42]
  have h0 : (#[ptrB b] ++ Array.replicate (Try.f42.ntmps - (#[ptrB b] : Array Value).size) undef).getD 0 undef = ptrB b := by simp [Array.getD]
  generalize (#[ptrB b] ++ Array.replicate (Try.f42.ntmps - (#[ptrB b] : Array Value).size) undef) = m0 at hs0 h0
  have hbl := ht.lt
  have hI := inv_known (p := p0) (w := w0) (m := m0) (n := 110) (o := []) (Own := fun c => w0.heap.size ≤ c) (b := b) (q := Qr ns pos) hs0 ⟨fun t x h => (by cases h), fun t x h => (by cases h), fun t t' cs cs' c _ h => (by cases h)⟩ hz (fun c h => h) h0 (ht.own (by omega))
  obtain ⟨D, hD, i, j, k, n, hi, hj, hk, hn2, hn4, hev⟩ := gpA_val hns (p := pos) (by omega)
  obtain ⟨O, hO⟩ := Option.isSome_iff_exists.1 gpA_st
  refine piece_ok (Y := Y_gpA) (a := { tmps := m0, defers := [] }) orders_ok lay_ok vok tab_ok hev (knownL_len _ _ _) (known_ag (n := 110) (o := []) h0 (by omega) (fun t x h => by cases h) rfl) hO hI rfl _ _ fun st' a' w1 p1 σ' q' hn hout hI1 hevo hd' => ?_
  obtain ⟨rfl, hres⟩ := out_tup hout
  have s2 := res_box (resVs_get hres 0 (.cell 2 26) _ rfl rfl)
  have s3 := res_box (resVs_get hres 1 (.cell 3 26) _ rfl rfl)
  have s7 := res_int (resVs_get hres 2 (.tmp 7) _ rfl rfl)
  obtain ⟨c2, a2, T2, m2, x2, l2, z2, o2, lt2, nb2⟩ := hI1.box s2
  obtain ⟨c3, a3, T3, m3, x3, l3, z3, o3, lt3, nb3⟩ := hI1.box s3
  have m7 := hI1.int s7
  have n23 : c2 ≠ c3 := fun e => hI1.1.boxd 2 3 _ _ c2 (by omega) s2 s3 m2 (by rw [m3, e])
  have hgv := gvsA
  rw [hO] at hgv
  obtain ⟨hlen110, id, hid, hal⟩ := gvs_ok hgv hn
  obtain ⟨val, hR⟩ := hI1.1.rooms
  have hpl := (hR.place (3, 1) id hid).1
  have hrt := hR.alive id 5 hal
  have hown := hR.own id 5
  obtain ⟨l2'⟩ := a2
  obtain ⟨l3'⟩ := a3
  match l2', l2 with
  | [u0, u1], _ =>
  match l3', l3 with
  | [dv, fv], ⟨rd, rf, _⟩ =>
  have hfv : val id = fv := by
    rw [show (3, 1).1 = 3 from rfl, m3] at hpl
    have : w1.cell? ⟨c3, 1, none⟩ = some (val id) := hpl
    rw [hcell_of x3 rfl] at this
    exact (Option.some.inj this).symm
  rw [hfv] at hrt
  rcases hrt with e | ⟨B, o, len, cap, aB, TB, efv, hB, hlc, hsz, hpB, hokB⟩
  · rw [e] at rf
    exfalso
    generalize hc : AC.sl 5 (pmsC (goodR i j k)) = c at rf
    generalize hv : Value.slice none 0 0 = v at rf
    cases rf with
    | int n => cases hc
    | bool b => cases hc
    | nil a k => simp [pmsC, goodR] at hc
    | sl => cases hv
  subst efv
  have hoB : w0.heap.size ≤ B := (hown B hal (by rw [hfv]; rfl)).1
  have hgl : (goodR i j k).length = 4 := rfl
  have hne : pmsC (goodR i j k) ≠ [] := by simp [pmsC, goodR]
  obtain ⟨hlen, _, _, hBlt, hpB2, _, hcap, _⟩ := rep_inv rf hne
  have hpl4 : (pmsC (goodR i j k)).length = 4 := by simp [pmsC, hgl]
  rw [hpl4] at hlen hpB2 hcap
  subst hlen
  have n2B : c2 ≠ B := fun e => by rw [e] at z2; omega
  have n3B : c3 ≠ B := fun e => by rw [e] at z3; omega
  have hevb : Evo (· = b) p0 w0 p1 w1 := hevo.weaken fun c hc h => by
    rcases h with h | h
    · exact absurd h (by omega)
    · exact h
  obtain ⟨D1, d1, d2, rfl⟩ := rep_slice rd
  have hs1 := hI1.1.size.trans (hI1.1.len.symm.trans hlen110)
  obtain ⟨m1, dd⟩ := a'
  have hd' : dd = [] := hd'
  subst hd'
  refine wp_seq (r7_at (k := n) (n := 4) hn4 hcap (hcell_of x3 rfl) (hcell_of x3 rfl) (frozen_of_row w1 c3 1 _ T3 x3) hs1 m3 m7 _ fun a2 hd2 hs2 hm0 hm2 hm3 hm7 => ?_)
  have hevs : Evo (· = c3) p1 w1 p1 (w1.setCell ⟨c3, 1, none⟩ (.slice (some ⟨B, o, none⟩) n cap)) := evo_block z3 (by simp [World.setCell]) (fun y hy => heap_setCell_other _ _ _ _ hy) rfl rfl rfl
  have hx3 : (w1.setCell ⟨c3, 1, none⟩ (.slice (some ⟨B, o, none⟩) n cap)).heap[c3]? = some (.cells #[.slice D1 d1 d2, .slice (some ⟨B, o, none⟩) n cap] T3 (0, 0)) := heap_setCell_same _ _ _ _ _ _ x3
  have hx2 := heap_setCell_other w1 ⟨c3, 1, none⟩ c2 (.slice (some ⟨B, o, none⟩) n cap) n23
  have hxB := heap_setCell_other w1 ⟨c3, 1, none⟩ B (.slice (some ⟨B, o, none⟩) n cap) (fun e => n3B e.symm)
  have hsz1 : (w1.setCell ⟨c3, 1, none⟩ (.slice (some ⟨B, o, none⟩) n cap)).heap.size = w1.heap.size := by simp [World.setCell]
  generalize w1.setCell ⟨c3, 1, none⟩ (.slice (some ⟨B, o, none⟩) n cap) = W at *
  have hall := goodR_ok i hi j hj k hk
  rw [List.all_eq_true] at hall
  have hin : ∀ x ∈ (goodR i j k).take n, (x.ps, x.r) ∈ sigL ∧ Fit .expr [.int x.o, .int x.n, .sl 3 x.kids] := fun x hx => by
    have := hall x (List.mem_of_mem_take hx)
    simp only [Bool.and_eq_true, List.contains_iff_mem, List.isEmpty_iff, beq_iff_eq] at this
    obtain ⟨⟨⟨h1, h2⟩, h3⟩, h4⟩ := this
    rw [h2, h3, h4]
    exact ⟨h1, fit_node (by omega) (by omega) (by simp) (fun c hc => by cases hc)⟩
  have htl : ((goodR i j k).take n).length = n := by simp [hgl]; omega
  have hG : GP w0 p0 b c2 c3 B o cap D ((goodR i j k).take n) (Qr ns (pos + 5)) p1 W a2.tmps :=
    { size := hs2, m0 := hm0.trans hI1.2.1, m2 := hm2.trans m2, m3 := hm3, x2 := ⟨u0, u1, T2, hx2.trans x2⟩, x3 := ⟨D1, d1, d2, T3, by rw [htl]; exact hx3, rd.evo hevs⟩, xB := ⟨aB, TB, hxB.trans hB, by rw [htl]; omega⟩,
      rep := by
        rw [htl]
        have := (rep_take rf n (by rw [hpl4]; exact hn4) hne).evo hevs
        simpa [pmsC, List.map_take] using this
      z2 := z2, z3 := z3, n23 := n23, n2B := n2B, n3B := n3B, n2b := nb2, n3b := nb3, g2 := o2, g3 := o3, gB := hoB, gb := hbl,
      uq := fun x hx => hevo.uq B hoB hBlt x 5 hx hokB, okB := hokB, tk := ((hI1.2.2.own (Own' := (· = c3)) (fun e => nb3 e.symm)).evo hevs).own (fun h => h),
      zp := ⟨fun c hc => hI1.1.zp.1 c (by omega), fun _ _ _ => trivial⟩, evo := hevb.trans hevs (fun _ _ e => e) (fun c hc e => absurd hc (by have : c = c3 := e; omega)), hD := hD,
      hR := ⟨by omega, fun x hx => (hin x hx).1⟩, fit := fun x hx => (hin x hx).2 }
  obtain ⟨m2', dd⟩ := a2
  have hd2 : dd = [] := hd2
  subst hd2
  show Code.wp _ (.seq (.seq R8 blkGP) (.seq R13 .ret)) _ ⟨m2', []⟩ W
  refine wp_seq (wp_seq (r8_at (k := n) (by omega) hs2 hm7 _ fun a3 hd3 hs3 hm0' hm2' hm3' hm8' => ?_))
  have hL : LP ns (pos + 5) w0 p0 b n n a3.tmps W := ⟨c2, c3, B, o, cap, D, _, pos + 5, p1, hG.slots hs3 hm0' hm2' (hm3'.trans hm3), htl, by omega, fun j h1 h2 => absurd h2 (by omega)⟩
  obtain ⟨m3', dd⟩ := a3
  have hd3 : dd = [] := hd3
  subst hd3
  show blkGP.wp _ _ ⟨m3', []⟩ W
  refine loop_gp hns (by omega) hn4 hL hm8' _ fun a4 w4 hd4 hL4 => ?_
  obtain ⟨m4, dd⟩ := a4
  have hd4 : dd = [] := hd4
  subst hd4
  show Code.wp _ (.seq R13 .ret) _ ⟨m4, []⟩ w4
  clear hG hL
  obtain ⟨c2, c3, B, o, cap, D, R, pos', p4, g, hRN, hp4, hok⟩ := hL4.ex
  obtain ⟨E1, e1, e2, hE0, hE1, hrd⟩ := g.cells3
  obtain ⟨y0, y1, TT, hy⟩ := g.x2
  refine rend_at hE0 hE1 (hcell_of hy rfl) (hcell_of hy rfl) (frozen_of_row w4 c2 0 _ TT hy) (frozen_of_row w4 c2 1 _ TT hy) (fun e => g.n23 e.symm) g.size g.m2 g.m3 _ ?_
  have hev1 : Evo (· = c2) p4 w4 p4 (w4.setCell ⟨c2, 0, none⟩ (.slice E1 e1 e2)) := evo_block g.z2 (by simp [World.setCell]) (fun y hy => heap_setCell_other _ _ _ _ hy) rfl rfl rfl
  have hev2 : Evo (· = c2) p4 (w4.setCell ⟨c2, 0, none⟩ (.slice E1 e1 e2)) p4 ((w4.setCell ⟨c2, 0, none⟩ (.slice E1 e1 e2)).setCell ⟨c2, 1, none⟩ (.slice (some ⟨B, o, none⟩) R.length cap)) := evo_block g.z2 (by simp [World.setCell]) (fun y hy => heap_setCell_other _ _ _ _ hy) rfl rfl rfl
  have hev3 := hev1.trans hev2 (C := (· = c2)) (fun _ _ e => e) (fun _ _ e => e)
  refine ⟨_, p4, D, R, pos', rfl, g.hD, g.hR, by omega, fun x hx => ?_, ⟨_, rfl, hrd.evo hev3, g.rep.evo hev3, trivial⟩, g.evo.trans hev3 (fun _ _ e => e) (fun c hc e => absurd hc (by have : c = c2 := e; have := g.g2; omega)), ⟨fun c hc => g.zp.1 c (Nat.le_trans hev3.size hc), fun _ _ _ => trivial⟩, ((g.tk.own (Own' := (· = c2)) (fun e => g.n2b e.symm)).evo hev3).own (fun h => h), by omega, _, _, _, _, _, _, rfl, g.gB, g.okB, g.uq, ?_⟩
  rotate_left
  · obtain ⟨a, T, hB, hs⟩ := g.xB
    exact ⟨a, T, (hev3.block B g.ltB (fun e => g.n2B e.symm)).trans hB, hs⟩
  obtain ⟨j, hj, rfl⟩ := List.mem_iff_getElem.1 hx
  have := hok j (by omega) (by omega)
  rwa [show gP R j = R[j] by simp [gP, List.getD, hj]] at this
theorem goodProgram_any {pos : Nat} (hpos : pos + 101000 ≤ 800000) (hz : Zp p0 w0) (ht : TK p0 w0 (fun _ => False) b (Qr ns pos)) : Calls Try.prog 42 #[ptrB b] w0 fun e w' => ∃ v p' D R pos', e = .returned v ∧ D ∈ goodL ∧ GR R ∧ 2 ≤ R.length ∧ (∀ x ∈ R, BodyOk x) ∧ RepS p' w' v (pgC D R) ∧
    Evo (· = b) p0 w0 p' w' ∧ Zp p' w' ∧ TK p' w' (fun _ => False) b (Qr ns pos') ∧ pos' ≤ pos + 53000 :=
  (goodProgram_own hns hpos hz ht).mono fun e w' ⟨v, p', D, R, pos', h1, h2, h3, h4, h5, h6, h7, h8, h9, h10, _⟩ => ⟨v, p', D, R, pos', h1, h2, h3, h4, h5, h6, h7, h8, h9, h10⟩
end
end Go.Proofs.Ytbodfaghedolbaa
namespace Go.Proofs.Ytbodfaghedolbaa
open Go Go.RowKit
theorem infoExpr : (Try.prog.info? 32).map (fun i => (i.zero, i.size, i.bytes)) = some (some (.agg #[.int .i64 0, .int .i64 0, .slice none 0 0]), 3, 40) := by kernel_rfl
def CE5 : Code := Go.Code.region 5 #[{ dst := some 12, op := Go.Op.move (Go.Operand.tmp 3), type := 30, pos := "l2_program.go:43", after := #[], guard := none }, { dst := some 13, op := Go.Op.move (Go.Operand.tmp 0), type := 30, pos := "l2_program.go:43", after := #[], guard := none }, { dst := some 14, op := Go.Op.move (Go.Operand.tmp 4), type := 3, pos := "l2_program.go:43", after := #[], guard := none }, { dst := some 15, op := Go.Op.indexAddr 30 (Go.Operand.tmp 13) (Go.Operand.tmp 14), type := 0, pos := "l2_program.go:43", after := #[{ on := 1, ground := Go.Ground.data }, { on := 2, ground := Go.Ground.data }], guard := none }, { dst := some 16, op := Go.Op.load 32 (Go.Operand.tmp 15), type := 32, pos := "l2_program.go:43", after := #[{ on := 3, ground := Go.Ground.data }], guard := none }, { dst := some 17, op := Go.Op.call { callee := Go.Callee.value (Go.Operand.func 102), args := #[Go.Operand.tmp 16], argTypes := #[32] }, type := 32, pos := "l2_program.go:43", after := #[{ on := 4, ground := Go.Ground.data }], guard := none }, { dst := some 18, op := Go.Op.buildSlice 30 1 #[(0, Go.Operand.tmp 17)], type := 30, pos := "l2_program.go:43", after := #[{ on := 5, ground := Go.Ground.data }], guard := none }, { dst := some 19, op := Go.Op.call { callee := Go.Callee.builtin Go.Builtin.append, args := #[Go.Operand.tmp 12, Go.Operand.tmp 18], argTypes := #[30, 30] }, type := 30, pos := "l2_program.go:43", after := #[{ on := 0, ground := Go.Ground.data }, { on := 6, ground := Go.Ground.data }, { on := 5, ground := Go.Ground.chain }], guard := none }, { dst := some 3, op := Go.Op.assign (Go.Operand.tmp 19), type := 30, pos := "l2_program.go:43", after := #[{ on := 7, ground := Go.Ground.data }, { on := 7, ground := Go.Ground.chain }, { on := 0, ground := Go.Ground.phase }, { on := 1, ground := Go.Ground.phase }, { on := 2, ground := Go.Ground.phase }, { on := 3, ground := Go.Ground.phase }, { on := 4, ground := Go.Ground.phase }, { on := 5, ground := Go.Ground.phase }, { on := 6, ground := Go.Ground.phase }, { on := 7, ground := Go.Ground.phase }], guard := none }] false
set_option maxRecDepth 100000 in
set_option maxHeartbeats 4000000 in
theorem ce5_wp {f : Nat → Value} {b o N c k base : Nat} {v : Value} {us : List Value} {e0 e1 : Int} {A1 : Option Addr} {l1 c1 : Nat} {w : World} (hk : k < N) (hN : N ≤ 1048576)
  (h0 : w.cell? ⟨b, o + k * 3, none⟩ = some (.int .i64 e0)) (h1 : w.cell? ⟨b, o + k * 3 + 1, none⟩ = some (.int .i64 e1)) (h2 : w.cell? ⟨b, o + k * 3 + 2, none⟩ = some (.slice A1 l1 c1))
  {post : Int → Int → Option Addr → Nat → Nat → World → Prop}
  (hcall : Calls Try.prog 102 #[.agg #[.int .i64 e0, .int .i64 e1, .slice A1 l1 c1]] w fun e w' => ∃ x0 x1 A3 l3 k3, e = .returned (.agg #[.int .i64 x0, .int .i64 x1, .slice A3 l3 k3]) ∧ post x0 x1 A3 l3 k3 w' ∧ w'.ownsRow base 32 3 v k us ∧ base ≤ w'.heap.size)
  (Q : Exit → Act → World → Prop) (hQ : ∀ x0 x1 A3 l3 k3 w', post x0 x1 A3 l3 k3 w' → ∀ v' w2 (a' : Act), w2.ownsRow base 32 3 v' (k + 1) (us ++ [.int .i64 x0, .int .i64 x1, .slice A3 l3 k3]) → (w'.alloc (.cells #[.int .i64 x0, .int .i64 x1, .slice A3 l3 k3] 32)).grownBy w2 v.ownBlock → (v'.ownBlock = v.ownBlock ∨ v'.ownBlock = some (w'.heap.size + 1)) → a'.defers = [] → a'.tmps.size = 21 → a'.tmps.getD 0 undef = .slice (some ⟨b, o, none⟩) N c → a'.tmps.getD 3 undef = v' → a'.tmps.getD 4 undef = .int .i64 (k : Int) → Q .normal a' w2) :
  CE5.wp Try.prog Q { tmps := List.toArray (.slice (some ⟨b, o, none⟩) N c :: f 1 :: f 2 :: v :: .int .i64 (k : Int) :: f 5 :: f 6 :: f 7 :: f 8 :: f 9 :: f 10 :: f 11 :: f 12 :: f 13 :: f 14 :: f 15 :: f 16 :: f 17 :: f 18 :: f 19 :: f 20 :: []), defers := [] } w := by
  unfold CE5
  go_wp2_with fail
  refine hcall.mono ?_
  rintro e w' ⟨x0, x1, A3, l3, k3, rfl, hp, hown, hbase⟩
  obtain ⟨i0, hi, hz0, hz1, hz2⟩ := info_parts infoExpr
  go_wp2_with (at_builtin; refine wpList_append_own_at _ rfl (.tmp 12) (.tmp 18) 30 rfl base 32 i0 (.agg #[.int .i64 0, .int .i64 0, .slice none 0 0]) 3 40 Try.underlying30 hi hz0 hz1 hz2 rfl (by decide) _ _ _ rfl (hown.alloc _) ⟨w'.heap.size, 0, none⟩ 1 1 [.int .i64 x0, .int .i64 x1, .slice A3 l3 k3] rfl rfl ?c1 ?c2 ?c3 ?c4 ?c5 ?_)
  case c1 => exact World.news_of_block (fr := (0, 0)) (alloc_last _ _ _ rfl)
  case c2 => intro u hu; simp at hu; rcases hu with rfl | rfl | rfl <;> rfl
  case c3 => unfold maxLen; omega
  case c4 => omega
  case c5 => simp; omega
  intro v' w5 hown5 hg5 _ hob5
  go_wp2
  exact hQ _ _ _ _ _ _ hp _ _ _ hown5 hg5 (by simpa using hob5) rfl rfl rfl rfl rfl
set_option maxRecDepth 100000 in
theorem ce_lit {m : Array Value} (h : m.size = 21) : m = List.toArray (m.getD 0 undef :: m.getD 1 undef :: m.getD 2 undef :: m.getD 3 undef :: m.getD 4 undef :: m.getD 5 undef :: m.getD 6 undef :: m.getD 7 undef :: m.getD 8 undef :: m.getD 9 undef :: m.getD 10 undef :: m.getD 11 undef :: m.getD 12 undef :: m.getD 13 undef :: m.getD 14 undef :: m.getD 15 undef :: m.getD 16 undef :: m.getD 17 undef :: m.getD 18 undef :: m.getD 19 undef :: m.getD 20 undef :: []) := by
  apply Array.ext'
  have h1 : m.toList = (List.range 21).map (fun i => m.getD i undef) := by
    apply List.ext_getElem
    · simp [h]
    · intro i h1 h2
      simp only [Array.length_toList] at h1
      simp [Array.getD, h1]
  exact h1.trans rfl
def CE3 : Code := Go.Code.region 3 #[{ dst := some 6, op := Go.Op.move (Go.Operand.tmp 4), type := 3, pos := "l2_program.go:42", after := #[], guard := none }, { dst := some 7, op := Go.Op.move (Go.Operand.tmp 0), type := 30, pos := "l2_program.go:42", after := #[], guard := none }, { dst := some 8, op := Go.Op.call { callee := Go.Callee.builtin Go.Builtin.len, args := #[Go.Operand.tmp 7], argTypes := #[30] }, type := 3, pos := "l2_program.go:42", after := #[{ on := 1, ground := Go.Ground.data }], guard := none }, { dst := some 9, op := Go.Op.binOp Go.BinOp.lss 3 (Go.Operand.tmp 6) (Go.Operand.tmp 8) 3, type := 4, pos := "l2_program.go:42", after := #[{ on := 0, ground := Go.Ground.data }, { on := 2, ground := Go.Ground.data }], guard := none }] false
def CE4 : Code := Go.Code.region 4 #[{ dst := some 10, op := Go.Op.move (Go.Operand.tmp 4), type := 3, pos := "l2_program.go:42", after := #[], guard := none }, { dst := some 11, op := Go.Op.binOp Go.BinOp.add 3 (Go.Operand.tmp 10) (Go.Operand.const (Go.Value.int Go.IntKind.i64 1)) 3, type := 3, pos := "l2_program.go:42", after := #[{ on := 0, ground := Go.Ground.data }], guard := none }, { dst := some 4, op := Go.Op.assign (Go.Operand.tmp 11), type := 3, pos := "l2_program.go:42", after := #[{ on := 1, ground := Go.Ground.data }, { on := 0, ground := Go.Ground.phase }, { on := 1, ground := Go.Ground.phase }], guard := none }] false
theorem ce3_at {m : Array Value} {A : Option Addr} {N c k : Nat} {w : World} (hk : k ≤ N) (hN : N ≤ 1048576) (hs : m.size = 21) (m0 : m.getD 0 undef = .slice A N c) (m4 : m.getD 4 undef = .int .i64 (k : Int)) (Q : Exit → Act → World → Prop)
  (hQ : ∀ a' : Act, a'.defers = [] → a'.tmps.size = 21 → a'.tmps.getD 0 undef = .slice A N c → a'.tmps.getD 3 undef = m.getD 3 undef → a'.tmps.getD 4 undef = .int .i64 (k : Int) → a'.tmps.getD 9 undef = .bool (decide (k < N)) → Q .normal a' w) :
  CE3.wp Try.prog Q { tmps := m, defers := [] } w := by
  have e := ce_lit hs
  rw [m0, m4] at e
  rw [e]
  generalize m.getD 3 undef = v3 at *
  unfold CE3
  go_wp2
  exact hQ _ rfl rfl rfl rfl rfl rfl
theorem ce4_at {m : Array Value} {A : Option Addr} {N c k : Nat} {w : World} (hk : k ≤ 1048576) (hs : m.size = 21) (m0 : m.getD 0 undef = .slice A N c) (m4 : m.getD 4 undef = .int .i64 (k : Int)) (Q : Exit → Act → World → Prop)
  (hQ : ∀ a' : Act, a'.defers = [] → a'.tmps.size = 21 → a'.tmps.getD 0 undef = .slice A N c → a'.tmps.getD 3 undef = m.getD 3 undef → a'.tmps.getD 4 undef = .int .i64 ((k + 1 : Nat) : Int) → Q .normal a' w) :
  CE4.wp Try.prog Q { tmps := m, defers := [] } w := by
  have e := ce_lit hs
  rw [m0, m4] at e
  rw [e]
  generalize m.getD 3 undef = v3 at *
  unfold CE4
  go_wp2
  exact hQ _ rfl rfl rfl rfl (by simp)
theorem ce5_at {m : Array Value} {b o N c k base : Nat} {us : List Value} {e0 e1 : Int} {A1 : Option Addr} {l1 c1 : Nat} {w : World} (hk : k < N) (hN : N ≤ 1048576)
  (h0 : w.cell? ⟨b, o + k * 3, none⟩ = some (.int .i64 e0)) (h1 : w.cell? ⟨b, o + k * 3 + 1, none⟩ = some (.int .i64 e1)) (h2 : w.cell? ⟨b, o + k * 3 + 2, none⟩ = some (.slice A1 l1 c1))
  {post : Int → Int → Option Addr → Nat → Nat → World → Prop}
  (hcall : Calls Try.prog 102 #[.agg #[.int .i64 e0, .int .i64 e1, .slice A1 l1 c1]] w fun e w' => ∃ x0 x1 A3 l3 k3, e = .returned (.agg #[.int .i64 x0, .int .i64 x1, .slice A3 l3 k3]) ∧ post x0 x1 A3 l3 k3 w' ∧ w'.ownsRow base 32 3 (m.getD 3 undef) k us ∧ base ≤ w'.heap.size)
  (hs : m.size = 21) (m0 : m.getD 0 undef = .slice (some ⟨b, o, none⟩) N c) (m4 : m.getD 4 undef = .int .i64 (k : Int))
  (Q : Exit → Act → World → Prop) (hQ : ∀ x0 x1 A3 l3 k3 w', post x0 x1 A3 l3 k3 w' → ∀ v' w2 (a' : Act), w2.ownsRow base 32 3 v' (k + 1) (us ++ [.int .i64 x0, .int .i64 x1, .slice A3 l3 k3]) → (w'.alloc (.cells #[.int .i64 x0, .int .i64 x1, .slice A3 l3 k3] 32)).grownBy w2 (m.getD 3 undef).ownBlock → (v'.ownBlock = (m.getD 3 undef).ownBlock ∨ v'.ownBlock = some (w'.heap.size + 1)) → a'.defers = [] → a'.tmps.size = 21 → a'.tmps.getD 0 undef = .slice (some ⟨b, o, none⟩) N c → a'.tmps.getD 3 undef = v' → a'.tmps.getD 4 undef = .int .i64 (k : Int) → Q .normal a' w2) :
  CE5.wp Try.prog Q { tmps := m, defers := [] } w := by
  have e := ce_lit hs
  rw [m0, m4] at e
  rw [e]
  exact ce5_wp (f := fun i => m.getD i undef) hk hN h0 h1 h2 hcall Q hQ
end Go.Proofs.Ytbodfaghedolbaa

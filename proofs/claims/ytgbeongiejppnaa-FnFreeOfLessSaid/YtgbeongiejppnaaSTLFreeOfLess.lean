/- What this law needs beside: its draw, its rest over values, its models. -/
import Derived.Test.YtgbeongiejppnaaS42
import Derived.StillTailTactics
import Derived.Deep.RegionHeld3
import Derived.WalkKit
set_option linter.unusedVariables false
set_option linter.unusedSimpArgs false
namespace Go.Proofs.Ytgbeongiejppnaa
open Go Go.RowKit
theorem rep_lits {p : Stb} {w : World} (T : TypeId) (xs : List Int) : Rep (upP p w.heap.size xs.length 1) (w.alloc (.cells (xs.map (Value.int .i64)).toArray T)) (.slice (some ⟨w.heap.size, 0, none⟩) xs.length xs.length) (.sl 1 (intsC xs)) := by
  have hl : (intsC xs).length = xs.length := intsC_len xs
  have hget : ∀ (i j : Nat) (c : AC), ((intsC xs).getD i [])[j]? = some c → i < xs.length ∧ j = 0 ∧ c = .int (xs.getD i 0) := fun i j c h => by
    rcases Nat.lt_or_ge i xs.length with hi | hi
    · have e : (intsC xs).getD i [] = [.int (xs.getD i 0)] := by simp [intsC, List.getD, hi]
      rw [e] at h
      have hj := (List.getElem?_eq_some_iff.1 h).1
      simp at hj
      subst hj
      simp at h
      exact ⟨hi, rfl, by rw [← h]; simp [List.getD]⟩
    · have e : (intsC xs).getD i [] = [] := by simp [List.getD, List.getElem?_eq_none (show (intsC xs).length ≤ i by omega)]
      rw [e] at h
      simp at h
  rw [show Value.slice (some ⟨w.heap.size, 0, none⟩) xs.length xs.length = Value.slice (some ⟨w.heap.size, 0, none⟩) (intsC xs).length xs.length by rw [hl]]
  refine .sl w.heap.size 0 xs.length 1 _ (fun i _ => .int .i64 (xs.getD i 0)) (by omega) (fun r hr => ?_) (by simp) (by rw [hl, upP_f, if_pos rfl]; omega) (upP_ok_self _ _ _ _) (by omega) (fun i j c h => ?_) (fun i j c h => ?_)
  · obtain ⟨x, _, rfl⟩ := List.mem_map.1 hr
    rfl
  · obtain ⟨hi, rfl, rfl⟩ := hget i j c h
    rw [Nat.zero_add, Nat.mul_one, Nat.add_zero, cell_of_row _ _ _ _ _ _ (heap_alloc_new w _)]
    simp [hi, List.getD]
  · obtain ⟨hi, rfl, rfl⟩ := hget i j c h
    exact .int _
section
variable {ns : List Nat} (hns : ns.length ≤ 2000)
include hns
theorem one_calls {p0 : Stb} {w0 : World} {b pos : Nat} (hp : pos + 10 ≤ 800000) (T : TypeId) {xs : List Int} (hx : xs ≠ []) (hl : xs.length ≤ 100) (hz : Zp p0 w0) (ht : TK p0 w0 (fun _ => False) b (Qr ns pos)) :
    ∃ y ∈ xs, Calls Try.prog 61 #[ptrB b, .slice (some ⟨w0.heap.size, 0, none⟩) xs.length xs.length] (w0.drew.alloc (.cells (xs.map (Value.int .i64)).toArray T)) fun e w' => e = .returned (.int .i64 y) ∧ ∃ p', Evo (· = b) p0 w0 p' w' ∧ Zp p' w' ∧ TK p' w' (fun _ => False) b (Qr ns (pos + 1)) := by
  obtain ⟨y, hy, h1⟩ := t_one hns (p := pos) (by omega) hx (by omega)
  have hdr : Evo (fun _ => False) p0 w0 p0 w0.drew := (Evo.refl _ _ _).drew
  have hea : Evo (fun _ => False) p0 w0.drew (upP p0 w0.drew.heap.size xs.length 1) (w0.drew.alloc (.cells (xs.map (Value.int .i64)).toArray T)) := evo_alloc _ _ _ 1
  have hE := hdr.trans hea (C := fun _ => False) (fun _ _ h => h) (fun _ _ h => h)
  have hr := rep_lits (p := p0) (w := w0.drew) T xs
  have hz1 : Zp (upP p0 w0.drew.heap.size xs.length 1) (w0.drew.alloc (.cells (xs.map (Value.int .i64)).toArray T)) := ⟨fun c hc => by
    simp at hc
    rw [upP_f, if_neg (by have : w0.drew.heap.size = w0.heap.size := rfl; omega)]
    exact hz.1 c (by omega), fun _ _ _ => trivial⟩
  refine ⟨y, hy, (((tok 61 (by kernel_rfl)).2 (Qr ns pos) [.cell (.sl 1 (intsC xs))] _ h1).2 _ _ b [.slice (some ⟨w0.heap.size, 0, none⟩) xs.length xs.length] ⟨hr, trivial⟩ hz1 (ht.evo hE)).mono ?_⟩
  rintro e w' ⟨v, rfl, p', hsr, _, _, hev', hz', ht', _⟩
  have hsr : Rep p' w' v (.int y) := hsr
  cases hsr
  exact ⟨rfl, p', (hE.weaken (fun _ _ h => h.elim)).trans hev' (fun _ _ e => e) (fun _ _ e => e), hz', ht'⟩
end
set_option maxHeartbeats 4000000 in
theorem drawFreeOf_any {A : Option Addr} {n c : Nat} {w : World} (h : Code_ w A n c) :
    Calls Try.prog 36 #[.slice A n c] w fun e w' => ∃ v y, e = .returned (.tuple #[v, .int .i64 y]) ∧ (y ∈ ([1, 2, 3, 0, 5, -1, 99] : List Int)) ∧ DrawnE w v w' := by
  have hnr := newReader_any (B := w.heap.size) (w := w.alloc (.cells #[.int .i64 0, .int .i64 0, .slice none 0 0] 38)) (by simp) (CodeB.alloc h (Nat.le_refl _) _)
  have HR := Lib.hid hnr
  clear hnr h
  go_enter Try.func36, Try.ntmps36
  go_wp2_with fail
  refine HR.out.mono ?_
  rintro e w2 ⟨rfl, N, ns, hns, ht, hs2, hev⟩
  have hev0 := (stab0_alloc w.heap.size N w (.cells #[.int .i64 0, .int .i64 0, .slice none 0 0] 38) (fun _ => False)).trans (hev (fun _ => False)) (C := fun _ => False) (fun _ _ h => h) (fun _ _ h => h)
  have hx2 := ((hev (fun _ => False)).block w.heap.size (by simp) (fun h => h)).trans (heap_alloc_new w (.cells #[.int .i64 0, .int .i64 0, .slice none 0 0] 38))
  have hs1 : (w.alloc (.cells #[.int .i64 0, .int .i64 0, .slice none 0 0] 38)).heap.size = w.heap.size + 1 := by simp
  rw [hs1] at ht hs2 ⊢
  have hse := someExpr_any hns (by omega) (stab0_zp (by omega) N) ht
  have HS := Lib.hid hse
  have HE := Lib.hid hev0
  clear hse hev0 hev HR ht
  go_wp2_with fail
  refine HS.out.mono ?_
  rintro e w3 ⟨v, p3, o, n3, kids, pos, rfl, hsr, hf, hsz, hev3, hz3, ht3, hpos⟩
  obtain ⟨arr, rfl, hla⟩ : ∃ arr, v = .agg arr ∧ RepL p3 w3 arr.toList [.int o, .int n3, .sl 3 kids] := hsr
  obtain ⟨ls⟩ := arr
  match ls, hla with
  | [x0, x1, x2], ⟨t0, t1, t2, _⟩ =>
  cases t0
  cases t1
  obtain ⟨A3, l3, d3, rfl⟩ := rep_slice t2
  have hne : w.heap.size ≠ w.heap.size + 1 := by omega
  have hb3 := ht3.lt
  have hx3 := (hev3.block w.heap.size (by omega) hne).trans hx2
  have hp3 := (hev3.same w.heap.size (by omega) hne).trans (stab0_at (Nat.le_refl _))
  have hea := evo_alloc (p := p3) (w := w3) (.cells #[.int .i64 o, .int .i64 n3, .slice A3 l3 d3] 38) 0 (fun _ => False)
  have hz4 : Zp (upP p3 w3.heap.size 0) (w3.alloc (.cells #[.int .i64 o, .int .i64 n3, .slice A3 l3 d3] 38)) := ⟨fun c hc => by
    rw [upP_f]
    split
    · rfl
    · exact hz3.1 c (by simp at hc; omega), fun _ _ _ => trivial⟩
  have hx4 := (hea.block w.heap.size (by omega) (fun h => h)).trans hx3
  have hp4 := (hea.same w.heap.size (by omega) (fun h => h)).trans hp3
  have hx5 := heap_alloc_new w3 (.cells #[.int .i64 o, .int .i64 n3, .slice A3 l3 d3] 38)
  have hs4 : (w3.alloc (.cells #[.int .i64 o, .int .i64 n3, .slice A3 l3 d3] 38)).heap.size = w3.heap.size + 1 := by simp
  have hE4 := (HE.out.trans hev3 (C := fun _ => False) (fun _ _ h => h) (fun q hq e => absurd hq (by have : q = w.heap.size + 1 := e; omega))).trans hea (C := fun _ => False) (fun _ _ h => h) (fun _ _ h => h)
  have t4 := t2.evo hea
  have ht4 := ht3.evo hea
  have c0 : (w3.alloc (.cells #[.int .i64 o, .int .i64 n3, .slice A3 l3 d3] 38)).cell? ⟨w3.heap.size, 0, none⟩ = some (.int .i64 o) := hcell_of (j := 0) hx5 rfl
  have c1 : (w3.alloc (.cells #[.int .i64 o, .int .i64 n3, .slice A3 l3 d3] 38)).cell? ⟨w3.heap.size, 1, none⟩ = some (.int .i64 n3) := hcell_of (j := 1) hx5 rfl
  have c2 : (w3.alloc (.cells #[.int .i64 o, .int .i64 n3, .slice A3 l3 d3] 38)).cell? ⟨w3.heap.size, 2, none⟩ = some (.slice A3 l3 d3) := hcell_of (j := 2) hx5 rfl
  have n1 : w3.heap.size ≠ w.heap.size + 1 := by omega
  have n2 : w.heap.size ≠ w3.heap.size := by omega
  clear hea HS HE t2 ht3 hz3 hev3 hx2 hx3 hp3 hs2 hs1
  go_wp2_with fail
  have h5lt : w3.heap.size < (w3.alloc (.cells #[.int .i64 o, .int .i64 n3, .slice A3 l3 d3] 38)).heap.size := by omega
  have h2lt : w.heap.size < (w3.alloc (.cells #[.int .i64 o, .int .i64 n3, .slice A3 l3 d3] 38)).heap.size := by omega
  clear hs4
  generalize w3.alloc (.cells #[.int .i64 o, .int .i64 n3, .slice A3 l3 d3] 38) = W at *
  generalize upP p3 w3.heap.size 0 = p4 at *
  generalize w3.heap.size = c5 at *
  obtain ⟨y, hy, hone⟩ := one_calls hns (pos := pos) (by omega) 3 (xs := [1, 2, 3, 0, 5, -1, 99]) (by simp) (by simp) hz4 ht4
  have CK : Hid (Calls Try.prog 61 #[.pointer (some ⟨w.heap.size + 1, 0, none⟩), .slice (some ⟨W.heap.size, 0, none⟩) 7 7] (W.drew.alloc (.cells #[.int .i64 1, .int .i64 2, .int .i64 3, .int .i64 0, .int .i64 5, .int .i64 (-1), .int .i64 99] 3)) fun e w' => e = .returned (.int .i64 y) ∧ ∃ p', Evo (· = w.heap.size + 1) p4 W p' w' ∧ Zp p' w') := Lib.hid (by
    refine Calls.mono hone ?_
    rintro e w' ⟨h1, p', h2, h3, _⟩
    exact ⟨h1, p', h2, h3⟩)
  have H4 := Lib.hid hE4
  have H5 := Lib.hid t4
  clear hone hE4 t4 hz4 ht4
  go_region_held3 (fun w' => w'.cell? ⟨c5, 0, none⟩ = some (.int .i64 o) ∧ w'.cell? ⟨c5, 1, none⟩ = some (.int .i64 n3) ∧ w'.cell? ⟨c5, 2, none⟩ = some (.slice A3 l3 d3))
    (first | go_keep | (exact ⟨by assumption, by assumption, by assumption⟩) | (exact ⟨(World.cell?_alloc_lt _ _ _ h5lt).trans c0, (World.cell?_alloc_lt _ _ _ h5lt).trans c1, (World.cell?_alloc_lt _ _ _ h5lt).trans c2⟩) | (exact ⟨by rw [World.cell?_setCell_far _ _ _ _ n2, World.cell?_setCell_far _ _ _ _ n2, World.cell?_setCell_far _ _ _ _ n2]; assumption, by rw [World.cell?_setCell_far _ _ _ _ n2, World.cell?_setCell_far _ _ _ _ n2, World.cell?_setCell_far _ _ _ _ n2]; assumption, by rw [World.cell?_setCell_far _ _ _ _ n2, World.cell?_setCell_far _ _ _ _ n2, World.cell?_setCell_far _ _ _ _ n2]; assumption⟩))
    (first | (go_at_call 61; refine CK.out.mono ?_; rintro e w' ⟨rfl, p', hev', hz'⟩; have q2 := (hev'.block _ h2lt hne).trans hx4; have e0 : w'.cell? ⟨c5, 0, none⟩ = some (.int .i64 o) := (World.cell?_of_block (hev'.block _ h5lt n1)).trans c0; have e1 : w'.cell? ⟨c5, 1, none⟩ = some (.int .i64 n3) := (World.cell?_of_block (hev'.block _ h5lt n1)).trans c1; have e2 : w'.cell? ⟨c5, 2, none⟩ = some (.slice A3 l3 d3) := (World.cell?_of_block (hev'.block _ h5lt n1)).trans c2; have k0 : w'.cell? ⟨w.heap.size, 0, none⟩ = some (.int .i64 0) := hcell_of (j := 0) q2 rfl; have k1 : w'.cell? ⟨w.heap.size, 1, none⟩ = some (.int .i64 0) := hcell_of (j := 1) q2 rfl; have k2 : w'.cell? ⟨w.heap.size, 2, none⟩ = some (.slice none 0 0) := hcell_of (j := 2) q2 rfl; have k3 := frozen_of_row w' _ 0 _ _ q2; have k4 := frozen_of_row w' _ 1 _ _ q2; have k5 := frozen_of_row w' _ 2 _ _ q2))
  have hp5 := (hev'.same _ h2lt hne).trans hp4
  have g1 := heap_setCell_same w' w.heap.size 0 _ _ (.int .i64 o) q2
  have g2 := heap_setCell_same _ w.heap.size 1 _ _ (.int .i64 n3) g1
  have g3 := heap_setCell_same _ w.heap.size 2 _ _ (.slice A3 l3 d3) g2
  have y0 := hcell_of (j := 0) g3 rfl
  have y1 := hcell_of (j := 1) g3 rfl
  have y2 := hcell_of (j := 2) g3 rfl
  have hevc : Evo (· = w.heap.size) p' w' p' (put3 w' w.heap.size 0 (.int .i64 o) (.int .i64 n3) (.slice A3 l3 d3)) := put3_evo p' hp5
  have hfin : DrawnE w (.agg #[.int .i64 o, .int .i64 n3, .slice A3 l3 d3]) (put3 w' w.heap.size 0 (.int .i64 o) (.int .i64 n3) (.slice A3 l3 d3)) :=
    ⟨N, p', o, n3, A3, l3, d3, kids, rfl, (H5.out.evo hev').evo hevc, hf, hsz, (H4.out.trans hev' (C := fun _ => False) (fun _ _ h => h) (fun q hq e => absurd hq (by have : q = w.heap.size + 1 := e; omega))).trans hevc (fun _ _ h => h) (fun q hq e => absurd hq (by have : q = w.heap.size := e; omega)), ⟨fun y hy => hz'.1 y (Nat.le_trans hevc.size hy), fun _ _ _ => trivial⟩⟩
  have HF := Lib.hid hfin
  clear hfin hevc g1 g2 g3 q2 hev' CK H4 H5 hx4 hx5 c0 c1 c2 e0 e1 e2 k0 k1 k2 k3 k4 k5
  go_wp2_with fail
  refine bodyPost_ret (v := .tuple #[.agg #[.int .i64 o, .int .i64 n3, .slice A3 l3 d3], .int .i64 y]) ?_ rfl ⟨_, y, rfl, hy, HF.out⟩
  simp [results, Try.results36, go_sem, y0, y1, y2]
end Go.Proofs.Ytgbeongiejppnaa
set_option maxRecDepth 100000
namespace Go.Proofs.Ytgbeongiejppnaa
open Go Go.RowKit
noncomputable def X_laws_FnFreeOfLess : Ctx := { P := Try.prog, L := lay, F := sig.has, E := ext, fn := Try.f13, lv := [], jv := [], tp := [] }
theorem laws_FnFreeOfLess_rest {n1 : Int} {n2 : Int} {l3 : List (List AC)} {n4 : Int} {r : AV} (h : ( callR (impl_FreeOf [.agg [.int n1, .int n2, .sl 3 l3], .cell (.int n4)]) false [(false, [.sl 1 []])] fun l5 => callR (spec_FreeOf [.agg [.int n1, .int n2, .sl 3 l3], .cell (.int n4)]) false [(false, [.sl 1 []])] fun l6 => callR (laws_equalInts [.cell (.sl 1 l5), .cell (.sl 1 l6)]) false [(false, [.bool false])] fun b7 => bif (!b7) then callR (spec_FreeOf [.agg [.int n1, .int n2, .sl 3 l3], .cell (.int n4)]) false [(false, [.sl 1 []])] fun l8 => callR (laws_equalInts [.cell (.sl 1 l5), .cell (.sl 1 l8)]) false [(false, [.bool false])] fun b9 => some (.v (.cell (.bool b9))) else bif (((l5.length : Nat) : Int) == 0) then callR (spec_FreeOf [.agg [.int n1, .int n2, .sl 3 l3], .cell (.int n4)]) false [(false, [.sl 1 []])] fun l10 => callR (laws_equalInts [.cell (.sl 1 l5), .cell (.sl 1 l10)]) false [(false, [.bool false])] fun b11 => some (.v (.cell (.bool b11))) else callR (impl_FreeOf [.agg [.int n1, .int n2, .sl 3 l3], .cell (.int (wrapI (n4 - 1)))]) false [(false, [.sl 1 []])] fun l12 => callR (laws_isIn [.cell (.sl 1 l5), .cell (.int (wrapI (n4 - 1)))]) false [(false, [.bool false])] fun b13 => bif b13 then bif (((l5.length : Nat) : Int) == (wrapI (((l12.length : Nat) : Int) + 1))) then cutR l5 0 ((l12.length : Nat) : Int) fun l14 => callR (laws_equalInts [.cell (.sl 1 l12), .cell (.sl 1 l14)]) false [(false, [.bool false])] fun b15 => some (.v (.cell (.bool b15))) else some (.v (.cell (.bool false))) else callR (laws_equalInts [.cell (.sl 1 l12), .cell (.sl 1 l5)]) false [(false, [.bool false])] fun b16 => some (.v (.cell (.bool b16))) : Option AV) = some r) : evM X_laws_FnFreeOfLess 100000 (.run (dropS 3 (cOf Try.f13))) [] [(3, .box [.int n1, .int n2, .sl 3 l3]), (4, .v (.cell (.int n4)))] = some r := Eq.trans (by kernel_rfl) h
theorem laws_FnFreeOfLess_st : (tcode drawn lay sig (dropS 3 (cOf Try.f13)) (stM 59)).isSome = true := by kernel_rfl
def FnFreeOfLessR0 : Code := Go.Code.region 0 #[{ dst := some 2, op := Go.Op.assign (Go.Operand.const (Go.Value.bool false)), type := 4, pos := "laws.go:747", after := #[], guard := none }] false
def FnFreeOfLessR1 : Code := Go.Code.region 1 #[{ dst := some 7, op := Go.Op.move (Go.Operand.tmp 0), type := 22, pos := "laws.go:748", after := #[], guard := none }, { dst := some 8, op := Go.Op.call { callee := Go.Callee.builtin Go.Builtin.len, args := #[Go.Operand.tmp 7], argTypes := #[22] }, type := 3, pos := "laws.go:748", after := #[{ on := 0, ground := Go.Ground.data }], guard := none }, { dst := some 9, op := Go.Op.binOp Go.BinOp.gtr 3 (Go.Operand.tmp 8) (Go.Operand.const (Go.Value.int Go.IntKind.i64 1048576)) 3, type := 4, pos := "laws.go:748", after := #[{ on := 1, ground := Go.Ground.data }], guard := none }] false
def FnFreeOfLessR2 : Code := Go.Code.region 2 #[{ dst := some 2, op := Go.Op.assign (Go.Operand.const (Go.Value.bool true)), type := 4, pos := "laws.go:749", after := #[], guard := none }] false
def FnFreeOfLessR3 : Code := Go.Code.region 3 #[{ dst := some 11, op := Go.Op.move (Go.Operand.tmp 0), type := 22, pos := "laws.go:751", after := #[], guard := none }, { dst := some 12, op := Go.Op.call { callee := Go.Callee.value (Go.Operand.func 36), args := #[Go.Operand.tmp 11], argTypes := #[22] }, type := 57, pos := "laws.go:751", after := #[{ on := 0, ground := Go.Ground.data }], guard := none }, { dst := some 10, op := Go.Op.move (Go.Operand.tmp 12), type := 57, pos := "laws.go:751", after := #[{ on := 1, ground := Go.Ground.data }], guard := none }, { dst := some 13, op := Go.Op.extract (Go.Operand.tmp 10) 0, type := 38, pos := "laws.go:751", after := #[{ on := 2, ground := Go.Ground.data }], guard := none }, { dst := some 14, op := Go.Op.extract (Go.Operand.tmp 10) 1, type := 3, pos := "laws.go:751", after := #[{ on := 2, ground := Go.Ground.data }, { on := 6, ground := Go.Ground.gcOnly Go.Departure.lateStores }], guard := none }, { dst := some 3, op := Go.Op.alloc 38, type := 0, pos := "laws.go:751", after := #[], guard := none }, { dst := none, op := Go.Op.store 38 (Go.Operand.tmp 3) (Go.Operand.tmp 13), type := 0, pos := "laws.go:751", after := #[{ on := 5, ground := Go.Ground.data }, { on := 3, ground := Go.Ground.data }, { on := 1, ground := Go.Ground.chain }, { on := 0, ground := Go.Ground.phase }, { on := 1, ground := Go.Ground.phase }, { on := 2, ground := Go.Ground.phase }, { on := 3, ground := Go.Ground.phase }, { on := 4, ground := Go.Ground.textOnly Go.Departure.lateStores }, { on := 5, ground := Go.Ground.phase }], guard := none }, { dst := some 4, op := Go.Op.assign (Go.Operand.tmp 14), type := 3, pos := "laws.go:751", after := #[{ on := 4, ground := Go.Ground.data }, { on := 6, ground := Go.Ground.chain }, { on := 0, ground := Go.Ground.phase }, { on := 1, ground := Go.Ground.phase }, { on := 2, ground := Go.Ground.phase }, { on := 3, ground := Go.Ground.phase }, { on := 4, ground := Go.Ground.phase }, { on := 5, ground := Go.Ground.phase }, { on := 6, ground := Go.Ground.phase }], guard := none }] false
theorem fnFreeOfLess_body : cOf Try.f13 = .seq FnFreeOfLessR0 (.seq (.seq FnFreeOfLessR1 (.cond (.tmp 9) (.seq FnFreeOfLessR2 .ret) .skip)) (.seq FnFreeOfLessR3 (dropS 3 (cOf Try.f13)))) := by kernel_rfl
theorem fnFreeOfLess_lit {m : Array Value} (h : m.size = 59) : m = List.toArray (m.getD 0 undef :: m.getD 1 undef :: m.getD 2 undef :: m.getD 3 undef :: m.getD 4 undef :: m.getD 5 undef :: m.getD 6 undef :: m.getD 7 undef :: m.getD 8 undef :: m.getD 9 undef :: m.getD 10 undef :: m.getD 11 undef :: m.getD 12 undef :: m.getD 13 undef :: m.getD 14 undef :: m.getD 15 undef :: m.getD 16 undef :: m.getD 17 undef :: m.getD 18 undef :: m.getD 19 undef :: m.getD 20 undef :: m.getD 21 undef :: m.getD 22 undef :: m.getD 23 undef :: m.getD 24 undef :: m.getD 25 undef :: m.getD 26 undef :: m.getD 27 undef :: m.getD 28 undef :: m.getD 29 undef :: m.getD 30 undef :: m.getD 31 undef :: m.getD 32 undef :: m.getD 33 undef :: m.getD 34 undef :: m.getD 35 undef :: m.getD 36 undef :: m.getD 37 undef :: m.getD 38 undef :: m.getD 39 undef :: m.getD 40 undef :: m.getD 41 undef :: m.getD 42 undef :: m.getD 43 undef :: m.getD 44 undef :: m.getD 45 undef :: m.getD 46 undef :: m.getD 47 undef :: m.getD 48 undef :: m.getD 49 undef :: m.getD 50 undef :: m.getD 51 undef :: m.getD 52 undef :: m.getD 53 undef :: m.getD 54 undef :: m.getD 55 undef :: m.getD 56 undef :: m.getD 57 undef :: m.getD 58 undef :: []) := by
  apply Array.ext'
  have h1 : m.toList = (List.range 59).map (fun i => m.getD i undef) := by
    apply List.ext_getElem
    · simp [h]
    · intro i h1 h2
      simp only [Array.length_toList] at h1
      simp [Array.getD, h1]
  exact h1.trans rfl
set_option maxHeartbeats 4000000 in
theorem fnFreeOfLess0_wp {f : Nat → Value} {A : Option Addr} {n c : Nat} {w : World}  (Q : Exit → Act → World → Prop) (hQ : ∀ a' : Act, a'.defers = [] → a'.tmps.size = 59 → a'.tmps.getD 0 undef = .slice A n c → Q .normal a' (w)) :
  FnFreeOfLessR0.wp Try.prog Q { tmps := List.toArray (.slice A n c :: f 1 :: f 2 :: f 3 :: f 4 :: f 5 :: f 6 :: f 7 :: f 8 :: f 9 :: f 10 :: f 11 :: f 12 :: f 13 :: f 14 :: f 15 :: f 16 :: f 17 :: f 18 :: f 19 :: f 20 :: f 21 :: f 22 :: f 23 :: f 24 :: f 25 :: f 26 :: f 27 :: f 28 :: f 29 :: f 30 :: f 31 :: f 32 :: f 33 :: f 34 :: f 35 :: f 36 :: f 37 :: f 38 :: f 39 :: f 40 :: f 41 :: f 42 :: f 43 :: f 44 :: f 45 :: f 46 :: f 47 :: f 48 :: f 49 :: f 50 :: f 51 :: f 52 :: f 53 :: f 54 :: f 55 :: f 56 :: f 57 :: f 58 :: []), defers := [] } w := by
  unfold FnFreeOfLessR0
  go_wp2
  exact hQ _ rfl rfl rfl
theorem fnFreeOfLess0_at {m : Array Value} {A : Option Addr} {n c : Nat} {w : World}  (hs : m.size = 59) (m0 : m.getD 0 undef = .slice A n c) (Q : Exit → Act → World → Prop) (hQ : ∀ a' : Act, a'.defers = [] → a'.tmps.size = 59 → a'.tmps.getD 0 undef = .slice A n c → Q .normal a' (w)) :
  FnFreeOfLessR0.wp Try.prog Q { tmps := m, defers := [] } w := by
  have e := fnFreeOfLess_lit hs
  rw [m0] at e
  rw [e]
  exact fnFreeOfLess0_wp (f := fun i => m.getD i undef)  Q hQ
set_option maxHeartbeats 4000000 in
theorem fnFreeOfLess1_wp {f : Nat → Value} {A : Option Addr} {n c : Nat} {w : World} (hn : ¬ (1048576 : Int) < (n : Int)) (Q : Exit → Act → World → Prop) (hQ : ∀ a' : Act, a'.defers = [] → a'.tmps.size = 59 → a'.tmps.getD 0 undef = .slice A n c → a'.tmps.getD 9 undef = .bool false → Q .normal a' (w)) :
  FnFreeOfLessR1.wp Try.prog Q { tmps := List.toArray (.slice A n c :: f 1 :: f 2 :: f 3 :: f 4 :: f 5 :: f 6 :: f 7 :: f 8 :: f 9 :: f 10 :: f 11 :: f 12 :: f 13 :: f 14 :: f 15 :: f 16 :: f 17 :: f 18 :: f 19 :: f 20 :: f 21 :: f 22 :: f 23 :: f 24 :: f 25 :: f 26 :: f 27 :: f 28 :: f 29 :: f 30 :: f 31 :: f 32 :: f 33 :: f 34 :: f 35 :: f 36 :: f 37 :: f 38 :: f 39 :: f 40 :: f 41 :: f 42 :: f 43 :: f 44 :: f 45 :: f 46 :: f 47 :: f 48 :: f 49 :: f 50 :: f 51 :: f 52 :: f 53 :: f 54 :: f 55 :: f 56 :: f 57 :: f 58 :: []), defers := [] } w := by
  unfold FnFreeOfLessR1
  go_wp2
  exact hQ _ rfl rfl rfl rfl
theorem fnFreeOfLess1_at {m : Array Value} {A : Option Addr} {n c : Nat} {w : World} (hn : ¬ (1048576 : Int) < (n : Int)) (hs : m.size = 59) (m0 : m.getD 0 undef = .slice A n c) (Q : Exit → Act → World → Prop) (hQ : ∀ a' : Act, a'.defers = [] → a'.tmps.size = 59 → a'.tmps.getD 0 undef = .slice A n c → a'.tmps.getD 9 undef = .bool false → Q .normal a' (w)) :
  FnFreeOfLessR1.wp Try.prog Q { tmps := m, defers := [] } w := by
  have e := fnFreeOfLess_lit hs
  rw [m0] at e
  rw [e]
  exact fnFreeOfLess1_wp (f := fun i => m.getD i undef) hn Q hQ
set_option maxHeartbeats 4000000 in
theorem fnFreeOfLess3_wp {f : Nat → Value} {A : Option Addr} {n c : Nat} {w : World} {post : Int → Int → Option Addr → Nat → Nat → Int → World → Prop} (hcall : Calls Try.prog 36 #[.slice A n c] w fun e w' => ∃ x0 x1 A3 l3 k3 y, e = .returned (.tuple #[.agg #[.int .i64 x0, .int .i64 x1, .slice A3 l3 k3], .int .i64 y]) ∧ post x0 x1 A3 l3 k3 y w') (Q : Exit → Act → World → Prop) (hQ : ∀ x0 x1 A3 l3 k3 (y : Int) (w' : World), post x0 x1 A3 l3 k3 y w' → ∀ a' : Act, a'.defers = [] → a'.tmps.size = 59 → a'.tmps.getD 0 undef = .slice A n c → a'.tmps.getD 3 undef = .pointer (some ⟨w'.heap.size, 0, none⟩) → a'.tmps.getD 4 undef = .int .i64 y → Q .normal a' (w'.alloc (.cells #[.int .i64 x0, .int .i64 x1, .slice A3 l3 k3] 38))) :
  FnFreeOfLessR3.wp Try.prog Q { tmps := List.toArray (.slice A n c :: f 1 :: f 2 :: f 3 :: f 4 :: f 5 :: f 6 :: f 7 :: f 8 :: f 9 :: f 10 :: f 11 :: f 12 :: f 13 :: f 14 :: f 15 :: f 16 :: f 17 :: f 18 :: f 19 :: f 20 :: f 21 :: f 22 :: f 23 :: f 24 :: f 25 :: f 26 :: f 27 :: f 28 :: f 29 :: f 30 :: f 31 :: f 32 :: f 33 :: f 34 :: f 35 :: f 36 :: f 37 :: f 38 :: f 39 :: f 40 :: f 41 :: f 42 :: f 43 :: f 44 :: f 45 :: f 46 :: f 47 :: f 48 :: f 49 :: f 50 :: f 51 :: f 52 :: f 53 :: f 54 :: f 55 :: f 56 :: f 57 :: f 58 :: []), defers := [] } w := by
  unfold FnFreeOfLessR3
  go_wp2_with fail
  refine hcall.mono ?_
  rintro e w' ⟨x0, x1, A3, l3, k3, y, rfl, hp⟩
  go_wp2
  exact hQ _ _ _ _ _ _ _ hp _ rfl rfl rfl rfl rfl
theorem fnFreeOfLess3_at {m : Array Value} {A : Option Addr} {n c : Nat} {w : World} {post : Int → Int → Option Addr → Nat → Nat → Int → World → Prop} (hcall : Calls Try.prog 36 #[.slice A n c] w fun e w' => ∃ x0 x1 A3 l3 k3 y, e = .returned (.tuple #[.agg #[.int .i64 x0, .int .i64 x1, .slice A3 l3 k3], .int .i64 y]) ∧ post x0 x1 A3 l3 k3 y w') (hs : m.size = 59) (m0 : m.getD 0 undef = .slice A n c) (Q : Exit → Act → World → Prop) (hQ : ∀ x0 x1 A3 l3 k3 (y : Int) (w' : World), post x0 x1 A3 l3 k3 y w' → ∀ a' : Act, a'.defers = [] → a'.tmps.size = 59 → a'.tmps.getD 0 undef = .slice A n c → a'.tmps.getD 3 undef = .pointer (some ⟨w'.heap.size, 0, none⟩) → a'.tmps.getD 4 undef = .int .i64 y → Q .normal a' (w'.alloc (.cells #[.int .i64 x0, .int .i64 x1, .slice A3 l3 k3] 38))) :
  FnFreeOfLessR3.wp Try.prog Q { tmps := m, defers := [] } w := by
  have e := fnFreeOfLess_lit hs
  rw [m0] at e
  rw [e]
  exact fnFreeOfLess3_wp (f := fun i => m.getD i undef) hcall Q hQ
set_option maxHeartbeats 4000000 in
theorem fnFreeOfLess_walk_of (hval : ∀ (o n : Int) (kids : List (List AC)) (y : Int), Fit .expr [.int o, .int n, .sl 3 kids] → 1 + kids.length + rsS kids ≤ 3000 → y ∈ ([1, 2, 3, 0, 5, -1, 99] : List Int) → evM X_laws_FnFreeOfLess 100000 (.run (dropS 3 (cOf Try.f13))) [] [(3, .box [.int o, .int n, .sl 3 kids]), (4, .v (.cell (.int y)))] = some (.v (.cell (.bool true))))
    (hdraw : ∀ (A : Option Addr) (n c : Nat) (w : World), Code_ w A n c → Calls Try.prog 36 #[.slice A n c] w fun e w' => ∃ v y, e = .returned (.tuple #[v, .int .i64 y]) ∧ (y ∈ ([1, 2, 3, 0, 5, -1, 99] : List Int)) ∧ DrawnE w v w')
    (A : Option Addr) (n c : Nat) (w : World) (h : Code_ w A n c) : Calls Try.prog 13 #[.slice A n c] w fun e w' => e = .returned (.bool true) ∧ Below w.heap.size w w' := by
  by_cases hbig : 1048576 < n
  · go_enter Try.func13, Try.ntmps13
    go_wp2_with fail
    go_ret
    exact ⟨rfl, Below.refl _ _⟩
  · refine calls_of_wp Try.func13 (c := cOf Try.f13) (by kernel_rfl) ?_
    rw [fnFreeOfLess_body]
    have hs0 : (#[Value.slice A n c] ++ Array.replicate (Try.f13.ntmps - (#[.slice A n c] : Array Value).size) undef).size = 59 := by simp [Try.ntmps13]
    have h0 : (#[Value.slice A n c] ++ Array.replicate (Try.f13.ntmps - (#[.slice A n c] : Array Value).size) undef).getD 0 undef = Value.slice A n c := by simp [Array.getD]
    generalize (#[Value.slice A n c] ++ Array.replicate (Try.f13.ntmps - (#[.slice A n c] : Array Value).size) undef) = m0 at hs0 h0
    refine wp_seq (fnFreeOfLess0_at hs0 h0 _ fun a1 hd1 hs1 h1 => ?_)
    obtain ⟨m1, dd⟩ := a1
    have hd1 : dd = [] := hd1
    subst hd1
    refine wp_seq (wp_seq (fnFreeOfLess1_at (by omega) hs1 h1 _ fun a2 hd2 hs2 h2 h29 => ?_))
    obtain ⟨m2, dd⟩ := a2
    have hd2 : dd = [] := hd2
    subst hd2
    refine wp_cond (t := false) h29 ?_
    simp only [Bool.false_eq_true, if_false]
    refine wp_skip ?_
    show Code.wp _ (.seq FnFreeOfLessR3 (dropS 3 (cOf Try.f13))) _ ⟨m2, []⟩ w
    refine wp_seq (fnFreeOfLess3_at (post := fun x0 x1 A3 l3 k3 y w' => (y ∈ ([1, 2, 3, 0, 5, -1, 99] : List Int)) ∧ DrawnE w (.agg #[.int .i64 x0, .int .i64 x1, .slice A3 l3 k3]) w') ?_ hs2 h2 _ ?_)
    · refine (hdraw A n c w h).mono ?_
      rintro e w' ⟨v, y, rfl, hy, N, p', o, n', A', l, c', kids, rfl, hd⟩
      exact ⟨_, _, _, _, _, _, rfl, hy, N, p', o, n', A', l, c', kids, rfl, hd⟩
    rintro x0 x1 A3 l3 k3 y w1 ⟨hy, N, p1, o, n', A', l, c', kids, hv, hrep, hf, hs, hev, hz⟩ a3 hd3 hs3 h3 h33 h34
    injection hv with hv
    have hv := congrArg Array.toList hv
    simp only [List.cons.injEq, Value.int.injEq, true_and, and_true] at hv
    obtain ⟨rfl, rfl, hv⟩ := hv
    obtain ⟨m3, dd⟩ := a3
    have hd3 : dd = [] := hd3
    subst hd3
    have hs3 : m3.size = 59 := hs3
    have h33 : m3.getD 3 undef = .pointer (some ⟨w1.heap.size, 0, none⟩) := h33
    have h34 : m3.getD 4 undef = .int .i64 y := h34
    have hea := evo_alloc (p := p1) (w := w1) (.cells #[.int .i64 x0, .int .i64 x1, .slice A3 l3 k3] 38) 0 (fun _ => False)
    have hx := heap_alloc_new w1 (.cells #[.int .i64 x0, .int .i64 x1, .slice A3 l3 k3] 38)
    have hz1 : Zp (upP p1 w1.heap.size 0) (w1.alloc (.cells #[.int .i64 x0, .int .i64 x1, .slice A3 l3 k3] 38)) := ⟨fun c hc => by
      rw [upP_f]
      split
      · rfl
      · exact hz.1 c (by simp at hc; omega), fun _ _ _ => trivial⟩
    have hE := hev.trans hea (C := fun _ => False) (fun _ _ h => h) (fun _ _ h => h)
    have hr1 : Rep (upP p1 w1.heap.size 0) (w1.alloc (.cells #[.int .i64 x0, .int .i64 x1, .slice A3 l3 k3] 38)) (.slice A3 l3 k3) (.sl 3 kids) := by
      obtain ⟨rfl, rfl, rfl⟩ : A3 = A' ∧ l3 = l ∧ k3 = c' := by simpa using hv
      exact hrep.evo hea
    have hK : Known (upP p1 w1.heap.size 0) (w1.alloc (.cells #[.int .i64 x0, .int .i64 x1, .slice A3 l3 k3] 38)) m3 59 [(3, .box [.int x0, .int x1, .sl 3 kids]), (4, .v (.cell (.int y)))] (fun x => w.heap.size ≤ x) := by
      have look : ∀ t x, List.lookup t [(3, .box [.int x0, .int x1, .sl 3 kids]), (4, .v (.cell (.int y)))] = some x → (t = 3 ∧ x = AV.box [.int x0, .int x1, .sl 3 kids]) ∨ (t = 4 ∧ x = AV.v (.cell (.int y))) := fun t x hx => by
        simp only [List.lookup_cons] at hx
        by_cases h3 : t = 3
        · subst h3; simp at hx; exact .inl ⟨rfl, hx.symm⟩
        · rw [show (t == 3) = false by simpa using h3] at hx
          by_cases h4 : t = 4
          · subst h4; simp at hx; exact .inr ⟨rfl, hx.symm⟩
          · rw [show (t == 4) = false by simpa using h4] at hx
            simp at hx
      refine ⟨fun t x hx' => ?_, fun t x hx' => ?_, fun t t' cs cs' x ht h1 h2 h3 h4 => ?_⟩
      · rcases look t x hx' with ⟨rfl, rfl⟩ | ⟨rfl, rfl⟩
        · exact ⟨by omega, _, _, _, h33, hx, .int _, .int _, hr1, trivial⟩
        · exact ⟨by omega, by rw [h34]; exact .int _⟩
      · rcases look t x hx' with ⟨rfl, rfl⟩ | ⟨rfl, rfl⟩
        · exact .inr ⟨_, _, rfl, h33, by rw [upP_f, if_pos rfl], hev.size⟩
        · exact .inl ⟨_, rfl⟩
      · rcases look _ _ h1 with ⟨rfl, _⟩ | h
        · rcases look _ _ h2 with ⟨rfl, _⟩ | h
          · exact ht rfl
          · cases h.2
        · cases h.2
    obtain ⟨O, hO⟩ := Option.isSome_iff_exists.1 laws_FnFreeOfLess_st
    have hI := invN_known hs3 hK hz1 (fun x hx => Nat.le_trans hE.size hx)
    refine wp_bodyPost_mono (restN_ok (X := X_laws_FnFreeOfLess) (a := { tmps := m3, defers := [] }) orders_ok lay_ok vok (hval x0 x1 kids y hf hs hy) (knownL_len _ _ _) (knownN_ag fun t x hx => (hK.lt t x hx).1) hO hI rfl hE) ?_
    rintro e w' ⟨v, rfl, p', hsr, _, _, hev', hz'⟩
    have hsr : Rep p' w' v (.bool true) := hsr
    cases hsr
    exact ⟨rfl, hev'.os, hev'.tape, hev'.output, hev'.size, fun b hb => hev'.block b hb (fun h => h)⟩
end Go.Proofs.Ytgbeongiejppnaa
namespace Go.Proofs.Ytgbeongiejppnaa
open Go
def insL : List Int → Int → List Int
  | [], x => [x]
  | y :: ys, x => if y ≥ x then (if y > x then x :: y :: ys else y :: ys) else y :: insL ys x
def ascR (S : Nat → Bool) (a m : Nat) : List Int := ((List.range' a m).filter S).map fun i : Nat => (i : Int)
theorem ascR_ge {S : Nat → Bool} {a m : Nat} : ∀ y ∈ ascR S a m, (a : Int) ≤ y := by
  intro y hy
  unfold ascR at hy
  obtain ⟨i, hi, rfl⟩ := List.mem_map.1 hy
  have := List.mem_range'_1.1 (List.mem_filter.1 hi).1
  omega
theorem insL_first {x : Int} : ∀ {l : List Int}, (∀ y ∈ l, x < y) → insL l x = x :: l
  | [], _ => rfl
  | y :: ys, h => by
    have := h y List.mem_cons_self
    unfold insL
    rw [if_pos (by omega), if_pos (by omega)]
theorem ascR_succ (S : Nat → Bool) (a m : Nat) : ascR S a (m + 1) = if S a then (a : Int) :: ascR S (a + 1) m else ascR S (a + 1) m := by
  unfold ascR
  rw [List.range'_succ, List.filter_cons]
  split <;> rfl
theorem ascR_cong {S S' : Nat → Bool} : ∀ {m a : Nat}, (∀ i, a ≤ i → i < a + m → S i = S' i) → ascR S a m = ascR S' a m
  | 0, _, _ => rfl
  | m + 1, a, h => by
    rw [ascR_succ, ascR_succ, h a (by omega) (by omega), ascR_cong (m := m) (a := a + 1) fun i h1 h2 => h i (by omega) (by omega)]
theorem insL_asc (S : Nat → Bool) (j : Nat) : ∀ (m a : Nat), a ≤ j → j < a + m → insL (ascR S a m) (j : Int) = ascR (fun i => S i || i == j) a m
  | 0, a, h1, h2 => by omega
  | m + 1, a, h1, h2 => by
    rw [ascR_succ, ascR_succ]
    by_cases hj : a = j
    · subst hj
      have e : ascR (fun i => S i || i == a) (a + 1) m = ascR S (a + 1) m := ascR_cong fun i g1 g2 => by
        have : (i == a) = false := by simp; omega
        rw [this, Bool.or_false]
      rw [beq_self_eq_true, Bool.or_true, if_pos rfl, e]
      split
      · unfold insL
        rw [if_pos (by omega), if_neg (by omega)]
      · exact insL_first fun y hy => by have := ascR_ge y hy; omega
    · have e : (a == j) = false := by simp [hj]
      rw [e, Bool.or_false]
      have ih := insL_asc S j m (a + 1) (by omega) (by omega)
      split
      · conv => lhs; unfold insL
        rw [if_neg (by omega), ih]
      · exact ih
theorem asc_mem (S : Nat → Bool) {n k : Nat} (hk : k < n) : (ascR S 0 n).contains (k : Int) = S k := by
  rw [Bool.eq_iff_iff, List.contains_iff_mem]
  unfold ascR
  rw [List.mem_map]
  constructor
  · rintro ⟨i, hi, e⟩
    have : i = k := by omega
    subst this
    exact (List.mem_filter.1 hi).2
  · intro h
    exact ⟨k, List.mem_filter.2 ⟨List.mem_range'_1.2 ⟨by omega, by omega⟩, h⟩, rfl⟩
theorem intsC_snoc (xs : List Int) (x : Int) : intsC xs ++ [[AC.int x]] = intsC (xs ++ [x]) := by simp [intsC]
theorem s_insertL (xs : List Int) (n : Int) (hx : xs.length ≤ 1048576) : spec_insert [.cell (.sl 1 (intsC xs)), .cell (.int n)] = some (.v (.cell (.sl 1 (intsC (insL xs n))))) := by
  have rest : ∀ m k : Nat, k + m = xs.length → ∀ acc : List Int, acc.length ≤ k + 1 → spec_insert_L0 (intsC xs) n (intsC acc) true (k : Int) = some (.v (.cell (.sl 1 (intsC (acc ++ xs.drop k))))) := by
    intro m
    induction m with
    | zero =>
      intro k hk acc ha
      rw [List.drop_eq_nil_of_le (by omega), List.append_nil]
      exact spec_insert_L0_le (bifF (decide_eq_false (by rw [intsC_len]; omega)) (bifF rfl rfl))
    | succ m ih =>
      intro k hk acc ha
      have hlt : k < xs.length := by omega
      have hnext := ih (k + 1) (by omega) (acc ++ [xs[k]]) (by simp; omega)
      rw [← wrk (by unfold maxI; omega), List.append_assoc, List.singleton_append, ← List.drop_eq_getElem_cons hlt] at hnext
      refine spec_insert_L0_le (bifT (decide_eq_true (by rw [intsC_len]; omega)) (bifF rfl (atNum hlt (appTo (by rw [intsC_len]; simp; omega) ?_))))
      rw [intsC_snoc]
      exact hnext
  have key : ∀ m k : Nat, k + m = xs.length → ∀ acc : List Int, acc.length ≤ k → spec_insert_L0 (intsC xs) n (intsC acc) false (k : Int) = some (.v (.cell (.sl 1 (intsC (acc ++ insL (xs.drop k) n))))) := by
    intro m
    induction m with
    | zero =>
      intro k hk acc ha
      rw [List.drop_eq_nil_of_le (by omega)]
      refine spec_insert_L0_le (bifF (decide_eq_false (by rw [intsC_len]; omega)) (bifT rfl (appTo (by rw [intsC_len]; simp; omega) ?_)))
      rw [intsC_snoc]
      rfl
    | succ m ih =>
      intro k hk acc ha
      have hlt : k < xs.length := by omega
      rw [List.drop_eq_getElem_cons hlt]
      refine spec_insert_L0_le (bifT (decide_eq_true (by rw [intsC_len]; omega)) (bifT rfl (atNum hlt ?_)))
      unfold insL
      by_cases h1 : xs[k] ≥ n
      · rw [if_pos h1]
        refine bifT (decide_eq_true h1) (atNum hlt ?_)
        by_cases h2 : xs[k] > n
        · rw [if_pos h2]
          have hnext := rest m (k + 1) (by omega) (acc ++ [n] ++ [xs[k]]) (by simp; omega)
          rw [← wrk (by unfold maxI; omega), List.append_assoc, List.append_assoc] at hnext
          refine bifT (decide_eq_true h2) (appTo (by rw [intsC_len]; simp; omega) (atNum hlt ?_))
          rw [intsC_snoc]
          refine appTo (by rw [intsC_len]; simp; omega) ?_
          rw [intsC_snoc, List.append_assoc]
          exact hnext
        · rw [if_neg h2]
          have hnext := rest m (k + 1) (by omega) (acc ++ [xs[k]]) (by simp; omega)
          rw [← wrk (by unfold maxI; omega), List.append_assoc] at hnext
          refine bifF (decide_eq_false h2) (atNum hlt (appTo (by rw [intsC_len]; simp; omega) ?_))
          rw [intsC_snoc]
          exact hnext
      · rw [if_neg h1]
        have hnext := ih (k + 1) (by omega) (acc ++ [xs[k]]) (by simp; omega)
        rw [← wrk (by unfold maxI; omega), List.append_assoc] at hnext
        refine bifF (decide_eq_false h1) (atNum hlt (appTo (by rw [intsC_len]; simp; omega) ?_))
        rw [intsC_snoc]
        exact hnext
  exact spec_insert_le (key xs.length 0 (by omega) [] (by simp))
end Go.Proofs.Ytgbeongiejppnaa
namespace Go.Proofs.Ytgbeongiejppnaa
open Go Go.RowKit
def wB (n : Int) (ys : List Int) : List Int := ys.filter fun y => !(y == n)
def wF (n : Int) : List Int → List Int
  | [] => [n]
  | y :: ys => if y ≥ n then n :: wB n (y :: ys) else y :: wF n ys
theorem wB_all {n : Int} {ys : List Int} (h : ∀ y ∈ ys, n < y) : wB n ys = ys := by
  unfold wB
  rw [List.filter_eq_self]
  intro y hy
  have := h y hy
  simp
  omega
theorem wB_cons (n y : Int) (ys : List Int) : wB n (y :: ys) = if y = n then wB n ys else y :: wB n ys := by
  unfold wB
  rw [List.filter_cons]
  by_cases h : y = n <;> simp [h]
theorem wF_asc (S : Nat → Bool) (j : Nat) : ∀ (m a : Nat), wF (j : Int) (ascR S a m) = insL (ascR S a m) (j : Int)
  | 0, a => rfl
  | m + 1, a => by
    rw [ascR_succ]
    split
    · unfold wF insL
      have hr : wB (j : Int) (ascR S (a + 1) m) = ascR S (a + 1) m ∨ (a : Int) < j := by
        by_cases h : (a : Int) < j
        · exact .inr h
        · exact .inl (wB_all fun y hy => by have := ascR_ge y hy; omega)
      by_cases h : (a : Int) ≥ (j : Int)
      · rw [if_pos h, if_pos h, wB_cons, hr.resolve_right (by omega)]
        by_cases h2 : (a : Int) = (j : Int)
        · rw [if_pos h2, if_neg (by omega), h2]
        · rw [if_neg h2, if_pos (by omega)]
      · rw [if_neg h, if_neg h, wF_asc S j m (a + 1)]
    · exact wF_asc S j m (a + 1)
theorem i_withIntL (xs : List Int) (n : Int) (hx : xs.length ≤ 1048576) : impl_withInt [.cell (.sl 1 (intsC xs)), .cell (.int n)] = rL (wF n xs) := by
  have rest : ∀ m k : Nat, k + m = xs.length → ∀ acc : List Int, acc.length ≤ k + 1 → impl_withInt_L0 n (intsC acc) true (intsC xs) ((xs.length : Nat) : Int) (k : Int) = rL (acc ++ wB n (xs.drop k)) := by
    intro m
    induction m with
    | zero =>
      intro k hk acc ha
      rw [List.drop_eq_nil_of_le (by omega)]
      refine impl_withInt_L0_le (bifF (decide_eq_false (by omega)) (bifF rfl ?_))
      rw [show wB n [] = [] from rfl, List.append_nil]
    | succ m ih =>
      intro k hk acc ha
      have hlt : k < xs.length := by omega
      have w : wrapI ((k : Int) + 1) = ((k + 1 : Nat) : Int) := wrk (by unfold maxI; omega)
      rw [List.drop_eq_getElem_cons hlt, wB_cons]
      refine impl_withInt_L0_le (bifT (decide_eq_true (by omega)) (atNum hlt ?_))
      rw [w]
      have app : ∀ r, impl_withInt_L0 n (intsC (acc ++ [xs[k]])) true (intsC xs) ((xs.length : Nat) : Int) ((k + 1 : Nat) : Int) = some r → appR (intsC acc) [[.int xs[k]]] (fun l12 => impl_withInt_L0 n l12 true (intsC xs) ((xs.length : Nat) : Int) ((k + 1 : Nat) : Int)) = some r := fun r h => appTo (by rw [intsC_len]; simp; omega) (by rw [intsC_snoc]; exact h)
      by_cases h2 : xs[k] = n
      · rw [if_pos h2]
        refine bifT (decide_eq_true (by omega)) (bifF rfl (bifF (nef h2) ?_))
        exact ih (k + 1) (by omega) acc (by omega)
      · rw [if_neg h2]
        have nx := ih (k + 1) (by omega) (acc ++ [xs[k]]) (by simp; omega)
        rw [List.append_assoc] at nx
        by_cases h : xs[k] ≥ n
        · exact bifT (decide_eq_true h) (bifF rfl (bifT (net h2) (app _ (by rw [nx]; rfl))))
        · exact bifF (decide_eq_false h) (bifT (net h2) (app _ (by rw [nx]; rfl)))
  have key : ∀ m k : Nat, k + m = xs.length → ∀ acc : List Int, acc.length ≤ k → impl_withInt_L0 n (intsC acc) false (intsC xs) ((xs.length : Nat) : Int) (k : Int) = rL (acc ++ wF n (xs.drop k)) := by
    intro m
    induction m with
    | zero =>
      intro k hk acc ha
      rw [List.drop_eq_nil_of_le (by omega)]
      refine impl_withInt_L0_le (bifF (decide_eq_false (by omega)) (bifT rfl (appTo (by rw [intsC_len]; simp; omega) ?_)))
      rw [intsC_snoc]
      rfl
    | succ m ih =>
      intro k hk acc ha
      have hlt : k < xs.length := by omega
      have w : wrapI ((k : Int) + 1) = ((k + 1 : Nat) : Int) := wrk (by unfold maxI; omega)
      rw [List.drop_eq_getElem_cons hlt]
      refine impl_withInt_L0_le (bifT (decide_eq_true (by omega)) (atNum hlt ?_))
      rw [w]
      unfold wF
      by_cases h : xs[k] ≥ n
      · rw [if_pos h, wB_cons]
        refine bifT (decide_eq_true h) (bifT rfl (appTo (by rw [intsC_len]; simp; omega) ?_))
        rw [intsC_snoc]
        by_cases h2 : xs[k] = n
        · rw [if_pos h2]
          refine bifF (nef h2) ?_
          rw [rest m (k + 1) (by omega) (acc ++ [n]) (by simp; omega), List.append_assoc]
          rfl
        · rw [if_neg h2]
          refine bifT (net h2) (appTo (by rw [intsC_len]; simp; omega) ?_)
          rw [intsC_snoc, rest m (k + 1) (by omega) (acc ++ [n] ++ [xs[k]]) (by simp; omega), List.append_assoc, List.append_assoc]
          rfl
      · rw [if_neg h]
        refine bifF (decide_eq_false h) (bifT (net (by omega)) (appTo (by rw [intsC_len]; simp; omega) ?_))
        rw [intsC_snoc, ih (k + 1) (by omega) (acc ++ [xs[k]]) (by simp; omega), List.append_assoc]
        rfl
  have := key xs.length 0 (by omega) [] (by simp)
  refine impl_withInt_le ?_
  rw [intsC_len]
  exact this
theorem ascR_len (S : Nat → Bool) (a m : Nat) : (ascR S a m).length ≤ m := by
  unfold ascR
  rw [List.length_map]
  have := List.length_filter_le S (List.range' a m)
  simpa using this
def orS (A B : Nat → Bool) : Nat → Bool := fun i => A i || B i
def oneS (j : Nat) : Nat → Bool := fun i => i == j
theorem i_ins {m j : Nat} (hj : j < m) (hm : m ≤ 1000) (A : Nat → Bool) : impl_withInt [.cell (.sl 1 (intsC (ascR A 0 m))), .cell (.int (j : Int))] = rL (ascR (orS A (oneS j)) 0 m) := by
  have hl := ascR_len A 0 m
  rw [i_withIntL _ _ (by omega), wF_asc, insL_asc A j m 0 (by omega) (by omega)]
  rfl
theorem s_ins {m j : Nat} (hj : j < m) (hm : m ≤ 1000) (A : Nat → Bool) : spec_insert [.cell (.sl 1 (intsC (ascR A 0 m))), .cell (.int (j : Int))] = rL (ascR (orS A (oneS j)) 0 m) := by
  have hl := ascR_len A 0 m
  rw [s_insertL _ _ (by omega), insL_asc A j m 0 (by omega) (by omega)]
  rfl
theorem l_isInL (xs : List Int) (n : Int) (hx : xs.length ≤ 1048576) : laws_isIn [.cell (.sl 1 (intsC xs)), .cell (.int n)] = rB (xs.contains n) := by
  have key : ∀ m k : Nat, k + m = xs.length → laws_isIn_L0 (intsC xs) n (k : Int) = rB ((xs.drop k).contains n) := by
    intro m
    induction m with
    | zero =>
      intro k hk
      rw [List.drop_eq_nil_of_le (by omega)]
      exact laws_isIn_L0_le (bifF (decide_eq_false (by rw [intsC_len]; omega)) rfl)
    | succ m ih =>
      intro k hk
      have hlt : k < xs.length := by omega
      have hnext := ih (k + 1) (by omega)
      rw [← wrk (by unfold maxI; omega)] at hnext
      rw [List.drop_eq_getElem_cons hlt, List.contains_cons]
      refine laws_isIn_L0_le (bifT (decide_eq_true (by rw [intsC_len]; omega)) (atNum hlt ?_))
      rcases e : (xs[k] == n) with _ | _
      · rw [show (n == xs[k]) = false by rw [beq_eq_false_iff_ne] at e ⊢; exact fun h => e h.symm, Bool.false_or]
        exact bifF rfl hnext
      · rw [show (n == xs[k]) = true by rw [beq_iff_eq] at e ⊢; exact e.symm, Bool.true_or]
        exact bifT rfl rfl
  exact laws_isIn_le (key xs.length 0 (by omega))
theorem l_equal (xs : List Int) (hx : xs.length ≤ 1048576) : laws_equalInts [.cell (.sl 1 (intsC xs)), .cell (.sl 1 (intsC xs))] = rB true := by
  have key : ∀ m k : Nat, k + m = xs.length → laws_equalInts_L0 (intsC xs) (intsC xs) (k : Int) = rB true := by
    intro m
    induction m with
    | zero =>
      intro k hk
      exact laws_equalInts_L0_le (bifF (decide_eq_false (by rw [intsC_len]; omega)) rfl)
    | succ m ih =>
      intro k hk
      have hlt : k < xs.length := by omega
      have hnext := ih (k + 1) (by omega)
      rw [← wrk (by unfold maxI; omega)] at hnext
      exact laws_equalInts_L0_le (bifT (decide_eq_true (by rw [intsC_len]; omega)) (atNum hlt (atNum hlt (bifF (nef rfl) hnext))))
  exact laws_equalInts_le (bifF (nef rfl) (key xs.length 0 (by omega)))
def sumK (f : List AC → Nat) (kids : List (List AC)) : Nat := (kids.map f).sum
theorem sumK_drop (f : List AC → Nat) {kids : List (List AC)} {k : Nat} (h : k < kids.length) : sumK f (kids.drop k) = f (kids.getD k []) + sumK f (kids.drop (k + 1)) := by
  unfold sumK
  rw [List.drop_eq_getElem_cons h, List.map_cons, List.sum_cons]
  simp [List.getD, h]
def men (v : Int) : Nat → List AC → Nat
  | s + 1, [.int o, .int n, .sl 3 kids] => (if o = 12 ∧ n = v then 1 else 0) + sumK (men v s) kids
  | _, _ => 0
theorem men_eq (v : Int) (s : Nat) (o n : Int) (kids : List (List AC)) : men v (s + 1) [.int o, .int n, .sl 3 kids] = (if o = 12 ∧ n = v then 1 else 0) + sumK (men v s) kids := rfl
theorem nodV_cases {x : List AC} : (cS x ≤ 29 ∧ decide (nodV x < 0) = false) ∨ (¬ cS x ≤ 29 ∧ decide (nodV x < 0) = true) := by
  unfold nodV
  by_cases h : cS x ≤ 29
  · rw [if_pos h]; exact .inl ⟨h, decide_eq_false (by omega)⟩
  · rw [if_neg h]; exact .inr ⟨h, rfl⟩
end Go.Proofs.Ytgbeongiejppnaa
namespace Go.Proofs.Ytgbeongiejppnaa
open Go Go.RowKit
def frS (s : Nat) (x : List AC) : Nat → Bool := fun j => decide (0 < men (j : Int) s x)
def noS : Nat → Bool := fun _ => false
theorem ascR_no (a m : Nat) : ascR noS a m = [] := by
  unfold ascR noS
  simp
theorem free_both {N : Int} {m : Nat} (hm : m ≤ 1000) (hN : ∀ z : Int, (0 ≤ z ∧ z < N) ↔ (0 ≤ z ∧ z < m)) : ∀ (s : Nat) (o n : Int) (kids : List (List AC)), Fit .expr [.int o, .int n, .sl 3 kids] → cS [.int o, .int n, .sl 3 kids] < s → s ≤ 31 →
    ∀ A : Nat → Bool, impl_withFree [.cell (.sl 1 (intsC (ascR A 0 m))), .agg [.int o, .int n, .sl 3 kids], .cell (.int N)] = rL (ascR (orS A (frS s [.int o, .int n, .sl 3 kids])) 0 m) ∧ spec_addFree [.agg [.int o, .int n, .sl 3 kids], .cell (.int N), .cell (.sl 1 (intsC (ascR A 0 m)))] = rL (ascR (orS A (frS s [.int o, .int n, .sl 3 kids])) 0 m) := by
  intro s
  induction s with
  | zero => intro o n kids _ h; omega
  | succ s ihs =>
    intro o n kids hf hs hs31
    obtain ⟨_, _, hml, hk⟩ := fit_ex hf
    have kid : ∀ k (hlt : k < kids.length) (A : Nat → Bool), impl_withFree [.cell (.sl 1 (intsC (ascR A 0 m))), .agg (kids.getD k []), .cell (.int N)] = rL (ascR (orS A (frS s (kids.getD k []))) 0 m) ∧ spec_addFree [.agg (kids.getD k []), .cell (.int N), .cell (.sl 1 (intsC (ascR A 0 m)))] = rL (ascR (orS A (frS s (kids.getD k []))) 0 m) := fun k hlt => by
      obtain ⟨o', n', ks, e, hf'⟩ := fit_kid hk hlt
      have h1 := kid_lt hlt (o := o) (n := n)
      rw [e] at h1 ⊢
      exact ihs o' n' ks hf' (by omega) (by omega)
    have rest : ∀ j k : Nat, k + j = kids.length → ∀ A : Nat → Bool, impl_withFree_L0 N (intsC (ascR A 0 m)) kids ((kids.length : Nat) : Int) (k : Int) = rL (ascR (orS A (fun i => decide (0 < sumK (men (i : Int) s) (kids.drop k)))) 0 m) ∧ spec_addFree_L0 N (intsC (ascR A 0 m)) o n kids (k : Int) = rL (ascR (orS A (fun i => decide (0 < sumK (men (i : Int) s) (kids.drop k)))) 0 m) := by
      intro j
      induction j with
      | zero =>
        intro k hkj A
        rw [List.drop_eq_nil_of_le (by omega), show orS A (fun i => decide (0 < sumK (men (i : Int) s) [])) = A by funext i; simp [orS, sumK]]
        exact ⟨impl_withFree_L0_le (bifF (decide_eq_false (by omega)) rfl), spec_addFree_L0_le (bifF (decide_eq_false (by omega)) rfl)⟩
      | succ j ih =>
        intro k hkj A
        have hlt : k < kids.length := by omega
        obtain ⟨o', n', ks, e, _⟩ := fit_kid hk hlt
        have hsum : orS A (fun i => decide (0 < sumK (men (i : Int) s) (kids.drop k))) = orS (orS A (frS s (kids.getD k []))) (fun i => decide (0 < sumK (men (i : Int) s) (kids.drop (k + 1)))) := by
          funext i
          simp only [orS, frS, sumK_drop _ hlt, Bool.or_assoc]
          congr 1
          rw [← Bool.decide_or]
          exact decide_eq_decide.2 (by omega)
        rw [hsum]
        have g1 := kid k hlt A
        have g2 := ih (k + 1) (by omega) (orS A (frS s (kids.getD k [])))
        rw [e] at g1 g2 ⊢
        refine ⟨impl_withFree_L0_le (bifT (decide_eq_true (by omega)) (atExpr hlt e (callS g1.1 ?_))), spec_addFree_L0_le (bifT (decide_eq_true (by omega)) (atExpr hlt e (callS g1.2 ?_)))⟩
        · rw [wrk (by unfold maxI at *; omega)]; exact g2.1
        · rw [wrk (by unfold maxI at *; omega)]; exact g2.2
    intro A
    have full := rest kids.length 0 (by omega)
    simp only [List.drop_zero] at full
    by_cases h : o = 12 ∧ 0 ≤ n ∧ n < N
    · obtain ⟨ho, h0, h1⟩ := h
      have h2 := (hN n).1 ⟨h0, h1⟩
      obtain ⟨j, rfl⟩ : ∃ j : Nat, n = (j : Int) := ⟨n.toNat, by omega⟩
      have gi := i_ins (show j < m by omega) hm A
      have gs := s_ins (show j < m by omega) hm A
      have e : orS A (frS (s + 1) [.int o, .int (j : Int), .sl 3 kids]) = orS (orS A (oneS j)) (fun i => decide (0 < sumK (men (i : Int) s) kids)) := by
        funext i
        simp only [orS, frS, oneS, men_eq, Bool.or_assoc]
        congr 1
        rw [show (i == j) = decide (i = j) from rfl, ← Bool.decide_or]
        refine decide_eq_decide.2 ?_
        by_cases hij : i = j
        · subst hij; rw [if_pos ⟨ho, rfl⟩]; omega
        · rw [if_neg (fun h => hij (by omega))]; omega
      rw [e]
      have g := full (orS A (oneS j))
      exact ⟨impl_withFree_le (bifT (eqt ho) (bifT (decide_eq_true h0) (bifT (decide_eq_true h1) (callS gi g.1)))), spec_addFree_le (bifT (eqt ho) (bifT (decide_eq_true h0) (bifT (decide_eq_true h1) (callS gs g.2))))⟩
    · have e : ascR (orS A (frS (s + 1) [.int o, .int n, .sl 3 kids])) 0 m = ascR (orS A (fun i => decide (0 < sumK (men (i : Int) s) kids))) 0 m := ascR_cong fun i h1 h2 => by
        simp only [orS, frS, men_eq]
        congr 1
        refine decide_eq_decide.2 ?_
        rw [if_neg (fun hh => h ⟨hh.1, by rw [hh.2]; exact (hN i).2 ⟨by omega, by omega⟩⟩)]
        omega
      rw [e]
      have g := full A
      by_cases ho : o = 12
      · by_cases h0 : 0 ≤ n
        · have h1 : ¬ n < N := fun h1 => h ⟨ho, h0, h1⟩
          exact ⟨impl_withFree_le (bifT (eqt ho) (bifT (decide_eq_true h0) (bifF (decide_eq_false h1) g.1))), spec_addFree_le (bifT (eqt ho) (bifT (decide_eq_true h0) (bifF (decide_eq_false h1) g.2)))⟩
        · exact ⟨impl_withFree_le (bifT (eqt ho) (bifF (decide_eq_false h0) g.1)), spec_addFree_le (bifT (eqt ho) (bifF (decide_eq_false h0) g.2))⟩
      · exact ⟨impl_withFree_le (bifF (eqf ho) g.1), spec_addFree_le (bifF (eqf ho) g.2)⟩
def frV (m : Nat) (x : List AC) : List Int := if cS x ≤ 29 then ascR (frS 31 x) 0 m else []
theorem free_val {N : Int} {m : Nat} (hm : m ≤ 1000) (hN : ∀ z : Int, (0 ≤ z ∧ z < N) ↔ (0 ≤ z ∧ z < m)) {o n : Int} {kids : List (List AC)} (hf : Fit .expr [.int o, .int n, .sl 3 kids]) :
    impl_FreeOf [.agg [.int o, .int n, .sl 3 kids], .cell (.int N)] = rL (frV m [.int o, .int n, .sl 3 kids]) ∧ spec_FreeOf [.agg [.int o, .int n, .sl 3 kids], .cell (.int N)] = rL (frV m [.int o, .int n, .sl 3 kids]) := by
  unfold frV
  rcases nodV_cases (x := [.int o, .int n, .sl 3 kids]) with ⟨h, e⟩ | ⟨h, e⟩
  · rw [if_pos h]
    have g := free_both hm hN 31 o n kids hf (by omega) (by omega) noS
    rw [ascR_no, show orS noS (frS 31 [.int o, .int n, .sl 3 kids]) = frS 31 [.int o, .int n, .sl 3 kids] by funext i; simp [orS, noS]] at g
    exact ⟨impl_FreeOf_le (callI (i_nodesOf hf) (bifF e (callS g.1 rfl))), spec_FreeOf_le (callI (s_nodesOf hf) (bifF e (callS g.2 rfl)))⟩
  · rw [if_neg h]
    exact ⟨impl_FreeOf_le (callI (i_nodesOf hf) (bifT e rfl)), spec_FreeOf_le (callI (s_nodesOf hf) (bifT e rfl))⟩
theorem ascR_last (S : Nat → Bool) (a m : Nat) : ascR S a (m + 1) = ascR S a m ++ if S (a + m) then [((a + m : Nat) : Int)] else [] := by
  unfold ascR
  rw [List.range'_concat, List.filter_append, List.map_append]
  congr 1
  simp only [Nat.one_mul, List.filter_cons, List.filter_nil]
  split <;> simp
theorem bound_of {y : Int} (hy : y ∈ ([1, 2, 3, 0, 5, -1, 99] : List Int)) : ∃ m : Nat, m ≤ 99 ∧ (∀ z : Int, (0 ≤ z ∧ z < y) ↔ (0 ≤ z ∧ z < m)) ∧ (0 < m → y = m) := by
  simp only [List.mem_cons, List.not_mem_nil, or_false] at hy
  exact ⟨y.toNat, by omega, fun z => by omega, fun h => by omega⟩
theorem val_FreeOfLess {o n y : Int} {kids : List (List AC)} (hf : Fit .expr [.int o, .int n, .sl 3 kids]) (hs : 1 + kids.length + rsS kids ≤ 3000) (hy : y ∈ ([1, 2, 3, 0, 5, -1, 99] : List Int)) :
    evM X_laws_FnFreeOfLess 100000 (.run (dropS 3 (cOf Try.f13))) [] [(3, .box [.int o, .int n, .sl 3 kids]), (4, .v (.cell (.int y)))] = some (.v (.cell (.bool true))) := by
  obtain ⟨m, hm, hN, hym⟩ := bound_of hy
  obtain ⟨gi, gs⟩ := free_val (N := y) (m := m) (by omega) hN hf
  have hlen : (frV m [.int o, .int n, .sl 3 kids]).length ≤ 99 := by
    unfold frV
    split
    · have := ascR_len (frS 31 [.int o, .int n, .sl 3 kids]) 0 m; omega
    · simp
  have heq := l_equal (frV m [.int o, .int n, .sl 3 kids]) (by omega)
  refine laws_FnFreeOfLess_rest (callS gi (callS gs (callB heq (bifF rfl ?_))))
  rw [intsC_len]
  by_cases h0 : (frV m [.int o, .int n, .sl 3 kids]).length = 0
  · exact bifT (eqt (by omega)) (callS gs (callB heq rfl))
  refine bifF (eqf (by omega)) ?_
  have hz : cS [.int o, .int n, .sl 3 kids] ≤ 29 := Decidable.byContradiction fun h => h0 (by unfold frV; rw [if_neg h]; rfl)
  have hV : ∀ j, frV j [.int o, .int n, .sl 3 kids] = ascR (frS 31 [.int o, .int n, .sl 3 kids]) 0 j := fun j => by unfold frV; rw [if_pos hz]
  rw [hV] at h0 hlen ⊢
  obtain ⟨m, rfl⟩ : ∃ j, m = j + 1 := ⟨m - 1, by
    have : m ≠ 0 := fun h => h0 (by rw [h]; rfl)
    omega⟩
  have hym' := hym (by omega)
  have w : wrapI (y - 1) = (m : Int) := by rw [wr (by omega) (by omega)]; omega
  rw [w]
  have g1 := (free_val (N := (m : Int)) (m := m) (by omega) (fun z => Iff.rfl) hf).1
  rw [hV] at g1
  have hin := l_isInL (ascR (frS 31 [.int o, .int n, .sl 3 kids]) 0 (m + 1)) (m : Int) (by omega)
  rw [asc_mem _ (by omega)] at hin
  have hl1 := ascR_len (frS 31 [.int o, .int n, .sl 3 kids]) 0 m
  have he1 := l_equal (ascR (frS 31 [.int o, .int n, .sl 3 kids]) 0 m) (by omega)
  have hlast := ascR_last (frS 31 [.int o, .int n, .sl 3 kids]) 0 m
  rw [Nat.zero_add] at hlast
  refine callS g1 (callB hin ?_)
  by_cases hS : frS 31 [.int o, .int n, .sl 3 kids] m = true
  · rw [if_pos hS] at hlast
    refine bifT hS ?_
    rw [hlast, intsC_len]
    have hcut : ((intsC (ascR (frS 31 [.int o, .int n, .sl 3 kids]) 0 m ++ [(m : Int)])).drop (0 : Int).toNat).take ((((ascR (frS 31 [.int o, .int n, .sl 3 kids]) 0 m).length : Nat) : Int).toNat - (0 : Int).toNat) = intsC (ascR (frS 31 [.int o, .int n, .sl 3 kids]) 0 m) := by
      simp [intsC]
    refine bifT (eqt ?_) (cutTo (by omega) (by omega) (by rw [intsC_len]; simp; omega) ?_)
    · rw [wr (by omega) (by omega)]; simp
    · rw [hcut]
      exact callB he1 rfl
  · rw [if_neg hS, List.append_nil] at hlast
    refine bifF (by simpa using hS) ?_
    rw [hlast]
    exact callB he1 rfl
theorem fnFreeOfLess_walk (A : Option Addr) (n c : Nat) (w : World) (h : Code_ w A n c) : Calls Try.prog 13 #[.slice A n c] w fun e w' => e = .returned (.bool true) ∧ Below w.heap.size w w' :=
  fnFreeOfLess_walk_of (fun _ _ _ _ hf hs hy => val_FreeOfLess hf hs hy) (fun _ _ _ _ h => drawFreeOf_any h) A n c w h
end Go.Proofs.Ytgbeongiejppnaa

/- What this law needs beside: its draw, its rest over values, its models. -/
import Derived.Test.YtgbeongiejppnaaS42
import Derived.StillTailTactics
import Derived.Deep.RegionHeld3
import Derived.WalkKit
set_option linter.unusedVariables false
set_option linter.unusedSimpArgs false
namespace Go.Proofs.Ytgbeongiejppnaa
open Go Go.RowKit
theorem rep_lits {p : Stb} {w : World} (T : TypeId) (xs : List Int) : Rep (upP p w.heap.size xs.length 1) (w.alloc (.cells (xs.map (Value.int .i64)).toArray T)) (.slice (some ⟨w.heap.size, 0, none⟩) xs.length xs.length) (.sl 1 (intsC xs)) := by
  have hl : (intsC xs).length = xs.length := intsC_len xs
  have hget : ∀ (i j : Nat) (c : AC), ((intsC xs).getD i [])[j]? = some c → i < xs.length ∧ j = 0 ∧ c = .int (xs.getD i 0) := fun i j c h => by
    rcases Nat.lt_or_ge i xs.length with hi | hi
    · have e : (intsC xs).getD i [] = [.int (xs.getD i 0)] := by simp [intsC, List.getD, hi]
      rw [e] at h
      have hj := (List.getElem?_eq_some_iff.1 h).1
      simp at hj
      subst hj
      simp at h
      exact ⟨hi, rfl, by rw [← h]; simp [List.getD]⟩
    · have e : (intsC xs).getD i [] = [] := by simp [List.getD, List.getElem?_eq_none (show (intsC xs).length ≤ i by omega)]
      rw [e] at h
      simp at h
  rw [show Value.slice (some ⟨w.heap.size, 0, none⟩) xs.length xs.length = Value.slice (some ⟨w.heap.size, 0, none⟩) (intsC xs).length xs.length by rw [hl]]
  refine .sl w.heap.size 0 xs.length 1 _ (fun i _ => .int .i64 (xs.getD i 0)) (by omega) (fun r hr => ?_) (by simp) (by rw [hl, upP_f, if_pos rfl]; omega) (upP_ok_self _ _ _ _) (by omega) (fun i j c h => ?_) (fun i j c h => ?_)
  · obtain ⟨x, _, rfl⟩ := List.mem_map.1 hr
    rfl
  · obtain ⟨hi, rfl, rfl⟩ := hget i j c h
    rw [Nat.zero_add, Nat.mul_one, Nat.add_zero, cell_of_row _ _ _ _ _ _ (heap_alloc_new w _)]
    simp [hi, List.getD]
  · obtain ⟨hi, rfl, rfl⟩ := hget i j c h
    exact .int _
section
variable {ns : List Nat} (hns : ns.length ≤ 2000)
include hns
theorem one_calls {p0 : Stb} {w0 : World} {b pos : Nat} (hp : pos + 10 ≤ 800000) (T : TypeId) {xs : List Int} (hx : xs ≠ []) (hl : xs.length ≤ 100) (hz : Zp p0 w0) (ht : TK p0 w0 (fun _ => False) b (Qr ns pos)) :
    ∃ y ∈ xs, Calls Try.prog 61 #[ptrB b, .slice (some ⟨w0.heap.size, 0, none⟩) xs.length xs.length] (w0.drew.alloc (.cells (xs.map (Value.int .i64)).toArray T)) fun e w' => e = .returned (.int .i64 y) ∧ ∃ p', Evo (· = b) p0 w0 p' w' ∧ Zp p' w' ∧ TK p' w' (fun _ => False) b (Qr ns (pos + 1)) := by
  obtain ⟨y, hy, h1⟩ := t_one hns (p := pos) (by omega) hx (by omega)
  have hdr : Evo (fun _ => False) p0 w0 p0 w0.drew := (Evo.refl _ _ _).drew
  have hea : Evo (fun _ => False) p0 w0.drew (upP p0 w0.drew.heap.size xs.length 1) (w0.drew.alloc (.cells (xs.map (Value.int .i64)).toArray T)) := evo_alloc _ _ _ 1
  have hE := hdr.trans hea (C := fun _ => False) (fun _ _ h => h) (fun _ _ h => h)
  have hr := rep_lits (p := p0) (w := w0.drew) T xs
  have hz1 : Zp (upP p0 w0.drew.heap.size xs.length 1) (w0.drew.alloc (.cells (xs.map (Value.int .i64)).toArray T)) := ⟨fun c hc => by
    simp at hc
    rw [upP_f, if_neg (by have : w0.drew.heap.size = w0.heap.size := rfl; omega)]
    exact hz.1 c (by omega), fun _ _ _ => trivial⟩
  refine ⟨y, hy, (((tok 61 (by kernel_rfl)).2 (Qr ns pos) [.cell (.sl 1 (intsC xs))] _ h1).2 _ _ b [.slice (some ⟨w0.heap.size, 0, none⟩) xs.length xs.length] ⟨hr, trivial⟩ hz1 (ht.evo hE)).mono ?_⟩
  rintro e w' ⟨v, rfl, p', hsr, _, _, hev', hz', ht', _⟩
  have hsr : Rep p' w' v (.int y) := hsr
  cases hsr
  exact ⟨rfl, p', (hE.weaken (fun _ _ h => h.elim)).trans hev' (fun _ _ e => e) (fun _ _ e => e), hz', ht'⟩
end
set_option maxHeartbeats 4000000 in
theorem drawMentionsOf_any {A : Option Addr} {n c : Nat} {w : World} (h : Code_ w A n c) :
    Calls Try.prog 40 #[.slice A n c] w fun e w' => ∃ v y, e = .returned (.tuple #[v, .int .i64 y]) ∧ (y ∈ ([0, 1, 2, 3, 0, -1] : List Int)) ∧ DrawnE w v w' := by
  have hnr := newReader_any (B := w.heap.size) (w := w.alloc (.cells #[.int .i64 0, .int .i64 0, .slice none 0 0] 38)) (by simp) (CodeB.alloc h (Nat.le_refl _) _)
  have HR := Lib.hid hnr
  clear hnr h
  go_enter Try.func40, Try.ntmps40
  go_wp2_with fail
  refine HR.out.mono ?_
  rintro e w2 ⟨rfl, N, ns, hns, ht, hs2, hev⟩
  have hev0 := (stab0_alloc w.heap.size N w (.cells #[.int .i64 0, .int .i64 0, .slice none 0 0] 38) (fun _ => False)).trans (hev (fun _ => False)) (C := fun _ => False) (fun _ _ h => h) (fun _ _ h => h)
  have hx2 := ((hev (fun _ => False)).block w.heap.size (by simp) (fun h => h)).trans (heap_alloc_new w (.cells #[.int .i64 0, .int .i64 0, .slice none 0 0] 38))
  have hs1 : (w.alloc (.cells #[.int .i64 0, .int .i64 0, .slice none 0 0] 38)).heap.size = w.heap.size + 1 := by simp
  rw [hs1] at ht hs2 ⊢
  have hse := someExpr_any hns (by omega) (stab0_zp (by omega) N) ht
  have HS := Lib.hid hse
  have HE := Lib.hid hev0
  clear hse hev0 hev HR ht
  go_wp2_with fail
  refine HS.out.mono ?_
  rintro e w3 ⟨v, p3, o, n3, kids, pos, rfl, hsr, hf, hsz, hev3, hz3, ht3, hpos⟩
  obtain ⟨arr, rfl, hla⟩ : ∃ arr, v = .agg arr ∧ RepL p3 w3 arr.toList [.int o, .int n3, .sl 3 kids] := hsr
  obtain ⟨ls⟩ := arr
  match ls, hla with
  | [x0, x1, x2], ⟨t0, t1, t2, _⟩ =>
  cases t0
  cases t1
  obtain ⟨A3, l3, d3, rfl⟩ := rep_slice t2
  have hne : w.heap.size ≠ w.heap.size + 1 := by omega
  have hb3 := ht3.lt
  have hx3 := (hev3.block w.heap.size (by omega) hne).trans hx2
  have hp3 := (hev3.same w.heap.size (by omega) hne).trans (stab0_at (Nat.le_refl _))
  have hea := evo_alloc (p := p3) (w := w3) (.cells #[.int .i64 o, .int .i64 n3, .slice A3 l3 d3] 38) 0 (fun _ => False)
  have hz4 : Zp (upP p3 w3.heap.size 0) (w3.alloc (.cells #[.int .i64 o, .int .i64 n3, .slice A3 l3 d3] 38)) := ⟨fun c hc => by
    rw [upP_f]
    split
    · rfl
    · exact hz3.1 c (by simp at hc; omega), fun _ _ _ => trivial⟩
  have hx4 := (hea.block w.heap.size (by omega) (fun h => h)).trans hx3
  have hp4 := (hea.same w.heap.size (by omega) (fun h => h)).trans hp3
  have hx5 := heap_alloc_new w3 (.cells #[.int .i64 o, .int .i64 n3, .slice A3 l3 d3] 38)
  have hs4 : (w3.alloc (.cells #[.int .i64 o, .int .i64 n3, .slice A3 l3 d3] 38)).heap.size = w3.heap.size + 1 := by simp
  have hE4 := (HE.out.trans hev3 (C := fun _ => False) (fun _ _ h => h) (fun q hq e => absurd hq (by have : q = w.heap.size + 1 := e; omega))).trans hea (C := fun _ => False) (fun _ _ h => h) (fun _ _ h => h)
  have t4 := t2.evo hea
  have ht4 := ht3.evo hea
  have c0 : (w3.alloc (.cells #[.int .i64 o, .int .i64 n3, .slice A3 l3 d3] 38)).cell? ⟨w3.heap.size, 0, none⟩ = some (.int .i64 o) := hcell_of (j := 0) hx5 rfl
  have c1 : (w3.alloc (.cells #[.int .i64 o, .int .i64 n3, .slice A3 l3 d3] 38)).cell? ⟨w3.heap.size, 1, none⟩ = some (.int .i64 n3) := hcell_of (j := 1) hx5 rfl
  have c2 : (w3.alloc (.cells #[.int .i64 o, .int .i64 n3, .slice A3 l3 d3] 38)).cell? ⟨w3.heap.size, 2, none⟩ = some (.slice A3 l3 d3) := hcell_of (j := 2) hx5 rfl
  have n1 : w3.heap.size ≠ w.heap.size + 1 := by omega
  have n2 : w.heap.size ≠ w3.heap.size := by omega
  clear hea HS HE t2 ht3 hz3 hev3 hx2 hx3 hp3 hs2 hs1
  go_wp2_with fail
  have h5lt : w3.heap.size < (w3.alloc (.cells #[.int .i64 o, .int .i64 n3, .slice A3 l3 d3] 38)).heap.size := by omega
  have h2lt : w.heap.size < (w3.alloc (.cells #[.int .i64 o, .int .i64 n3, .slice A3 l3 d3] 38)).heap.size := by omega
  clear hs4
  generalize w3.alloc (.cells #[.int .i64 o, .int .i64 n3, .slice A3 l3 d3] 38) = W at *
  generalize upP p3 w3.heap.size 0 = p4 at *
  generalize w3.heap.size = c5 at *
  obtain ⟨y, hy, hone⟩ := one_calls hns (pos := pos) (by omega) 3 (xs := [0, 1, 2, 3, 0, -1]) (by simp) (by simp) hz4 ht4
  have CK : Hid (Calls Try.prog 61 #[.pointer (some ⟨w.heap.size + 1, 0, none⟩), .slice (some ⟨W.heap.size, 0, none⟩) 6 6] (W.drew.alloc (.cells #[.int .i64 0, .int .i64 1, .int .i64 2, .int .i64 3, .int .i64 0, .int .i64 (-1)] 3)) fun e w' => e = .returned (.int .i64 y) ∧ ∃ p', Evo (· = w.heap.size + 1) p4 W p' w' ∧ Zp p' w') := Lib.hid (by
    refine Calls.mono hone ?_
    rintro e w' ⟨h1, p', h2, h3, _⟩
    exact ⟨h1, p', h2, h3⟩)
  have H4 := Lib.hid hE4
  have H5 := Lib.hid t4
  clear hone hE4 t4 hz4 ht4
  go_region_held3 (fun w' => w'.cell? ⟨c5, 0, none⟩ = some (.int .i64 o) ∧ w'.cell? ⟨c5, 1, none⟩ = some (.int .i64 n3) ∧ w'.cell? ⟨c5, 2, none⟩ = some (.slice A3 l3 d3))
    (first | go_keep | (exact ⟨by assumption, by assumption, by assumption⟩) | (exact ⟨(World.cell?_alloc_lt _ _ _ h5lt).trans c0, (World.cell?_alloc_lt _ _ _ h5lt).trans c1, (World.cell?_alloc_lt _ _ _ h5lt).trans c2⟩) | (exact ⟨by rw [World.cell?_setCell_far _ _ _ _ n2, World.cell?_setCell_far _ _ _ _ n2, World.cell?_setCell_far _ _ _ _ n2]; assumption, by rw [World.cell?_setCell_far _ _ _ _ n2, World.cell?_setCell_far _ _ _ _ n2, World.cell?_setCell_far _ _ _ _ n2]; assumption, by rw [World.cell?_setCell_far _ _ _ _ n2, World.cell?_setCell_far _ _ _ _ n2, World.cell?_setCell_far _ _ _ _ n2]; assumption⟩))
    (first | (go_at_call 61; refine CK.out.mono ?_; rintro e w' ⟨rfl, p', hev', hz'⟩; have q2 := (hev'.block _ h2lt hne).trans hx4; have e0 : w'.cell? ⟨c5, 0, none⟩ = some (.int .i64 o) := (World.cell?_of_block (hev'.block _ h5lt n1)).trans c0; have e1 : w'.cell? ⟨c5, 1, none⟩ = some (.int .i64 n3) := (World.cell?_of_block (hev'.block _ h5lt n1)).trans c1; have e2 : w'.cell? ⟨c5, 2, none⟩ = some (.slice A3 l3 d3) := (World.cell?_of_block (hev'.block _ h5lt n1)).trans c2; have k0 : w'.cell? ⟨w.heap.size, 0, none⟩ = some (.int .i64 0) := hcell_of (j := 0) q2 rfl; have k1 : w'.cell? ⟨w.heap.size, 1, none⟩ = some (.int .i64 0) := hcell_of (j := 1) q2 rfl; have k2 : w'.cell? ⟨w.heap.size, 2, none⟩ = some (.slice none 0 0) := hcell_of (j := 2) q2 rfl; have k3 := frozen_of_row w' _ 0 _ _ q2; have k4 := frozen_of_row w' _ 1 _ _ q2; have k5 := frozen_of_row w' _ 2 _ _ q2))
  have hp5 := (hev'.same _ h2lt hne).trans hp4
  have g1 := heap_setCell_same w' w.heap.size 0 _ _ (.int .i64 o) q2
  have g2 := heap_setCell_same _ w.heap.size 1 _ _ (.int .i64 n3) g1
  have g3 := heap_setCell_same _ w.heap.size 2 _ _ (.slice A3 l3 d3) g2
  have y0 := hcell_of (j := 0) g3 rfl
  have y1 := hcell_of (j := 1) g3 rfl
  have y2 := hcell_of (j := 2) g3 rfl
  have hevc : Evo (· = w.heap.size) p' w' p' (put3 w' w.heap.size 0 (.int .i64 o) (.int .i64 n3) (.slice A3 l3 d3)) := put3_evo p' hp5
  have hfin : DrawnE w (.agg #[.int .i64 o, .int .i64 n3, .slice A3 l3 d3]) (put3 w' w.heap.size 0 (.int .i64 o) (.int .i64 n3) (.slice A3 l3 d3)) :=
    ⟨N, p', o, n3, A3, l3, d3, kids, rfl, (H5.out.evo hev').evo hevc, hf, hsz, (H4.out.trans hev' (C := fun _ => False) (fun _ _ h => h) (fun q hq e => absurd hq (by have : q = w.heap.size + 1 := e; omega))).trans hevc (fun _ _ h => h) (fun q hq e => absurd hq (by have : q = w.heap.size := e; omega)), ⟨fun y hy => hz'.1 y (Nat.le_trans hevc.size hy), fun _ _ _ => trivial⟩⟩
  have HF := Lib.hid hfin
  clear hfin hevc g1 g2 g3 q2 hev' CK H4 H5 hx4 hx5 c0 c1 c2 e0 e1 e2 k0 k1 k2 k3 k4 k5
  go_wp2_with fail
  refine bodyPost_ret (v := .tuple #[.agg #[.int .i64 o, .int .i64 n3, .slice A3 l3 d3], .int .i64 y]) ?_ rfl ⟨_, y, rfl, hy, HF.out⟩
  simp [results, Try.results40, go_sem, y0, y1, y2]
end Go.Proofs.Ytgbeongiejppnaa
set_option maxRecDepth 100000
namespace Go.Proofs.Ytgbeongiejppnaa
open Go Go.RowKit
noncomputable def X_laws_FnMentionsOf : Ctx := { P := Try.prog, L := lay, F := sig.has, E := ext, fn := Try.f14, lv := [(0, [3, 4, 5, 6, 7])], jv := [], tp := [] }
noncomputable def laws_FnMentionsOf_L0 (n10 : Int) (n11 : Int) (l12 : List (List AC)) (n13 : Int) (n14 : Int) (n15 : Int) (n16 : Int) : Option AV := GL X_laws_FnMentionsOf 0 [(3, .box [.int n10, .int n11, .sl 3 l12]), (4, .v (.cell (.int n13))), (5, .v (.cell (.int n14))), (6, .v (.cell (.int n15))), (7, .v (.cell (.int n16)))]
theorem laws_FnMentionsOf_L0_le {n10 : Int} {n11 : Int} {l12 : List (List AC)} {n13 : Int} {n14 : Int} {n15 : Int} {n16 : Int} {r : AV} (h : ( bif (decide (n16 < ((l12.length : Nat) : Int))) then atR_ l12 n16 [.int 0, .int 0, .sl 3 []] fun n17 n18 l19 => callR (impl_MentionsOf [.agg [.int n17, .int n18, .sl 3 l19], .cell (.int n13)]) false [(false, [.int 0])] fun n20 => laws_FnMentionsOf_L0 n10 n11 l12 n13 n14 (wrapI (n15 + n20)) (wrapI (n16 + 1)) else some (.v (.cell (.bool (n15 == n14)))) : Option AV) = some r) : laws_FnMentionsOf_L0 n10 n11 l12 n13 n14 n15 n16 = some r := GL_le (X := X_laws_FnMentionsOf) (n := 100000) (by kernel_rfl) (by kernel_rfl : (X_laws_FnMentionsOf.fn.body.bind fun c => locL 0 c []) = some (.loop (loopOf (X_laws_FnMentionsOf.fn.body.bind fun c => locL 0 c [])), ksOf (X_laws_FnMentionsOf.fn.body.bind fun c => locL 0 c []))) (Eq.trans (by kernel_rfl) h)
theorem laws_FnMentionsOf_rest {n1 : Int} {n2 : Int} {l3 : List (List AC)} {n4 : Int} {r : AV} (h : ( callR (impl_MentionsOf [.agg [.int n1, .int n2, .sl 3 l3], .cell (.int n4)]) false [(false, [.int 0])] fun n5 => callR (spec_MentionsOf [.agg [.int n1, .int n2, .sl 3 l3], .cell (.int n4)]) false [(false, [.int 0])] fun n6 => bif (n5 != n6) then callR (spec_MentionsOf [.agg [.int n1, .int n2, .sl 3 l3], .cell (.int n4)]) false [(false, [.int 0])] fun n7 => some (.v (.cell (.bool (n5 == n7)))) else bif (decide (n5 < 0)) then callR (spec_MentionsOf [.agg [.int n1, .int n2, .sl 3 l3], .cell (.int n4)]) false [(false, [.int 0])] fun n8 => some (.v (.cell (.bool (n5 == n8)))) else bif (n1 == 12) then callR (spec_MentionsOf [.agg [.int n1, .int n2, .sl 3 l3], .cell (.int n4)]) false [(false, [.int 0])] fun n9 => some (.v (.cell (.bool (n5 == n9)))) else laws_FnMentionsOf_L0 n1 n2 l3 n4 n5 0 0 : Option AV) = some r) : evM X_laws_FnMentionsOf 100000 (.run (dropS 3 (cOf Try.f14))) [] [(3, .box [.int n1, .int n2, .sl 3 l3]), (4, .v (.cell (.int n4)))] = some r := Eq.trans (by kernel_rfl) h
theorem laws_FnMentionsOf_st : (tcode drawn lay sig (dropS 3 (cOf Try.f14)) (stM 57)).isSome = true := by kernel_rfl
def FnMentionsOfR0 : Code := Go.Code.region 0 #[{ dst := some 2, op := Go.Op.assign (Go.Operand.const (Go.Value.bool false)), type := 4, pos := "laws.go:764", after := #[], guard := none }] false
def FnMentionsOfR1 : Code := Go.Code.region 1 #[{ dst := some 8, op := Go.Op.move (Go.Operand.tmp 0), type := 22, pos := "laws.go:765", after := #[], guard := none }, { dst := some 9, op := Go.Op.call { callee := Go.Callee.builtin Go.Builtin.len, args := #[Go.Operand.tmp 8], argTypes := #[22] }, type := 3, pos := "laws.go:765", after := #[{ on := 0, ground := Go.Ground.data }], guard := none }, { dst := some 10, op := Go.Op.binOp Go.BinOp.gtr 3 (Go.Operand.tmp 9) (Go.Operand.const (Go.Value.int Go.IntKind.i64 1048576)) 3, type := 4, pos := "laws.go:765", after := #[{ on := 1, ground := Go.Ground.data }], guard := none }] false
def FnMentionsOfR2 : Code := Go.Code.region 2 #[{ dst := some 2, op := Go.Op.assign (Go.Operand.const (Go.Value.bool true)), type := 4, pos := "laws.go:766", after := #[], guard := none }] false
def FnMentionsOfR3 : Code := Go.Code.region 3 #[{ dst := some 12, op := Go.Op.move (Go.Operand.tmp 0), type := 22, pos := "laws.go:768", after := #[], guard := none }, { dst := some 13, op := Go.Op.call { callee := Go.Callee.value (Go.Operand.func 40), args := #[Go.Operand.tmp 12], argTypes := #[22] }, type := 57, pos := "laws.go:768", after := #[{ on := 0, ground := Go.Ground.data }], guard := none }, { dst := some 11, op := Go.Op.move (Go.Operand.tmp 13), type := 57, pos := "laws.go:768", after := #[{ on := 1, ground := Go.Ground.data }], guard := none }, { dst := some 14, op := Go.Op.extract (Go.Operand.tmp 11) 0, type := 38, pos := "laws.go:768", after := #[{ on := 2, ground := Go.Ground.data }], guard := none }, { dst := some 15, op := Go.Op.extract (Go.Operand.tmp 11) 1, type := 3, pos := "laws.go:768", after := #[{ on := 2, ground := Go.Ground.data }, { on := 6, ground := Go.Ground.gcOnly Go.Departure.lateStores }], guard := none }, { dst := some 3, op := Go.Op.alloc 38, type := 0, pos := "laws.go:768", after := #[], guard := none }, { dst := none, op := Go.Op.store 38 (Go.Operand.tmp 3) (Go.Operand.tmp 14), type := 0, pos := "laws.go:768", after := #[{ on := 5, ground := Go.Ground.data }, { on := 3, ground := Go.Ground.data }, { on := 1, ground := Go.Ground.chain }, { on := 0, ground := Go.Ground.phase }, { on := 1, ground := Go.Ground.phase }, { on := 2, ground := Go.Ground.phase }, { on := 3, ground := Go.Ground.phase }, { on := 4, ground := Go.Ground.textOnly Go.Departure.lateStores }, { on := 5, ground := Go.Ground.phase }], guard := none }, { dst := some 4, op := Go.Op.assign (Go.Operand.tmp 15), type := 3, pos := "laws.go:768", after := #[{ on := 4, ground := Go.Ground.data }, { on := 6, ground := Go.Ground.chain }, { on := 0, ground := Go.Ground.phase }, { on := 1, ground := Go.Ground.phase }, { on := 2, ground := Go.Ground.phase }, { on := 3, ground := Go.Ground.phase }, { on := 4, ground := Go.Ground.phase }, { on := 5, ground := Go.Ground.phase }, { on := 6, ground := Go.Ground.phase }], guard := none }] false
theorem fnMentionsOf_body : cOf Try.f14 = .seq FnMentionsOfR0 (.seq (.seq FnMentionsOfR1 (.cond (.tmp 10) (.seq FnMentionsOfR2 .ret) .skip)) (.seq FnMentionsOfR3 (dropS 3 (cOf Try.f14)))) := by kernel_rfl
theorem fnMentionsOf_lit {m : Array Value} (h : m.size = 57) : m = List.toArray (m.getD 0 undef :: m.getD 1 undef :: m.getD 2 undef :: m.getD 3 undef :: m.getD 4 undef :: m.getD 5 undef :: m.getD 6 undef :: m.getD 7 undef :: m.getD 8 undef :: m.getD 9 undef :: m.getD 10 undef :: m.getD 11 undef :: m.getD 12 undef :: m.getD 13 undef :: m.getD 14 undef :: m.getD 15 undef :: m.getD 16 undef :: m.getD 17 undef :: m.getD 18 undef :: m.getD 19 undef :: m.getD 20 undef :: m.getD 21 undef :: m.getD 22 undef :: m.getD 23 undef :: m.getD 24 undef :: m.getD 25 undef :: m.getD 26 undef :: m.getD 27 undef :: m.getD 28 undef :: m.getD 29 undef :: m.getD 30 undef :: m.getD 31 undef :: m.getD 32 undef :: m.getD 33 undef :: m.getD 34 undef :: m.getD 35 undef :: m.getD 36 undef :: m.getD 37 undef :: m.getD 38 undef :: m.getD 39 undef :: m.getD 40 undef :: m.getD 41 undef :: m.getD 42 undef :: m.getD 43 undef :: m.getD 44 undef :: m.getD 45 undef :: m.getD 46 undef :: m.getD 47 undef :: m.getD 48 undef :: m.getD 49 undef :: m.getD 50 undef :: m.getD 51 undef :: m.getD 52 undef :: m.getD 53 undef :: m.getD 54 undef :: m.getD 55 undef :: m.getD 56 undef :: []) := by
  apply Array.ext'
  have h1 : m.toList = (List.range 57).map (fun i => m.getD i undef) := by
    apply List.ext_getElem
    · simp [h]
    · intro i h1 h2
      simp only [Array.length_toList] at h1
      simp [Array.getD, h1]
  exact h1.trans rfl
set_option maxHeartbeats 4000000 in
theorem fnMentionsOf0_wp {f : Nat → Value} {A : Option Addr} {n c : Nat} {w : World}  (Q : Exit → Act → World → Prop) (hQ : ∀ a' : Act, a'.defers = [] → a'.tmps.size = 57 → a'.tmps.getD 0 undef = .slice A n c → Q .normal a' (w)) :
  FnMentionsOfR0.wp Try.prog Q { tmps := List.toArray (.slice A n c :: f 1 :: f 2 :: f 3 :: f 4 :: f 5 :: f 6 :: f 7 :: f 8 :: f 9 :: f 10 :: f 11 :: f 12 :: f 13 :: f 14 :: f 15 :: f 16 :: f 17 :: f 18 :: f 19 :: f 20 :: f 21 :: f 22 :: f 23 :: f 24 :: f 25 :: f 26 :: f 27 :: f 28 :: f 29 :: f 30 :: f 31 :: f 32 :: f 33 :: f 34 :: f 35 :: f 36 :: f 37 :: f 38 :: f 39 :: f 40 :: f 41 :: f 42 :: f 43 :: f 44 :: f 45 :: f 46 :: f 47 :: f 48 :: f 49 :: f 50 :: f 51 :: f 52 :: f 53 :: f 54 :: f 55 :: f 56 :: []), defers := [] } w := by
  unfold FnMentionsOfR0
  go_wp2
  exact hQ _ rfl rfl rfl
theorem fnMentionsOf0_at {m : Array Value} {A : Option Addr} {n c : Nat} {w : World}  (hs : m.size = 57) (m0 : m.getD 0 undef = .slice A n c) (Q : Exit → Act → World → Prop) (hQ : ∀ a' : Act, a'.defers = [] → a'.tmps.size = 57 → a'.tmps.getD 0 undef = .slice A n c → Q .normal a' (w)) :
  FnMentionsOfR0.wp Try.prog Q { tmps := m, defers := [] } w := by
  have e := fnMentionsOf_lit hs
  rw [m0] at e
  rw [e]
  exact fnMentionsOf0_wp (f := fun i => m.getD i undef)  Q hQ
set_option maxHeartbeats 4000000 in
theorem fnMentionsOf1_wp {f : Nat → Value} {A : Option Addr} {n c : Nat} {w : World} (hn : ¬ (1048576 : Int) < (n : Int)) (Q : Exit → Act → World → Prop) (hQ : ∀ a' : Act, a'.defers = [] → a'.tmps.size = 57 → a'.tmps.getD 0 undef = .slice A n c → a'.tmps.getD 10 undef = .bool false → Q .normal a' (w)) :
  FnMentionsOfR1.wp Try.prog Q { tmps := List.toArray (.slice A n c :: f 1 :: f 2 :: f 3 :: f 4 :: f 5 :: f 6 :: f 7 :: f 8 :: f 9 :: f 10 :: f 11 :: f 12 :: f 13 :: f 14 :: f 15 :: f 16 :: f 17 :: f 18 :: f 19 :: f 20 :: f 21 :: f 22 :: f 23 :: f 24 :: f 25 :: f 26 :: f 27 :: f 28 :: f 29 :: f 30 :: f 31 :: f 32 :: f 33 :: f 34 :: f 35 :: f 36 :: f 37 :: f 38 :: f 39 :: f 40 :: f 41 :: f 42 :: f 43 :: f 44 :: f 45 :: f 46 :: f 47 :: f 48 :: f 49 :: f 50 :: f 51 :: f 52 :: f 53 :: f 54 :: f 55 :: f 56 :: []), defers := [] } w := by
  unfold FnMentionsOfR1
  go_wp2
  exact hQ _ rfl rfl rfl rfl
theorem fnMentionsOf1_at {m : Array Value} {A : Option Addr} {n c : Nat} {w : World} (hn : ¬ (1048576 : Int) < (n : Int)) (hs : m.size = 57) (m0 : m.getD 0 undef = .slice A n c) (Q : Exit → Act → World → Prop) (hQ : ∀ a' : Act, a'.defers = [] → a'.tmps.size = 57 → a'.tmps.getD 0 undef = .slice A n c → a'.tmps.getD 10 undef = .bool false → Q .normal a' (w)) :
  FnMentionsOfR1.wp Try.prog Q { tmps := m, defers := [] } w := by
  have e := fnMentionsOf_lit hs
  rw [m0] at e
  rw [e]
  exact fnMentionsOf1_wp (f := fun i => m.getD i undef) hn Q hQ
set_option maxHeartbeats 4000000 in
theorem fnMentionsOf3_wp {f : Nat → Value} {A : Option Addr} {n c : Nat} {w : World} {post : Int → Int → Option Addr → Nat → Nat → Int → World → Prop} (hcall : Calls Try.prog 40 #[.slice A n c] w fun e w' => ∃ x0 x1 A3 l3 k3 y, e = .returned (.tuple #[.agg #[.int .i64 x0, .int .i64 x1, .slice A3 l3 k3], .int .i64 y]) ∧ post x0 x1 A3 l3 k3 y w') (Q : Exit → Act → World → Prop) (hQ : ∀ x0 x1 A3 l3 k3 (y : Int) (w' : World), post x0 x1 A3 l3 k3 y w' → ∀ a' : Act, a'.defers = [] → a'.tmps.size = 57 → a'.tmps.getD 0 undef = .slice A n c → a'.tmps.getD 3 undef = .pointer (some ⟨w'.heap.size, 0, none⟩) → a'.tmps.getD 4 undef = .int .i64 y → Q .normal a' (w'.alloc (.cells #[.int .i64 x0, .int .i64 x1, .slice A3 l3 k3] 38))) :
  FnMentionsOfR3.wp Try.prog Q { tmps := List.toArray (.slice A n c :: f 1 :: f 2 :: f 3 :: f 4 :: f 5 :: f 6 :: f 7 :: f 8 :: f 9 :: f 10 :: f 11 :: f 12 :: f 13 :: f 14 :: f 15 :: f 16 :: f 17 :: f 18 :: f 19 :: f 20 :: f 21 :: f 22 :: f 23 :: f 24 :: f 25 :: f 26 :: f 27 :: f 28 :: f 29 :: f 30 :: f 31 :: f 32 :: f 33 :: f 34 :: f 35 :: f 36 :: f 37 :: f 38 :: f 39 :: f 40 :: f 41 :: f 42 :: f 43 :: f 44 :: f 45 :: f 46 :: f 47 :: f 48 :: f 49 :: f 50 :: f 51 :: f 52 :: f 53 :: f 54 :: f 55 :: f 56 :: []), defers := [] } w := by
  unfold FnMentionsOfR3
  go_wp2_with fail
  refine hcall.mono ?_
  rintro e w' ⟨x0, x1, A3, l3, k3, y, rfl, hp⟩
  go_wp2
  exact hQ _ _ _ _ _ _ _ hp _ rfl rfl rfl rfl rfl
theorem fnMentionsOf3_at {m : Array Value} {A : Option Addr} {n c : Nat} {w : World} {post : Int → Int → Option Addr → Nat → Nat → Int → World → Prop} (hcall : Calls Try.prog 40 #[.slice A n c] w fun e w' => ∃ x0 x1 A3 l3 k3 y, e = .returned (.tuple #[.agg #[.int .i64 x0, .int .i64 x1, .slice A3 l3 k3], .int .i64 y]) ∧ post x0 x1 A3 l3 k3 y w') (hs : m.size = 57) (m0 : m.getD 0 undef = .slice A n c) (Q : Exit → Act → World → Prop) (hQ : ∀ x0 x1 A3 l3 k3 (y : Int) (w' : World), post x0 x1 A3 l3 k3 y w' → ∀ a' : Act, a'.defers = [] → a'.tmps.size = 57 → a'.tmps.getD 0 undef = .slice A n c → a'.tmps.getD 3 undef = .pointer (some ⟨w'.heap.size, 0, none⟩) → a'.tmps.getD 4 undef = .int .i64 y → Q .normal a' (w'.alloc (.cells #[.int .i64 x0, .int .i64 x1, .slice A3 l3 k3] 38))) :
  FnMentionsOfR3.wp Try.prog Q { tmps := m, defers := [] } w := by
  have e := fnMentionsOf_lit hs
  rw [m0] at e
  rw [e]
  exact fnMentionsOf3_wp (f := fun i => m.getD i undef) hcall Q hQ
set_option maxHeartbeats 4000000 in
theorem fnMentionsOf_walk_of (hval : ∀ (o n : Int) (kids : List (List AC)) (y : Int), Fit .expr [.int o, .int n, .sl 3 kids] → 1 + kids.length + rsS kids ≤ 3000 → y ∈ ([0, 1, 2, 3, 0, -1] : List Int) → evM X_laws_FnMentionsOf 100000 (.run (dropS 3 (cOf Try.f14))) [] [(3, .box [.int o, .int n, .sl 3 kids]), (4, .v (.cell (.int y)))] = some (.v (.cell (.bool true))))
    (hdraw : ∀ (A : Option Addr) (n c : Nat) (w : World), Code_ w A n c → Calls Try.prog 40 #[.slice A n c] w fun e w' => ∃ v y, e = .returned (.tuple #[v, .int .i64 y]) ∧ (y ∈ ([0, 1, 2, 3, 0, -1] : List Int)) ∧ DrawnE w v w')
    (A : Option Addr) (n c : Nat) (w : World) (h : Code_ w A n c) : Calls Try.prog 14 #[.slice A n c] w fun e w' => e = .returned (.bool true) ∧ Below w.heap.size w w' := by
  by_cases hbig : 1048576 < n
  · go_enter Try.func14, Try.ntmps14
    go_wp2_with fail
    go_ret
    exact ⟨rfl, Below.refl _ _⟩
  · refine calls_of_wp Try.func14 (c := cOf Try.f14) (by kernel_rfl) ?_
    rw [fnMentionsOf_body]
    have hs0 : (#[Value.slice A n c] ++ Array.replicate (Try.f14.ntmps - (#[.slice A n c] : Array Value).size) undef).size = 57 := by simp [Try.ntmps14]
    have h0 : (#[Value.slice A n c] ++ Array.replicate (Try.f14.ntmps - (#[.slice A n c] : Array Value).size) undef).getD 0 undef = Value.slice A n c := by simp [Array.getD]
    generalize (#[Value.slice A n c] ++ Array.replicate (Try.f14.ntmps - (#[.slice A n c] : Array Value).size) undef) = m0 at hs0 h0
    refine wp_seq (fnMentionsOf0_at hs0 h0 _ fun a1 hd1 hs1 h1 => ?_)
    obtain ⟨m1, dd⟩ := a1
    have hd1 : dd = [] := hd1
    subst hd1
    refine wp_seq (wp_seq (fnMentionsOf1_at (by omega) hs1 h1 _ fun a2 hd2 hs2 h2 h29 => ?_))
    obtain ⟨m2, dd⟩ := a2
    have hd2 : dd = [] := hd2
    subst hd2
    refine wp_cond (t := false) h29 ?_
    simp only [Bool.false_eq_true, if_false]
    refine wp_skip ?_
    show Code.wp _ (.seq FnMentionsOfR3 (dropS 3 (cOf Try.f14))) _ ⟨m2, []⟩ w
    refine wp_seq (fnMentionsOf3_at (post := fun x0 x1 A3 l3 k3 y w' => (y ∈ ([0, 1, 2, 3, 0, -1] : List Int)) ∧ DrawnE w (.agg #[.int .i64 x0, .int .i64 x1, .slice A3 l3 k3]) w') ?_ hs2 h2 _ ?_)
    · refine (hdraw A n c w h).mono ?_
      rintro e w' ⟨v, y, rfl, hy, N, p', o, n', A', l, c', kids, rfl, hd⟩
      exact ⟨_, _, _, _, _, _, rfl, hy, N, p', o, n', A', l, c', kids, rfl, hd⟩
    rintro x0 x1 A3 l3 k3 y w1 ⟨hy, N, p1, o, n', A', l, c', kids, hv, hrep, hf, hs, hev, hz⟩ a3 hd3 hs3 h3 h33 h34
    injection hv with hv
    have hv := congrArg Array.toList hv
    simp only [List.cons.injEq, Value.int.injEq, true_and, and_true] at hv
    obtain ⟨rfl, rfl, hv⟩ := hv
    obtain ⟨m3, dd⟩ := a3
    have hd3 : dd = [] := hd3
    subst hd3
    have hs3 : m3.size = 57 := hs3
    have h33 : m3.getD 3 undef = .pointer (some ⟨w1.heap.size, 0, none⟩) := h33
    have h34 : m3.getD 4 undef = .int .i64 y := h34
    have hea := evo_alloc (p := p1) (w := w1) (.cells #[.int .i64 x0, .int .i64 x1, .slice A3 l3 k3] 38) 0 (fun _ => False)
    have hx := heap_alloc_new w1 (.cells #[.int .i64 x0, .int .i64 x1, .slice A3 l3 k3] 38)
    have hz1 : Zp (upP p1 w1.heap.size 0) (w1.alloc (.cells #[.int .i64 x0, .int .i64 x1, .slice A3 l3 k3] 38)) := ⟨fun c hc => by
      rw [upP_f]
      split
      · rfl
      · exact hz.1 c (by simp at hc; omega), fun _ _ _ => trivial⟩
    have hE := hev.trans hea (C := fun _ => False) (fun _ _ h => h) (fun _ _ h => h)
    have hr1 : Rep (upP p1 w1.heap.size 0) (w1.alloc (.cells #[.int .i64 x0, .int .i64 x1, .slice A3 l3 k3] 38)) (.slice A3 l3 k3) (.sl 3 kids) := by
      obtain ⟨rfl, rfl, rfl⟩ : A3 = A' ∧ l3 = l ∧ k3 = c' := by simpa using hv
      exact hrep.evo hea
    have hK : Known (upP p1 w1.heap.size 0) (w1.alloc (.cells #[.int .i64 x0, .int .i64 x1, .slice A3 l3 k3] 38)) m3 57 [(3, .box [.int x0, .int x1, .sl 3 kids]), (4, .v (.cell (.int y)))] (fun x => w.heap.size ≤ x) := by
      have look : ∀ t x, List.lookup t [(3, .box [.int x0, .int x1, .sl 3 kids]), (4, .v (.cell (.int y)))] = some x → (t = 3 ∧ x = AV.box [.int x0, .int x1, .sl 3 kids]) ∨ (t = 4 ∧ x = AV.v (.cell (.int y))) := fun t x hx => by
        simp only [List.lookup_cons] at hx
        by_cases h3 : t = 3
        · subst h3; simp at hx; exact .inl ⟨rfl, hx.symm⟩
        · rw [show (t == 3) = false by simpa using h3] at hx
          by_cases h4 : t = 4
          · subst h4; simp at hx; exact .inr ⟨rfl, hx.symm⟩
          · rw [show (t == 4) = false by simpa using h4] at hx
            simp at hx
      refine ⟨fun t x hx' => ?_, fun t x hx' => ?_, fun t t' cs cs' x ht h1 h2 h3 h4 => ?_⟩
      · rcases look t x hx' with ⟨rfl, rfl⟩ | ⟨rfl, rfl⟩
        · exact ⟨by omega, _, _, _, h33, hx, .int _, .int _, hr1, trivial⟩
        · exact ⟨by omega, by rw [h34]; exact .int _⟩
      · rcases look t x hx' with ⟨rfl, rfl⟩ | ⟨rfl, rfl⟩
        · exact .inr ⟨_, _, rfl, h33, by rw [upP_f, if_pos rfl], hev.size⟩
        · exact .inl ⟨_, rfl⟩
      · rcases look _ _ h1 with ⟨rfl, _⟩ | h
        · rcases look _ _ h2 with ⟨rfl, _⟩ | h
          · exact ht rfl
          · cases h.2
        · cases h.2
    obtain ⟨O, hO⟩ := Option.isSome_iff_exists.1 laws_FnMentionsOf_st
    have hI := invN_known hs3 hK hz1 (fun x hx => Nat.le_trans hE.size hx)
    refine wp_bodyPost_mono (restN_ok (X := X_laws_FnMentionsOf) (a := { tmps := m3, defers := [] }) orders_ok lay_ok vok (hval x0 x1 kids y hf hs hy) (knownL_len _ _ _) (knownN_ag fun t x hx => (hK.lt t x hx).1) hO hI rfl hE) ?_
    rintro e w' ⟨v, rfl, p', hsr, _, _, hev', hz'⟩
    have hsr : Rep p' w' v (.bool true) := hsr
    cases hsr
    exact ⟨rfl, hev'.os, hev'.tape, hev'.output, hev'.size, fun b hb => hev'.block b hb (fun h => h)⟩
end Go.Proofs.Ytgbeongiejppnaa
namespace Go.Proofs.Ytgbeongiejppnaa
open Go Go.RowKit
def sumK (f : List AC → Nat) (kids : List (List AC)) : Nat := (kids.map f).sum
theorem sumK_drop (f : List AC → Nat) {kids : List (List AC)} {k : Nat} (h : k < kids.length) : sumK f (kids.drop k) = f (kids.getD k []) + sumK f (kids.drop (k + 1)) := by
  unfold sumK
  rw [List.drop_eq_getElem_cons h, List.map_cons, List.sum_cons]
  simp [List.getD, h]
def men (v : Int) : Nat → List AC → Nat
  | s + 1, [.int o, .int n, .sl 3 kids] => (if o = 12 ∧ n = v then 1 else 0) + sumK (men v s) kids
  | _, _ => 0
theorem men_eq (v : Int) (s : Nat) (o n : Int) (kids : List (List AC)) : men v (s + 1) [.int o, .int n, .sl 3 kids] = (if o = 12 ∧ n = v then 1 else 0) + sumK (men v s) kids := rfl
theorem sumK_le {f : List AC → Nat} {kids : List (List AC)} (h : ∀ k, k < kids.length → f (kids.getD k []) ≤ 1 + cS (kids.getD k [])) : ∀ m k : Nat, k + m = kids.length → sumK f (kids.drop k) ≤ remN kids k := by
  intro m
  induction m with
  | zero =>
    intro k hk
    rw [List.drop_eq_nil_of_le (by omega)]
    exact Nat.zero_le _
  | succ m ih =>
    intro k hk
    have hlt : k < kids.length := by omega
    have h1 := ih (k + 1) (by omega)
    have h2 := h k hlt
    rw [sumK_drop f hlt, remN_succ hlt]
    omega
theorem men_both : ∀ (s : Nat) (v o n : Int) (kids : List (List AC)), Fit .expr [.int o, .int n, .sl 3 kids] → cS [.int o, .int n, .sl 3 kids] < s → s ≤ 31 →
    men v s [.int o, .int n, .sl 3 kids] ≤ 1 + cS [.int o, .int n, .sl 3 kids] ∧ impl_nodesWith [.agg [.int o, .int n, .sl 3 kids], .cell (.int 12), .cell (.int v)] = rI ((men v s [.int o, .int n, .sl 3 kids] : Nat) : Int) ∧ spec_mentionsOf [.agg [.int o, .int n, .sl 3 kids], .cell (.int v)] = rI ((men v s [.int o, .int n, .sl 3 kids] : Nat) : Int) := by
  intro s
  induction s with
  | zero => intro v o n kids _ h; omega
  | succ s ihs =>
    intro v o n kids hf hs hs31
    obtain ⟨_, hn, hml, hk⟩ := fit_ex hf
    have hr0 := remN_zero o n kids
    have hcs := cS_ex o n kids
    have kid : ∀ k (hlt : k < kids.length), men v s (kids.getD k []) ≤ 1 + cS (kids.getD k []) ∧ impl_nodesWith [.agg (kids.getD k []), .cell (.int 12), .cell (.int v)] = rI ((men v s (kids.getD k []) : Nat) : Int) ∧ spec_mentionsOf [.agg (kids.getD k []), .cell (.int v)] = rI ((men v s (kids.getD k []) : Nat) : Int) := fun k hlt => by
      obtain ⟨o', n', ks, e, hf'⟩ := fit_kid hk hlt
      have h1 := kid_lt hlt (o := o) (n := n)
      rw [e] at h1 ⊢
      exact ihs v o' n' ks hf' (by omega) (by omega)
    have hb := sumK_le (f := men v s) (fun k h => (kid k h).1)
    have li : ∀ m k : Nat, k + m = kids.length → ∀ c : Nat, c + remN kids k ≤ 1000 → impl_nodesWith_L0 12 v (c : Int) kids ((kids.length : Nat) : Int) (k : Int) = rI ((c + sumK (men v s) (kids.drop k) : Nat) : Int) := by
      intro m
      induction m with
      | zero =>
        intro k hkm c hc
        rw [List.drop_eq_nil_of_le (by omega)]
        exact impl_nodesWith_L0_le (bifF (decide_eq_false (by omega)) rfl)
      | succ m ih =>
        intro k hkm c hc
        have hlt : k < kids.length := by omega
        obtain ⟨o', n', ks, e, _⟩ := fit_kid hk hlt
        obtain ⟨g1, g2, _⟩ := kid k hlt
        have hr := remN_succ hlt
        rw [sumK_drop _ hlt]
        generalize men v s (kids.getD k []) = y at *
        rw [e] at g2
        refine impl_nodesWith_L0_le (bifT (decide_eq_true (by omega)) (atExpr hlt e (callI g2 ?_)))
        have w2 : wrapI ((c : Int) + (y : Int)) = ((c + y : Nat) : Int) := by rw [wr (by omega) (by omega)]; omega
        rw [w2, wrk (by unfold maxI; omega), ih (k + 1) (by omega) _ (by omega), Nat.add_assoc]
    have ls : ∀ m k : Nat, k + m = kids.length → ∀ c : Nat, c + remN kids k ≤ 1000 → spec_mentionsOf_L0 v o n kids (c : Int) (k : Int) = rI ((c + sumK (men v s) (kids.drop k) : Nat) : Int) := by
      intro m
      induction m with
      | zero =>
        intro k hkm c hc
        rw [List.drop_eq_nil_of_le (by omega)]
        exact spec_mentionsOf_L0_le (bifF (decide_eq_false (by omega)) rfl)
      | succ m ih =>
        intro k hkm c hc
        have hlt : k < kids.length := by omega
        obtain ⟨o', n', ks, e, _⟩ := fit_kid hk hlt
        obtain ⟨g1, _, g2⟩ := kid k hlt
        have hr := remN_succ hlt
        rw [sumK_drop _ hlt]
        generalize men v s (kids.getD k []) = y at *
        rw [e] at g2
        refine spec_mentionsOf_L0_le (bifT (decide_eq_true (by omega)) (atExpr hlt e (callI g2 ?_)))
        have w2 : wrapI ((c : Int) + (y : Int)) = ((c + y : Nat) : Int) := by rw [wr (by omega) (by omega)]; omega
        rw [w2, wrk (by unfold maxI; omega), ih (k + 1) (by omega) _ (by omega), Nat.add_assoc]
    have h0 := hb kids.length 0 (by omega)
    have i0 := fun c hc => li kids.length 0 (by omega) c hc
    have s0 := fun c hc => ls kids.length 0 (by omega) c hc
    rw [List.drop_zero] at h0
    simp only [List.drop_zero] at i0 s0
    rw [men_eq]
    by_cases ho : o = 12
    · by_cases hv : n = v
      · rw [if_pos ⟨ho, hv⟩]
        exact ⟨by omega, impl_nodesWith_le (bifT (eqt ho) (bifT (eqt hv) (i0 1 (by omega)))), spec_mentionsOf_le (bifT (eqt ho) (bifT (eqt hv) (s0 1 (by omega))))⟩
      · rw [if_neg (fun h => hv h.2)]
        exact ⟨by omega, impl_nodesWith_le (bifT (eqt ho) (bifF (eqf hv) (i0 0 (by omega)))), spec_mentionsOf_le (bifT (eqt ho) (bifF (eqf hv) (s0 0 (by omega))))⟩
    · rw [if_neg (fun h => ho h.1)]
      exact ⟨by omega, impl_nodesWith_le (bifF (eqf ho) (i0 0 (by omega))), spec_mentionsOf_le (bifF (eqf ho) (s0 0 (by omega)))⟩
def menV (v : Int) (s : Nat) (x : List AC) : Int := if cS x ≤ 29 then ((men v s x : Nat) : Int) else -1
theorem nodV_cases {x : List AC} : (cS x ≤ 29 ∧ decide (nodV x < 0) = false) ∨ (¬ cS x ≤ 29 ∧ decide (nodV x < 0) = true) := by
  unfold nodV
  by_cases h : cS x ≤ 29
  · rw [if_pos h]; exact .inl ⟨h, decide_eq_false (by omega)⟩
  · rw [if_neg h]; exact .inr ⟨h, rfl⟩
theorem i_mentions {v o n : Int} {kids : List (List AC)} (hf : Fit .expr [.int o, .int n, .sl 3 kids]) {s : Nat} (hs : cS [.int o, .int n, .sl 3 kids] ≤ 29 → cS [.int o, .int n, .sl 3 kids] < s) (hs31 : s ≤ 31) : impl_MentionsOf [.agg [.int o, .int n, .sl 3 kids], .cell (.int v)] = rI (menV v s [.int o, .int n, .sl 3 kids]) := by
  unfold menV
  rcases nodV_cases (x := [.int o, .int n, .sl 3 kids]) with ⟨h, e⟩ | ⟨h, e⟩
  · rw [if_pos h]
    exact impl_MentionsOf_le (callI (i_nodesOf hf) (bifF e (callI (men_both s v o n kids hf (hs h) hs31).2.1 rfl)))
  · rw [if_neg h]
    exact impl_MentionsOf_le (callI (i_nodesOf hf) (bifT e rfl))
theorem s_mentions {v o n : Int} {kids : List (List AC)} (hf : Fit .expr [.int o, .int n, .sl 3 kids]) {s : Nat} (hs : cS [.int o, .int n, .sl 3 kids] ≤ 29 → cS [.int o, .int n, .sl 3 kids] < s) (hs31 : s ≤ 31) : spec_MentionsOf [.agg [.int o, .int n, .sl 3 kids], .cell (.int v)] = rI (menV v s [.int o, .int n, .sl 3 kids]) := by
  unfold menV
  rcases nodV_cases (x := [.int o, .int n, .sl 3 kids]) with ⟨h, e⟩ | ⟨h, e⟩
  · rw [if_pos h]
    exact spec_MentionsOf_le (callI (s_nodesOf hf) (bifF e (callI (men_both s v o n kids hf (hs h) hs31).2.2 rfl)))
  · rw [if_neg h]
    exact spec_MentionsOf_le (callI (s_nodesOf hf) (bifT e rfl))
theorem val_MentionsOf {o n y : Int} {kids : List (List AC)} (hf : Fit .expr [.int o, .int n, .sl 3 kids]) (hs : 1 + kids.length + rsS kids ≤ 3000) :
    evM X_laws_FnMentionsOf 100000 (.run (dropS 3 (cOf Try.f14))) [] [(3, .box [.int o, .int n, .sl 3 kids]), (4, .v (.cell (.int y)))] = some (.v (.cell (.bool true))) := by
  have hI := i_mentions (v := y) hf (s := 31) (by omega) (by omega)
  have hS := s_mentions (v := y) hf (s := 31) (by omega) (by omega)
  refine laws_FnMentionsOf_rest (callI hI (callI hS (bifF (nef rfl) ?_)))
  have hcS := cS_ex o n kids
  have hr0 := remN_zero o n kids
  by_cases hz : cS [.int o, .int n, .sl 3 kids] ≤ 29
  rotate_left
  · unfold menV
    rw [if_neg hz]
    refine bifT rfl (callI (n := -1) ?_ rfl)
    rw [hS]
    unfold menV
    rw [if_neg hz]
  have hv : menV y 31 [.int o, .int n, .sl 3 kids] = ((men y 31 [.int o, .int n, .sl 3 kids] : Nat) : Int) := by unfold menV; rw [if_pos hz]
  rw [hv] at hS ⊢
  have hb := (men_both 31 y o n kids hf (by omega) (by omega)).1
  refine bifF (decide_eq_false (by omega)) ?_
  by_cases ho : o = 12
  · refine bifT (eqt ho) (callI hS ?_)
    rw [eqt rfl]
  refine bifF (eqf ho) ?_
  rw [men_eq, if_neg (fun h => ho h.1), Nat.zero_add] at *
  obtain ⟨_, _, hl, hk⟩ := fit_ex hf
  have hkid : ∀ k, k < kids.length → men y 30 (kids.getD k []) ≤ 1 + cS (kids.getD k []) := fun k hlt => by
    obtain ⟨o', n', ks, e, hf'⟩ := fit_kid hk hlt
    have h1 := kid_lt hlt (o := o) (n := n)
    rw [e] at h1 ⊢
    exact (men_both 30 y o' n' ks hf' (by omega) (by omega)).1
  have key : ∀ m k : Nat, k + m = kids.length → ∀ c : Nat, c + sumK (men y 30) (kids.drop k) = sumK (men y 30) kids → laws_FnMentionsOf_L0 o n kids y ((sumK (men y 30) kids : Nat) : Int) (c : Int) (k : Int) = rB true := by
    intro m
    induction m with
    | zero =>
      intro k hkm c hc
      rw [List.drop_eq_nil_of_le (by omega)] at hc
      have hc : c = sumK (men y 30) kids := hc
      refine laws_FnMentionsOf_L0_le (bifF (decide_eq_false (by omega)) ?_)
      rw [hc, eqt rfl]
    | succ m ih =>
      intro k hkm c hc
      have hlt : k < kids.length := by omega
      obtain ⟨o', n', ks, e, hf'⟩ := fit_kid hk hlt
      have h1 := kid_lt hlt (o := o) (n := n)
      rw [sumK_drop _ hlt] at hc
      have hkk := hkid k hlt
      rw [e] at h1 hc hkk
      have g := i_mentions (v := y) hf' (s := 30) (fun _ => by omega) (by omega)
      unfold menV at g
      rw [if_pos (by omega)] at g
      refine laws_FnMentionsOf_L0_le (bifT (decide_eq_true (by omega)) (atExpr hlt e (callI g ?_)))
      generalize men y 30 [.int o', .int n', .sl 3 ks] = q at *
      have hsum := sumK_le hkid kids.length 0 (by omega)
      rw [List.drop_zero] at hsum
      have w2 : wrapI ((c : Int) + (q : Int)) = ((c + q : Nat) : Int) := by rw [wr (by omega) (by omega)]; omega
      rw [w2, wrk (by unfold maxI; omega)]
      exact ih (k + 1) (by omega) _ (by omega)
  exact key kids.length 0 (by omega) 0 (by rw [List.drop_zero]; omega)
theorem fnMentionsOf_walk (A : Option Addr) (n c : Nat) (w : World) (h : Code_ w A n c) : Calls Try.prog 14 #[.slice A n c] w fun e w' => e = .returned (.bool true) ∧ Below w.heap.size w w' :=
  fnMentionsOf_walk_of (fun _ _ _ _ hf hs _ => val_MentionsOf hf hs) (fun _ _ _ _ h => drawMentionsOf_any h) A n c w h
end Go.Proofs.Ytgbeongiejppnaa

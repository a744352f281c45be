/- Generic texts and models for the proofs of this seat: part 37. -/
import Derived.Test.YtbodfaghedolbaaS36
import Derived.BigRegion
import Derived.StillTailTactics
import Derived.WalkKit
set_option linter.unusedVariables false
set_option linter.unusedSimpArgs false
namespace Go.Proofs.Ytbodfaghedolbaa
open Go Go.RowKit
def R7 : Code := Go.Code.region 7 #[{ dst := some 76, op := Go.Op.fieldAddr 26 (Go.Operand.tmp 3) 1, type := 0, pos := "l30_generate.go:417", after := #[], guard := none }, { dst := some 77, op := Go.Op.load 24 (Go.Operand.tmp 76), type := 24, pos := "l30_generate.go:417", after := #[{ on := 0, ground := Go.Ground.data }], guard := none }, { dst := some 78, op := Go.Op.move (Go.Operand.tmp 7), type := 3, pos := "l30_generate.go:417", after := #[], guard := none }, { dst := some 79, op := Go.Op.slice 24 (Go.Operand.tmp 77) none (some (Go.Operand.tmp 78)) none, type := 24, pos := "l30_generate.go:417", after := #[{ on := 1, ground := Go.Ground.data }, { on := 2, ground := Go.Ground.data }], guard := none }, { dst := some 80, op := Go.Op.fieldAddr 26 (Go.Operand.tmp 3) 1, type := 0, pos := "l30_generate.go:417", after := #[{ on := 0, ground := Go.Ground.phase }, { on := 1, ground := Go.Ground.phase }, { on := 2, ground := Go.Ground.phase }, { on := 3, ground := Go.Ground.phase }], guard := none }, { dst := none, op := Go.Op.store 24 (Go.Operand.tmp 80) (Go.Operand.tmp 79), type := 0, pos := "l30_generate.go:417", after := #[{ on := 4, ground := Go.Ground.data }, { on := 3, ground := Go.Ground.data }, { on := 0, ground := Go.Ground.phase }, { on := 1, ground := Go.Ground.phase }, { on := 2, ground := Go.Ground.phase }, { on := 3, ground := Go.Ground.phase }], guard := none }] false
def R8 : Code := Go.Code.region 8 #[{ dst := some 81, op := Go.Op.move (Go.Operand.tmp 7), type := 3, pos := "l30_generate.go:418", after := #[], guard := none }, { dst := some 82, op := Go.Op.binOp Go.BinOp.sub 3 (Go.Operand.tmp 81) (Go.Operand.const (Go.Value.int Go.IntKind.i64 1)) 3, type := 3, pos := "l30_generate.go:418", after := #[{ on := 0, ground := Go.Ground.data }], guard := none }, { dst := some 8, op := Go.Op.assign (Go.Operand.tmp 82), type := 3, pos := "l30_generate.go:418", after := #[{ on := 1, ground := Go.Ground.data }, { on := 0, ground := Go.Ground.phase }, { on := 1, ground := Go.Ground.phase }], guard := none }] false
def R9 : Code := Go.Code.region 9 #[{ dst := some 83, op := Go.Op.move (Go.Operand.tmp 8), type := 3, pos := "l30_generate.go:418", after := #[], guard := none }, { dst := some 84, op := Go.Op.binOp Go.BinOp.geq 3 (Go.Operand.tmp 83) (Go.Operand.const (Go.Value.int Go.IntKind.i64 0)) 3, type := 4, pos := "l30_generate.go:418", after := #[{ on := 0, ground := Go.Ground.data }], guard := none }] false
def R10 : Code := Go.Code.region 10 #[{ dst := some 85, op := Go.Op.move (Go.Operand.tmp 8), type := 3, pos := "l30_generate.go:418", after := #[], guard := none }, { dst := some 86, op := Go.Op.binOp Go.BinOp.sub 3 (Go.Operand.tmp 85) (Go.Operand.const (Go.Value.int Go.IntKind.i64 1)) 3, type := 3, pos := "l30_generate.go:418", after := #[{ on := 0, ground := Go.Ground.data }], guard := none }, { dst := some 8, op := Go.Op.assign (Go.Operand.tmp 86), type := 3, pos := "l30_generate.go:418", after := #[{ on := 1, ground := Go.Ground.data }, { on := 0, ground := Go.Ground.phase }, { on := 1, ground := Go.Ground.phase }], guard := none }] false
def R11 : Code := Go.Code.region 11 #[{ dst := some 87, op := Go.Op.move (Go.Operand.tmp 0), type := 46, pos := "l30_generate.go:419", after := #[], guard := none }, { dst := some 88, op := Go.Op.load 26 (Go.Operand.tmp 3), type := 26, pos := "l30_generate.go:419", after := #[], guard := none }, { dst := some 89, op := Go.Op.move (Go.Operand.tmp 8), type := 3, pos := "l30_generate.go:419", after := #[], guard := none }, { dst := some 90, op := Go.Op.call { callee := Go.Callee.value (Go.Operand.func 64), args := #[Go.Operand.tmp 87, Go.Operand.tmp 88, Go.Operand.tmp 89], argTypes := #[46, 26, 3] }, type := 32, pos := "l30_generate.go:419", after := #[{ on := 0, ground := Go.Ground.data }, { on := 1, ground := Go.Ground.data }, { on := 2, ground := Go.Ground.data }], guard := none }, { dst := some 9, op := Go.Op.alloc 32, type := 0, pos := "l30_generate.go:419", after := #[], guard := none }, { dst := none, op := Go.Op.store 32 (Go.Operand.tmp 9) (Go.Operand.tmp 90), type := 0, pos := "l30_generate.go:419", after := #[{ on := 4, ground := Go.Ground.data }, { on := 3, ground := Go.Ground.data }, { on := 3, ground := Go.Ground.chain }, { on := 0, ground := Go.Ground.phase }, { on := 1, ground := Go.Ground.phase }, { on := 2, ground := Go.Ground.phase }, { on := 3, ground := Go.Ground.phase }, { on := 4, ground := Go.Ground.phase }], guard := none }] false
def R12 : Code := Go.Code.region 12 #[{ dst := some 91, op := Go.Op.fieldAddr 26 (Go.Operand.tmp 3) 1, type := 0, pos := "l30_generate.go:420", after := #[], guard := none }, { dst := some 92, op := Go.Op.load 24 (Go.Operand.tmp 91), type := 24, pos := "l30_generate.go:420", after := #[{ on := 0, ground := Go.Ground.data }], guard := none }, { dst := some 93, op := Go.Op.move (Go.Operand.tmp 8), type := 3, pos := "l30_generate.go:420", after := #[], guard := none }, { dst := some 94, op := Go.Op.fieldAddr 26 (Go.Operand.tmp 3) 1, type := 0, pos := "l30_generate.go:420", after := #[], guard := none }, { dst := some 95, op := Go.Op.load 24 (Go.Operand.tmp 94), type := 24, pos := "l30_generate.go:420", after := #[{ on := 3, ground := Go.Ground.data }], guard := none }, { dst := some 96, op := Go.Op.move (Go.Operand.tmp 8), type := 3, pos := "l30_generate.go:420", after := #[], guard := none }, { dst := some 97, op := Go.Op.indexAddr 24 (Go.Operand.tmp 95) (Go.Operand.tmp 96), type := 0, pos := "l30_generate.go:420", after := #[{ on := 4, ground := Go.Ground.data }, { on := 5, ground := Go.Ground.data }], guard := none }, { dst := some 98, op := Go.Op.fieldAddr 35 (Go.Operand.tmp 97) 0, type := 0, pos := "l30_generate.go:420", after := #[{ on := 6, ground := Go.Ground.data }], guard := none }, { dst := some 99, op := Go.Op.load 33 (Go.Operand.tmp 98), type := 33, pos := "l30_generate.go:420", after := #[{ on := 7, ground := Go.Ground.data }], guard := none }, { dst := some 100, op := Go.Op.fieldAddr 26 (Go.Operand.tmp 3) 1, type := 0, pos := "l30_generate.go:420", after := #[], guard := none }, { dst := some 101, op := Go.Op.load 24 (Go.Operand.tmp 100), type := 24, pos := "l30_generate.go:420", after := #[{ on := 9, ground := Go.Ground.data }], guard := none }, { dst := some 102, op := Go.Op.move (Go.Operand.tmp 8), type := 3, pos := "l30_generate.go:420", after := #[], guard := none }, { dst := some 103, op := Go.Op.indexAddr 24 (Go.Operand.tmp 101) (Go.Operand.tmp 102), type := 0, pos := "l30_generate.go:420", after := #[{ on := 10, ground := Go.Ground.data }, { on := 11, ground := Go.Ground.data }], guard := none }, { dst := some 104, op := Go.Op.fieldAddr 35 (Go.Operand.tmp 103) 1, type := 0, pos := "l30_generate.go:420", after := #[{ on := 12, ground := Go.Ground.data }], guard := none }, { dst := some 105, op := Go.Op.load 3 (Go.Operand.tmp 104), type := 3, pos := "l30_generate.go:420", after := #[{ on := 13, ground := Go.Ground.data }], guard := none }, { dst := some 106, op := Go.Op.load 32 (Go.Operand.tmp 9), type := 32, pos := "l30_generate.go:420", after := #[], guard := none }, { dst := some 107, op := Go.Op.build 35 #[(0, Go.Operand.tmp 99), (1, Go.Operand.tmp 105), (2, Go.Operand.tmp 106)], type := 35, pos := "l30_generate.go:420", after := #[{ on := 8, ground := Go.Ground.data }, { on := 14, ground := Go.Ground.data }, { on := 15, ground := Go.Ground.data }], guard := none }, { dst := some 108, op := Go.Op.indexAddr 24 (Go.Operand.tmp 92) (Go.Operand.tmp 93), type := 0, pos := "l30_generate.go:420", after := #[{ on := 1, ground := Go.Ground.data }, { on := 2, ground := Go.Ground.data }, { on := 0, ground := Go.Ground.phase }, { on := 1, ground := Go.Ground.phase }, { on := 2, ground := Go.Ground.phase }, { on := 3, ground := Go.Ground.phase }, { on := 4, ground := Go.Ground.phase }, { on := 5, ground := Go.Ground.phase }, { on := 6, ground := Go.Ground.phase }, { on := 7, ground := Go.Ground.phase }, { on := 8, ground := Go.Ground.phase }, { on := 9, ground := Go.Ground.phase }, { on := 10, ground := Go.Ground.phase }, { on := 11, ground := Go.Ground.phase }, { on := 12, ground := Go.Ground.phase }, { on := 13, ground := Go.Ground.phase }, { on := 14, ground := Go.Ground.phase }, { on := 15, ground := Go.Ground.phase }, { on := 16, ground := Go.Ground.phase }], guard := none }, { dst := none, op := Go.Op.store 35 (Go.Operand.tmp 108) (Go.Operand.tmp 107), type := 0, pos := "l30_generate.go:420", after := #[{ on := 17, ground := Go.Ground.data }, { on := 16, ground := Go.Ground.data }, { on := 0, ground := Go.Ground.phase }, { on := 1, ground := Go.Ground.phase }, { on := 2, ground := Go.Ground.phase }, { on := 3, ground := Go.Ground.phase }, { on := 4, ground := Go.Ground.phase }, { on := 5, ground := Go.Ground.phase }, { on := 6, ground := Go.Ground.phase }, { on := 7, ground := Go.Ground.phase }, { on := 8, ground := Go.Ground.phase }, { on := 9, ground := Go.Ground.phase }, { on := 10, ground := Go.Ground.phase }, { on := 11, ground := Go.Ground.phase }, { on := 12, ground := Go.Ground.phase }, { on := 13, ground := Go.Ground.phase }, { on := 14, ground := Go.Ground.phase }, { on := 15, ground := Go.Ground.phase }, { on := 16, ground := Go.Ground.phase }], guard := none }] true
def R13 : Code := Go.Code.region 13 #[{ dst := some 109, op := Go.Op.load 26 (Go.Operand.tmp 3), type := 26, pos := "l30_generate.go:422", after := #[], guard := none }, { dst := none, op := Go.Op.store 26 (Go.Operand.tmp 2) (Go.Operand.tmp 109), type := 0, pos := "l30_generate.go:422", after := #[{ on := 0, ground := Go.Ground.data }, { on := 0, ground := Go.Ground.phase }], guard := none }] false
set_option maxRecDepth 100000 in
theorem body_gp : cOf Try.f42 = joinC rg_gpA (.seq R7 (.seq (.seq R8 (.block 0 (.loop (.seq (.seq R9 (.cond (.tmp 84) .skip (.exit 0))) (.seq (.block 1 (.seq R11 R12)) R10))))) (.seq R13 .ret))) := by kernel_rfl
set_option maxRecDepth 100000 in
theorem act_lit {m : Array Value} (h : m.size = 110) : m = List.toArray (m.getD 0 undef :: m.getD 1 undef :: m.getD 2 undef :: m.getD 3 undef :: m.getD 4 undef :: m.getD 5 undef :: m.getD 6 undef :: m.getD 7 undef :: m.getD 8 undef :: m.getD 9 undef :: m.getD 10 undef :: m.getD 11 undef :: m.getD 12 undef :: m.getD 13 undef :: m.getD 14 undef :: m.getD 15 undef :: m.getD 16 undef :: m.getD 17 undef :: m.getD 18 undef :: m.getD 19 undef :: m.getD 20 undef :: m.getD 21 undef :: m.getD 22 undef :: m.getD 23 undef :: m.getD 24 undef :: m.getD 25 undef :: m.getD 26 undef :: m.getD 27 undef :: m.getD 28 undef :: m.getD 29 undef :: m.getD 30 undef :: m.getD 31 undef :: m.getD 32 undef :: m.getD 33 undef :: m.getD 34 undef :: m.getD 35 undef :: m.getD 36 undef :: m.getD 37 undef :: m.getD 38 undef :: m.getD 39 undef :: m.getD 40 undef :: m.getD 41 undef :: m.getD 42 undef :: m.getD 43 undef :: m.getD 44 undef :: m.getD 45 undef :: m.getD 46 undef :: m.getD 47 undef :: m.getD 48 undef :: m.getD 49 undef :: m.getD 50 undef :: m.getD 51 undef :: m.getD 52 undef :: m.getD 53 undef :: m.getD 54 undef :: m.getD 55 undef :: m.getD 56 undef :: m.getD 57 undef :: m.getD 58 undef :: m.getD 59 undef :: m.getD 60 undef :: m.getD 61 undef :: m.getD 62 undef :: m.getD 63 undef :: m.getD 64 undef :: m.getD 65 undef :: m.getD 66 undef :: m.getD 67 undef :: m.getD 68 undef :: m.getD 69 undef :: m.getD 70 undef :: m.getD 71 undef :: m.getD 72 undef :: m.getD 73 undef :: m.getD 74 undef :: m.getD 75 undef :: m.getD 76 undef :: m.getD 77 undef :: m.getD 78 undef :: m.getD 79 undef :: m.getD 80 undef :: m.getD 81 undef :: m.getD 82 undef :: m.getD 83 undef :: m.getD 84 undef :: m.getD 85 undef :: m.getD 86 undef :: m.getD 87 undef :: m.getD 88 undef :: m.getD 89 undef :: m.getD 90 undef :: m.getD 91 undef :: m.getD 92 undef :: m.getD 93 undef :: m.getD 94 undef :: m.getD 95 undef :: m.getD 96 undef :: m.getD 97 undef :: m.getD 98 undef :: m.getD 99 undef :: m.getD 100 undef :: m.getD 101 undef :: m.getD 102 undef :: m.getD 103 undef :: m.getD 104 undef :: m.getD 105 undef :: m.getD 106 undef :: m.getD 107 undef :: m.getD 108 undef :: m.getD 109 undef :: []) := by
  apply Array.ext'
  have h1 : m.toList = (List.range 110).map (fun i => m.getD i undef) := by
    apply List.ext_getElem
    · simp [h]
    · intro i h1 h2
      simp only [Array.length_toList] at h1
      simp [Array.getD, h1]
  exact h1.trans rfl
set_option maxRecDepth 100000 in
set_option maxHeartbeats 4000000 in
theorem r12_wp {c3 c9 B o k n cap : Nat} {D u2 u3 u4 : Value} {A0 : Option Addr} {l0 k0 : Nat} {r1 : Int} {w : World} (hk : k < n) (hn : n ≤ 1048576) {A3 : Option Addr} {l3 k3 : Nat} {e0 e1 : Int}
  (h30 : w.cell? ⟨c3, 0, none⟩ = some D) (h31 : w.cell? ⟨c3, 1, none⟩ = some (.slice (some ⟨B, o, none⟩) n cap))
  (hB0 : w.cell? ⟨B, o + k * 5, none⟩ = some (.slice A0 l0 k0)) (hB1 : w.cell? ⟨B, o + k * 5 + 1, none⟩ = some (.int .i64 r1)) (hB2 : w.cell? ⟨B, o + k * 5 + 2, none⟩ = some u2) (hB3 : w.cell? ⟨B, o + k * 5 + 3, none⟩ = some u3) (hB4 : w.cell? ⟨B, o + k * 5 + 4, none⟩ = some u4)
  (h90 : w.cell? ⟨c9, 0, none⟩ = some (.int .i64 e0)) (h91 : w.cell? ⟨c9, 1, none⟩ = some (.int .i64 e1)) (h92 : w.cell? ⟨c9, 2, none⟩ = some (.slice A3 l3 k3))
  (f0 : w.frozen? ⟨B, o + k * 5, none⟩ = false) (f1 : w.frozen? ⟨B, o + k * 5 + 1, none⟩ = false) (f2 : w.frozen? ⟨B, o + k * 5 + 2, none⟩ = false) (f3 : w.frozen? ⟨B, o + k * 5 + 3, none⟩ = false) (f4 : w.frozen? ⟨B, o + k * 5 + 4, none⟩ = false)
  {f : Nat → Value} (Q : Exit → Act → World → Prop) (hQ : ∀ a' : Act, a'.defers = [] → a'.tmps.size = 110 → a'.tmps.getD 0 undef = f 0 → a'.tmps.getD 2 undef = f 2 → a'.tmps.getD 3 undef = .pointer (some ⟨c3, 0, none⟩) → a'.tmps.getD 8 undef = .int .i64 (k : Int) → Q .normal a' (((((w.drew.setCell ⟨B, o + k * 5, none⟩ (.slice A0 l0 k0)).setCell ⟨B, o + k * 5 + 1, none⟩ (.int .i64 r1)).setCell ⟨B, o + k * 5 + 2, none⟩ (.int .i64 e0)).setCell ⟨B, o + k * 5 + 3, none⟩ (.int .i64 e1)).setCell ⟨B, o + k * 5 + 4, none⟩ (.slice A3 l3 k3))) :
  R12.wp Try.prog Q { tmps := List.toArray (f 0 :: f 1 :: f 2 :: .pointer (some ⟨c3, 0, none⟩) :: f 4 :: f 5 :: f 6 :: f 7 :: .int .i64 (k : Int) :: .pointer (some ⟨c9, 0, none⟩) :: f 10 :: f 11 :: f 12 :: f 13 :: f 14 :: f 15 :: f 16 :: f 17 :: f 18 :: f 19 :: f 20 :: f 21 :: f 22 :: f 23 :: f 24 :: f 25 :: f 26 :: f 27 :: f 28 :: f 29 :: f 30 :: f 31 :: f 32 :: f 33 :: f 34 :: f 35 :: f 36 :: f 37 :: f 38 :: f 39 :: f 40 :: f 41 :: f 42 :: f 43 :: f 44 :: f 45 :: f 46 :: f 47 :: f 48 :: f 49 :: f 50 :: f 51 :: f 52 :: f 53 :: f 54 :: f 55 :: f 56 :: f 57 :: f 58 :: f 59 :: f 60 :: f 61 :: f 62 :: f 63 :: f 64 :: f 65 :: f 66 :: f 67 :: f 68 :: f 69 :: f 70 :: f 71 :: f 72 :: f 73 :: f 74 :: f 75 :: f 76 :: f 77 :: f 78 :: f 79 :: f 80 :: f 81 :: f 82 :: f 83 :: f 84 :: f 85 :: f 86 :: f 87 :: f 88 :: f 89 :: f 90 :: f 91 :: f 92 :: f 93 :: f 94 :: f 95 :: f 96 :: f 97 :: f 98 :: f 99 :: f 100 :: f 101 :: f 102 :: f 103 :: f 104 :: f 105 :: f 106 :: f 107 :: f 108 :: f 109 :: []), defers := [] } w := by
  unfold R12
  go_still_tail 18, (by kernel_rfl)
  have h1 : w.drew.cell? ⟨B, o + k * 5, none⟩ = some (.slice A0 l0 k0) := hB0
  have h2 : w.drew.cell? ⟨B, o + k * 5 + 1, none⟩ = some (.int .i64 r1) := hB1
  have h3 : w.drew.cell? ⟨B, o + k * 5 + 2, none⟩ = some u2 := hB2
  have h4 : w.drew.cell? ⟨B, o + k * 5 + 3, none⟩ = some u3 := hB3
  have h5 : w.drew.cell? ⟨B, o + k * 5 + 4, none⟩ = some u4 := hB4
  have g0 : w.drew.frozen? ⟨B, o + k * 5, none⟩ = false := f0
  have g1 : w.drew.frozen? ⟨B, o + k * 5 + 1, none⟩ = false := f1
  have g2 : w.drew.frozen? ⟨B, o + k * 5 + 2, none⟩ = false := f2
  have g3 : w.drew.frozen? ⟨B, o + k * 5 + 3, none⟩ = false := f3
  have g4 : w.drew.frozen? ⟨B, o + k * 5 + 4, none⟩ = false := f4
  change wpList _ _ _ _ _ w.drew
  generalize w.drew = w2 at *
  go_wp2
  exact hQ _ rfl rfl rfl rfl rfl rfl
set_option maxRecDepth 100000 in
theorem r12_at {c3 c9 B o k n cap : Nat} {D u2 u3 u4 : Value} {A0 : Option Addr} {l0 k0 : Nat} {r1 : Int} {w : World} (hk : k < n) (hn : n ≤ 1048576) {A3 : Option Addr} {l3 k3 : Nat} {e0 e1 : Int}
  (h30 : w.cell? ⟨c3, 0, none⟩ = some D) (h31 : w.cell? ⟨c3, 1, none⟩ = some (.slice (some ⟨B, o, none⟩) n cap))
  (hB0 : w.cell? ⟨B, o + k * 5, none⟩ = some (.slice A0 l0 k0)) (hB1 : w.cell? ⟨B, o + k * 5 + 1, none⟩ = some (.int .i64 r1)) (hB2 : w.cell? ⟨B, o + k * 5 + 2, none⟩ = some u2) (hB3 : w.cell? ⟨B, o + k * 5 + 3, none⟩ = some u3) (hB4 : w.cell? ⟨B, o + k * 5 + 4, none⟩ = some u4)
  (h90 : w.cell? ⟨c9, 0, none⟩ = some (.int .i64 e0)) (h91 : w.cell? ⟨c9, 1, none⟩ = some (.int .i64 e1)) (h92 : w.cell? ⟨c9, 2, none⟩ = some (.slice A3 l3 k3))
  (f0 : w.frozen? ⟨B, o + k * 5, none⟩ = false) (f1 : w.frozen? ⟨B, o + k * 5 + 1, none⟩ = false) (f2 : w.frozen? ⟨B, o + k * 5 + 2, none⟩ = false) (f3 : w.frozen? ⟨B, o + k * 5 + 3, none⟩ = false) (f4 : w.frozen? ⟨B, o + k * 5 + 4, none⟩ = false)
  {m : Array Value} (hs : m.size = 110) (m3 : m.getD 3 undef = .pointer (some ⟨c3, 0, none⟩)) (m8 : m.getD 8 undef = .int .i64 (k : Int)) (m9 : m.getD 9 undef = .pointer (some ⟨c9, 0, none⟩))
  (Q : Exit → Act → World → Prop) (hQ : ∀ a' : Act, a'.defers = [] → a'.tmps.size = 110 → a'.tmps.getD 0 undef = m.getD 0 undef → a'.tmps.getD 2 undef = m.getD 2 undef → a'.tmps.getD 3 undef = .pointer (some ⟨c3, 0, none⟩) → a'.tmps.getD 8 undef = .int .i64 (k : Int) → Q .normal a' (((((w.drew.setCell ⟨B, o + k * 5, none⟩ (.slice A0 l0 k0)).setCell ⟨B, o + k * 5 + 1, none⟩ (.int .i64 r1)).setCell ⟨B, o + k * 5 + 2, none⟩ (.int .i64 e0)).setCell ⟨B, o + k * 5 + 3, none⟩ (.int .i64 e1)).setCell ⟨B, o + k * 5 + 4, none⟩ (.slice A3 l3 k3))) :
  R12.wp Try.prog Q { tmps := m, defers := [] } w := by
  have e := act_lit hs
  rw [m3, m8, m9] at e
  rw [e]
  exact r12_wp hk hn h30 h31 hB0 hB1 hB2 hB3 hB4 h90 h91 h92 f0 f1 f2 f3 f4 (f := fun i => m.getD i undef) Q hQ
set_option maxRecDepth 100000 in
set_option maxHeartbeats 4000000 in
theorem r7_wp {f : Nat → Value} {c3 B o n k cap : Nat} {D : Value} {w : World} (hk : k ≤ n) (hc : n ≤ cap) (h30 : w.cell? ⟨c3, 0, none⟩ = some D) (h31 : w.cell? ⟨c3, 1, none⟩ = some (.slice (some ⟨B, o, none⟩) n cap)) (f1 : w.frozen? ⟨c3, 1, none⟩ = false) (Q : Exit → Act → World → Prop) (hQ : ∀ a' : Act, a'.defers = [] → a'.tmps.size = 110 → a'.tmps.getD 0 undef = f 0 → a'.tmps.getD 2 undef = f 2 → a'.tmps.getD 3 undef = .pointer (some ⟨c3, 0, none⟩) → a'.tmps.getD 7 undef = .int .i64 (k : Int) → Q .normal a' (w.setCell ⟨c3, 1, none⟩ (.slice (some ⟨B, o, none⟩) k cap))) :
  R7.wp Try.prog Q { tmps := List.toArray (f 0 :: f 1 :: f 2 :: .pointer (some ⟨c3, 0, none⟩) :: f 4 :: f 5 :: f 6 :: .int .i64 (k : Int) :: f 8 :: f 9 :: f 10 :: f 11 :: f 12 :: f 13 :: f 14 :: f 15 :: f 16 :: f 17 :: f 18 :: f 19 :: f 20 :: f 21 :: f 22 :: f 23 :: f 24 :: f 25 :: f 26 :: f 27 :: f 28 :: f 29 :: f 30 :: f 31 :: f 32 :: f 33 :: f 34 :: f 35 :: f 36 :: f 37 :: f 38 :: f 39 :: f 40 :: f 41 :: f 42 :: f 43 :: f 44 :: f 45 :: f 46 :: f 47 :: f 48 :: f 49 :: f 50 :: f 51 :: f 52 :: f 53 :: f 54 :: f 55 :: f 56 :: f 57 :: f 58 :: f 59 :: f 60 :: f 61 :: f 62 :: f 63 :: f 64 :: f 65 :: f 66 :: f 67 :: f 68 :: f 69 :: f 70 :: f 71 :: f 72 :: f 73 :: f 74 :: f 75 :: f 76 :: f 77 :: f 78 :: f 79 :: f 80 :: f 81 :: f 82 :: f 83 :: f 84 :: f 85 :: f 86 :: f 87 :: f 88 :: f 89 :: f 90 :: f 91 :: f 92 :: f 93 :: f 94 :: f 95 :: f 96 :: f 97 :: f 98 :: f 99 :: f 100 :: f 101 :: f 102 :: f 103 :: f 104 :: f 105 :: f 106 :: f 107 :: f 108 :: f 109 :: []), defers := [] } w := by
  unfold R7
  go_wp2
  exact hQ _ rfl rfl rfl rfl rfl rfl
set_option maxRecDepth 100000 in
theorem r7_at {m : Array Value} {c3 B o n k cap : Nat} {D : Value} {w : World} (hk : k ≤ n) (hc : n ≤ cap) (h30 : w.cell? ⟨c3, 0, none⟩ = some D) (h31 : w.cell? ⟨c3, 1, none⟩ = some (.slice (some ⟨B, o, none⟩) n cap)) (f1 : w.frozen? ⟨c3, 1, none⟩ = false) (hs : m.size = 110) (m3 : m.getD 3 undef = .pointer (some ⟨c3, 0, none⟩)) (m7 : m.getD 7 undef = .int .i64 (k : Int)) (Q : Exit → Act → World → Prop) (hQ : ∀ a' : Act, a'.defers = [] → a'.tmps.size = 110 → a'.tmps.getD 0 undef = m.getD 0 undef → a'.tmps.getD 2 undef = m.getD 2 undef → a'.tmps.getD 3 undef = .pointer (some ⟨c3, 0, none⟩) → a'.tmps.getD 7 undef = .int .i64 (k : Int) → Q .normal a' (w.setCell ⟨c3, 1, none⟩ (.slice (some ⟨B, o, none⟩) k cap))) :
  R7.wp Try.prog Q { tmps := m, defers := [] } w := by
  have e := act_lit hs
  rw [m3, m7] at e
  rw [e]
  exact r7_wp (f := fun i => m.getD i undef) hk hc h30 h31 f1 Q hQ
set_option maxRecDepth 100000 in
set_option maxHeartbeats 4000000 in
theorem r8_wp {f : Nat → Value} {k : Nat} {w : World} (hk : k ≤ 100) (Q : Exit → Act → World → Prop) (hQ : ∀ a' : Act, a'.defers = [] → a'.tmps.size = 110 → a'.tmps.getD 0 undef = f 0 → a'.tmps.getD 2 undef = f 2 → a'.tmps.getD 3 undef = f 3 → a'.tmps.getD 8 undef = .int .i64 ((k : Int) - 1) → Q .normal a' (w)) :
  R8.wp Try.prog Q { tmps := List.toArray (f 0 :: f 1 :: f 2 :: f 3 :: f 4 :: f 5 :: f 6 :: .int .i64 (k : Int) :: f 8 :: f 9 :: f 10 :: f 11 :: f 12 :: f 13 :: f 14 :: f 15 :: f 16 :: f 17 :: f 18 :: f 19 :: f 20 :: f 21 :: f 22 :: f 23 :: f 24 :: f 25 :: f 26 :: f 27 :: f 28 :: f 29 :: f 30 :: f 31 :: f 32 :: f 33 :: f 34 :: f 35 :: f 36 :: f 37 :: f 38 :: f 39 :: f 40 :: f 41 :: f 42 :: f 43 :: f 44 :: f 45 :: f 46 :: f 47 :: f 48 :: f 49 :: f 50 :: f 51 :: f 52 :: f 53 :: f 54 :: f 55 :: f 56 :: f 57 :: f 58 :: f 59 :: f 60 :: f 61 :: f 62 :: f 63 :: f 64 :: f 65 :: f 66 :: f 67 :: f 68 :: f 69 :: f 70 :: f 71 :: f 72 :: f 73 :: f 74 :: f 75 :: f 76 :: f 77 :: f 78 :: f 79 :: f 80 :: f 81 :: f 82 :: f 83 :: f 84 :: f 85 :: f 86 :: f 87 :: f 88 :: f 89 :: f 90 :: f 91 :: f 92 :: f 93 :: f 94 :: f 95 :: f 96 :: f 97 :: f 98 :: f 99 :: f 100 :: f 101 :: f 102 :: f 103 :: f 104 :: f 105 :: f 106 :: f 107 :: f 108 :: f 109 :: []), defers := [] } w := by
  unfold R8
  go_wp2
  exact hQ _ rfl rfl rfl rfl rfl rfl
set_option maxRecDepth 100000 in
theorem r8_at {m : Array Value} {k : Nat} {w : World} (hk : k ≤ 100) (hs : m.size = 110) (m7 : m.getD 7 undef = .int .i64 (k : Int)) (Q : Exit → Act → World → Prop) (hQ : ∀ a' : Act, a'.defers = [] → a'.tmps.size = 110 → a'.tmps.getD 0 undef = m.getD 0 undef → a'.tmps.getD 2 undef = m.getD 2 undef → a'.tmps.getD 3 undef = m.getD 3 undef → a'.tmps.getD 8 undef = .int .i64 ((k : Int) - 1) → Q .normal a' (w)) :
  R8.wp Try.prog Q { tmps := m, defers := [] } w := by
  have e := act_lit hs
  rw [m7] at e
  rw [e]
  exact r8_wp (f := fun i => m.getD i undef) hk Q hQ
set_option maxRecDepth 100000 in
set_option maxHeartbeats 4000000 in
theorem r9_wp {f : Nat → Value} {k : Int} {w : World} (hk : -1 ≤ k) (hk2 : k ≤ 100) (Q : Exit → Act → World → Prop) (hQ : ∀ a' : Act, a'.defers = [] → a'.tmps.size = 110 → a'.tmps.getD 0 undef = f 0 → a'.tmps.getD 2 undef = f 2 → a'.tmps.getD 3 undef = f 3 → a'.tmps.getD 8 undef = .int .i64 k → a'.tmps.getD 84 undef = .bool (decide (0 ≤ k)) → Q .normal a' (w)) :
  R9.wp Try.prog Q { tmps := List.toArray (f 0 :: f 1 :: f 2 :: f 3 :: f 4 :: f 5 :: f 6 :: f 7 :: .int .i64 k :: f 9 :: f 10 :: f 11 :: f 12 :: f 13 :: f 14 :: f 15 :: f 16 :: f 17 :: f 18 :: f 19 :: f 20 :: f 21 :: f 22 :: f 23 :: f 24 :: f 25 :: f 26 :: f 27 :: f 28 :: f 29 :: f 30 :: f 31 :: f 32 :: f 33 :: f 34 :: f 35 :: f 36 :: f 37 :: f 38 :: f 39 :: f 40 :: f 41 :: f 42 :: f 43 :: f 44 :: f 45 :: f 46 :: f 47 :: f 48 :: f 49 :: f 50 :: f 51 :: f 52 :: f 53 :: f 54 :: f 55 :: f 56 :: f 57 :: f 58 :: f 59 :: f 60 :: f 61 :: f 62 :: f 63 :: f 64 :: f 65 :: f 66 :: f 67 :: f 68 :: f 69 :: f 70 :: f 71 :: f 72 :: f 73 :: f 74 :: f 75 :: f 76 :: f 77 :: f 78 :: f 79 :: f 80 :: f 81 :: f 82 :: f 83 :: f 84 :: f 85 :: f 86 :: f 87 :: f 88 :: f 89 :: f 90 :: f 91 :: f 92 :: f 93 :: f 94 :: f 95 :: f 96 :: f 97 :: f 98 :: f 99 :: f 100 :: f 101 :: f 102 :: f 103 :: f 104 :: f 105 :: f 106 :: f 107 :: f 108 :: f 109 :: []), defers := [] } w := by
  unfold R9
  go_wp2
  exact hQ _ rfl rfl rfl rfl rfl rfl rfl
set_option maxRecDepth 100000 in
theorem r9_at {m : Array Value} {k : Int} {w : World} (hk : -1 ≤ k) (hk2 : k ≤ 100) (hs : m.size = 110) (m8 : m.getD 8 undef = .int .i64 k) (Q : Exit → Act → World → Prop) (hQ : ∀ a' : Act, a'.defers = [] → a'.tmps.size = 110 → a'.tmps.getD 0 undef = m.getD 0 undef → a'.tmps.getD 2 undef = m.getD 2 undef → a'.tmps.getD 3 undef = m.getD 3 undef → a'.tmps.getD 8 undef = .int .i64 k → a'.tmps.getD 84 undef = .bool (decide (0 ≤ k)) → Q .normal a' (w)) :
  R9.wp Try.prog Q { tmps := m, defers := [] } w := by
  have e := act_lit hs
  rw [m8] at e
  rw [e]
  exact r9_wp (f := fun i => m.getD i undef) hk hk2 Q hQ
set_option maxRecDepth 100000 in
set_option maxHeartbeats 4000000 in
theorem r10_wp {f : Nat → Value} {k : Int} {w : World} (hk : -1 ≤ k) (hk2 : k ≤ 100) (Q : Exit → Act → World → Prop) (hQ : ∀ a' : Act, a'.defers = [] → a'.tmps.size = 110 → a'.tmps.getD 0 undef = f 0 → a'.tmps.getD 2 undef = f 2 → a'.tmps.getD 3 undef = f 3 → a'.tmps.getD 8 undef = .int .i64 (k - 1) → Q .normal a' (w)) :
  R10.wp Try.prog Q { tmps := List.toArray (f 0 :: f 1 :: f 2 :: f 3 :: f 4 :: f 5 :: f 6 :: f 7 :: .int .i64 k :: f 9 :: f 10 :: f 11 :: f 12 :: f 13 :: f 14 :: f 15 :: f 16 :: f 17 :: f 18 :: f 19 :: f 20 :: f 21 :: f 22 :: f 23 :: f 24 :: f 25 :: f 26 :: f 27 :: f 28 :: f 29 :: f 30 :: f 31 :: f 32 :: f 33 :: f 34 :: f 35 :: f 36 :: f 37 :: f 38 :: f 39 :: f 40 :: f 41 :: f 42 :: f 43 :: f 44 :: f 45 :: f 46 :: f 47 :: f 48 :: f 49 :: f 50 :: f 51 :: f 52 :: f 53 :: f 54 :: f 55 :: f 56 :: f 57 :: f 58 :: f 59 :: f 60 :: f 61 :: f 62 :: f 63 :: f 64 :: f 65 :: f 66 :: f 67 :: f 68 :: f 69 :: f 70 :: f 71 :: f 72 :: f 73 :: f 74 :: f 75 :: f 76 :: f 77 :: f 78 :: f 79 :: f 80 :: f 81 :: f 82 :: f 83 :: f 84 :: f 85 :: f 86 :: f 87 :: f 88 :: f 89 :: f 90 :: f 91 :: f 92 :: f 93 :: f 94 :: f 95 :: f 96 :: f 97 :: f 98 :: f 99 :: f 100 :: f 101 :: f 102 :: f 103 :: f 104 :: f 105 :: f 106 :: f 107 :: f 108 :: f 109 :: []), defers := [] } w := by
  unfold R10
  go_wp2
  exact hQ _ rfl rfl rfl rfl rfl rfl
set_option maxRecDepth 100000 in
theorem r10_at {m : Array Value} {k : Int} {w : World} (hk : -1 ≤ k) (hk2 : k ≤ 100) (hs : m.size = 110) (m8 : m.getD 8 undef = .int .i64 k) (Q : Exit → Act → World → Prop) (hQ : ∀ a' : Act, a'.defers = [] → a'.tmps.size = 110 → a'.tmps.getD 0 undef = m.getD 0 undef → a'.tmps.getD 2 undef = m.getD 2 undef → a'.tmps.getD 3 undef = m.getD 3 undef → a'.tmps.getD 8 undef = .int .i64 (k - 1) → Q .normal a' (w)) :
  R10.wp Try.prog Q { tmps := m, defers := [] } w := by
  have e := act_lit hs
  rw [m8] at e
  rw [e]
  exact r10_wp (f := fun i => m.getD i undef) hk hk2 Q hQ
set_option maxRecDepth 100000 in
set_option maxHeartbeats 4000000 in
theorem r11_wp {f : Nat → Value} {c3 B o n cap : Nat} {D1 : Option Addr} {d1 d2 : Nat} {w : World} {k : Int} {post : Int → Int → Option Addr → Nat → Nat → World → Prop} (h30 : w.cell? ⟨c3, 0, none⟩ = some (.slice D1 d1 d2)) (h31 : w.cell? ⟨c3, 1, none⟩ = some (.slice (some ⟨B, o, none⟩) n cap)) (hcall : Calls Try.prog 64 #[f 0, .agg #[.slice D1 d1 d2, .slice (some ⟨B, o, none⟩) n cap], .int .i64 k] w fun e w' => ∃ e0 e1 A3 l3 k3, e = .returned (.agg #[.int .i64 e0, .int .i64 e1, .slice A3 l3 k3]) ∧ post e0 e1 A3 l3 k3 w') (Q : Exit → Act → World → Prop) (hQ : ∀ e0 e1 A3 l3 k3 w', post e0 e1 A3 l3 k3 w' → ∀ a' : Act, a'.defers = [] → a'.tmps.size = 110 → a'.tmps.getD 0 undef = f 0 → a'.tmps.getD 2 undef = f 2 → a'.tmps.getD 3 undef = .pointer (some ⟨c3, 0, none⟩) → a'.tmps.getD 8 undef = .int .i64 k → a'.tmps.getD 9 undef = .pointer (some ⟨w'.heap.size, 0, none⟩) → Q .normal a' (w'.alloc (.cells #[.int .i64 e0, .int .i64 e1, .slice A3 l3 k3] 32))) :
  R11.wp Try.prog Q { tmps := List.toArray (f 0 :: f 1 :: f 2 :: .pointer (some ⟨c3, 0, none⟩) :: f 4 :: f 5 :: f 6 :: f 7 :: .int .i64 k :: f 9 :: f 10 :: f 11 :: f 12 :: f 13 :: f 14 :: f 15 :: f 16 :: f 17 :: f 18 :: f 19 :: f 20 :: f 21 :: f 22 :: f 23 :: f 24 :: f 25 :: f 26 :: f 27 :: f 28 :: f 29 :: f 30 :: f 31 :: f 32 :: f 33 :: f 34 :: f 35 :: f 36 :: f 37 :: f 38 :: f 39 :: f 40 :: f 41 :: f 42 :: f 43 :: f 44 :: f 45 :: f 46 :: f 47 :: f 48 :: f 49 :: f 50 :: f 51 :: f 52 :: f 53 :: f 54 :: f 55 :: f 56 :: f 57 :: f 58 :: f 59 :: f 60 :: f 61 :: f 62 :: f 63 :: f 64 :: f 65 :: f 66 :: f 67 :: f 68 :: f 69 :: f 70 :: f 71 :: f 72 :: f 73 :: f 74 :: f 75 :: f 76 :: f 77 :: f 78 :: f 79 :: f 80 :: f 81 :: f 82 :: f 83 :: f 84 :: f 85 :: f 86 :: f 87 :: f 88 :: f 89 :: f 90 :: f 91 :: f 92 :: f 93 :: f 94 :: f 95 :: f 96 :: f 97 :: f 98 :: f 99 :: f 100 :: f 101 :: f 102 :: f 103 :: f 104 :: f 105 :: f 106 :: f 107 :: f 108 :: f 109 :: []), defers := [] } w := by
  unfold R11
  go_wp2_with fail
  refine hcall.mono ?_
  rintro e w' ⟨e0, e1, A3, l3, k3, rfl, hp⟩
  go_wp2
  exact hQ _ _ _ _ _ _ hp _ rfl rfl rfl rfl rfl rfl rfl
set_option maxRecDepth 100000 in
theorem r11_at {m : Array Value} {c3 B o n cap : Nat} {D1 : Option Addr} {d1 d2 : Nat} {w : World} {k : Int} {post : Int → Int → Option Addr → Nat → Nat → World → Prop} (h30 : w.cell? ⟨c3, 0, none⟩ = some (.slice D1 d1 d2)) (h31 : w.cell? ⟨c3, 1, none⟩ = some (.slice (some ⟨B, o, none⟩) n cap)) (hcall : Calls Try.prog 64 #[(m.getD 0 undef), .agg #[.slice D1 d1 d2, .slice (some ⟨B, o, none⟩) n cap], .int .i64 k] w fun e w' => ∃ e0 e1 A3 l3 k3, e = .returned (.agg #[.int .i64 e0, .int .i64 e1, .slice A3 l3 k3]) ∧ post e0 e1 A3 l3 k3 w') (hs : m.size = 110) (m3 : m.getD 3 undef = .pointer (some ⟨c3, 0, none⟩)) (m8 : m.getD 8 undef = .int .i64 k) (Q : Exit → Act → World → Prop) (hQ : ∀ e0 e1 A3 l3 k3 w', post e0 e1 A3 l3 k3 w' → ∀ a' : Act, a'.defers = [] → a'.tmps.size = 110 → a'.tmps.getD 0 undef = m.getD 0 undef → a'.tmps.getD 2 undef = m.getD 2 undef → a'.tmps.getD 3 undef = .pointer (some ⟨c3, 0, none⟩) → a'.tmps.getD 8 undef = .int .i64 k → a'.tmps.getD 9 undef = .pointer (some ⟨w'.heap.size, 0, none⟩) → Q .normal a' (w'.alloc (.cells #[.int .i64 e0, .int .i64 e1, .slice A3 l3 k3] 32))) :
  R11.wp Try.prog Q { tmps := m, defers := [] } w := by
  have e := act_lit hs
  rw [m3, m8] at e
  rw [e]
  exact r11_wp (f := fun i => m.getD i undef) h30 h31 hcall Q hQ
set_option maxRecDepth 100000 in
set_option maxHeartbeats 4000000 in
theorem rend_wp {f : Nat → Value} {c2 c3 B o n cap : Nat} {D1 : Option Addr} {d1 d2 : Nat} {w : World} {z0 z1 : Value} (h30 : w.cell? ⟨c3, 0, none⟩ = some (.slice D1 d1 d2)) (h31 : w.cell? ⟨c3, 1, none⟩ = some (.slice (some ⟨B, o, none⟩) n cap)) (h20 : w.cell? ⟨c2, 0, none⟩ = some z0) (h21 : w.cell? ⟨c2, 1, none⟩ = some z1) (f0 : w.frozen? ⟨c2, 0, none⟩ = false) (f1 : w.frozen? ⟨c2, 1, none⟩ = false) (hne : c3 ≠ c2) (R : Ending → World → Prop) (hQ : R (.returned (.agg #[.slice D1 d1 d2, .slice (some ⟨B, o, none⟩) n cap])) ((w.setCell ⟨c2, 0, none⟩ (.slice D1 d1 d2)).setCell ⟨c2, 1, none⟩ (.slice (some ⟨B, o, none⟩) n cap))) : (Code.seq R13 .ret).wp Try.prog (bodyPost Try.prog Try.f42 R) { tmps := List.toArray (f 0 :: f 1 :: .pointer (some ⟨c2, 0, none⟩) :: .pointer (some ⟨c3, 0, none⟩) :: f 4 :: f 5 :: f 6 :: f 7 :: f 8 :: f 9 :: f 10 :: f 11 :: f 12 :: f 13 :: f 14 :: f 15 :: f 16 :: f 17 :: f 18 :: f 19 :: f 20 :: f 21 :: f 22 :: f 23 :: f 24 :: f 25 :: f 26 :: f 27 :: f 28 :: f 29 :: f 30 :: f 31 :: f 32 :: f 33 :: f 34 :: f 35 :: f 36 :: f 37 :: f 38 :: f 39 :: f 40 :: f 41 :: f 42 :: f 43 :: f 44 :: f 45 :: f 46 :: f 47 :: f 48 :: f 49 :: f 50 :: f 51 :: f 52 :: f 53 :: f 54 :: f 55 :: f 56 :: f 57 :: f 58 :: f 59 :: f 60 :: f 61 :: f 62 :: f 63 :: f 64 :: f 65 :: f 66 :: f 67 :: f 68 :: f 69 :: f 70 :: f 71 :: f 72 :: f 73 :: f 74 :: f 75 :: f 76 :: f 77 :: f 78 :: f 79 :: f 80 :: f 81 :: f 82 :: f 83 :: f 84 :: f 85 :: f 86 :: f 87 :: f 88 :: f 89 :: f 90 :: f 91 :: f 92 :: f 93 :: f 94 :: f 95 :: f 96 :: f 97 :: f 98 :: f 99 :: f 100 :: f 101 :: f 102 :: f 103 :: f 104 :: f 105 :: f 106 :: f 107 :: f 108 :: f 109 :: []), defers := [] } w := by
  unfold R13
  go_wp2
  have g0 : ((w.setCell ⟨c2, 0, none⟩ (.slice D1 d1 d2)).setCell ⟨c2, 1, none⟩ (.slice (some ⟨B, o, none⟩) n cap)).cell? ⟨c2, 0, none⟩ = some (.slice D1 d1 d2) := by
    have hn : (⟨c2, 1, none⟩ : Addr) ≠ ⟨c2, 0, none⟩ := by simp
    rw [World.cell?_setCell_other (h := hn)]
    exact World.cell?_setCell_same _ _ _ h20
  have g1 : ((w.setCell ⟨c2, 0, none⟩ (.slice D1 d1 d2)).setCell ⟨c2, 1, none⟩ (.slice (some ⟨B, o, none⟩) n cap)).cell? ⟨c2, 1, none⟩ = some (.slice (some ⟨B, o, none⟩) n cap) := by
    have hn : (⟨c2, 0, none⟩ : Addr) ≠ ⟨c2, 1, none⟩ := by simp
    refine World.cell?_setCell_same _ _ _ (u := z1) ?_
    rw [World.cell?_setCell_other (h := hn)]
    exact h21
  refine bodyPost_ret (v := .agg #[.slice D1 d1 d2, .slice (some ⟨B, o, none⟩) n cap]) ?_ rfl hQ
  rw [results_one rfl]
  go_simp
set_option maxRecDepth 100000 in
theorem rend_at {m : Array Value} {c2 c3 B o n cap : Nat} {D1 : Option Addr} {d1 d2 : Nat} {w : World} {z0 z1 : Value} (h30 : w.cell? ⟨c3, 0, none⟩ = some (.slice D1 d1 d2)) (h31 : w.cell? ⟨c3, 1, none⟩ = some (.slice (some ⟨B, o, none⟩) n cap)) (h20 : w.cell? ⟨c2, 0, none⟩ = some z0) (h21 : w.cell? ⟨c2, 1, none⟩ = some z1) (f0 : w.frozen? ⟨c2, 0, none⟩ = false) (f1 : w.frozen? ⟨c2, 1, none⟩ = false) (hne : c3 ≠ c2) (hs : m.size = 110) (m2 : m.getD 2 undef = .pointer (some ⟨c2, 0, none⟩)) (m3 : m.getD 3 undef = .pointer (some ⟨c3, 0, none⟩)) (R : Ending → World → Prop) (hQ : R (.returned (.agg #[.slice D1 d1 d2, .slice (some ⟨B, o, none⟩) n cap])) ((w.setCell ⟨c2, 0, none⟩ (.slice D1 d1 d2)).setCell ⟨c2, 1, none⟩ (.slice (some ⟨B, o, none⟩) n cap))) : (Code.seq R13 .ret).wp Try.prog (bodyPost Try.prog Try.f42 R) { tmps := m, defers := [] } w := by
  have e := act_lit hs
  rw [m2, m3] at e
  rw [e]
  exact rend_wp (f := fun i => m.getD i undef) h30 h31 h20 h21 f0 f1 hne R hQ
end Go.Proofs.Ytbodfaghedolbaa
namespace Go.Proofs.Ytbodfaghedolbaa
open Go
def sg0 (ps : List Int) (r : Int) : PM := ⟨ps, r, 0, 0, []⟩
theorem s_sig (ps : List Int) (r : Int) : spec_sig [.cell (.sl 1 (intsC ps)), .cell (.int r)] = some (.v (.agg [.sl 1 (intsC ps), .int r, .int 0, .int 0, .sl 3 []])) := spec_sig_le rfl
def oneL : List PM := [sg0 [1] 0, sg0 [1, 1] 1, sg0 [1] 1, sg0 [1, 0] 1, sg0 [2, 1] 1, sg0 [1, 1] 0]
def twoL : List PM := [sg0 [3] 0, sg0 [0] 1, sg0 [0, 1] 1, sg0 [3, 0] 3, sg0 [3] 1, sg0 [1, 3, 0] 0]
def thrL : List PM := [sg0 [0] 0, sg0 [0, 0] 0, sg0 [1, 0] 0, sg0 [0] 1]
def goodR (i j k : Nat) : List PM := [sg0 [] 0, oneL.getD i default, twoL.getD j default, thrL.getD k default]
theorem goodR_ok : ∀ i < 6, ∀ j < 6, ∀ k < 4, ((goodR i j k).all fun x => sigL.contains (x.ps, x.r) && x.kids.isEmpty && x.o == 0 && x.n == 0) = true := by decide
theorem oneL_at : ∀ i < 6, (pmsC oneL).getD i [] = pmC (oneL.getD i default) := fun i h => by
  rcases (by omega : i = 0 ∨ i = 1 ∨ i = 2 ∨ i = 3 ∨ i = 4 ∨ i = 5) with rfl | rfl | rfl | rfl | rfl | rfl <;> rfl
theorem twoL_at : ∀ i < 6, (pmsC twoL).getD i [] = pmC (twoL.getD i default) := fun i h => by
  rcases (by omega : i = 0 ∨ i = 1 ∨ i = 2 ∨ i = 3 ∨ i = 4 ∨ i = 5) with rfl | rfl | rfl | rfl | rfl | rfl <;> rfl
theorem thrL_at : ∀ i < 4, (pmsC thrL).getD i [] = pmC (thrL.getD i default) := fun i h => by
  rcases (by omega : i = 0 ∨ i = 1 ∨ i = 2 ∨ i = 3) with rfl | rfl | rfl | rfl <;> rfl
section
variable {ns : List Nat} (hns : ns.length ≤ 2000)
include hns
set_option maxRecDepth 8000 in
theorem gpA_val {p : Nat} (hp : p + 10 ≤ 1000000) : ∃ D ∈ goodL, ∃ i j k n : Nat, i < 6 ∧ j < 6 ∧ k < 4 ∧ 2 ≤ n ∧ n ≤ 4 ∧
    evT Y_gpA 100000 (.run (joinC rg_gpA .skip)) [] [(0, .und)] (Qr ns p) = some (.tup [.agg [.sl 3 [], .sl 5 []], .agg [.sl 3 (decsC D), .sl 5 (pmsC (goodR i j k))], .cell (.int (n : Int))], Qr ns (p + 5)) := by
  obtain ⟨D, hD, h0⟩ := t_goodDecls hns (p := p) (by omega)
  obtain ⟨i, hi, h1⟩ := t_pick hns (p := p + 1) (by omega) (m := 6) (by omega)
  obtain ⟨j, hj, h2⟩ := t_pick hns (p := p + 2) (by omega) (m := 6) (by omega)
  obtain ⟨k, hk, h3⟩ := t_pick hns (p := p + 3) (by omega) (m := 4) (by omega)
  obtain ⟨x, hx, h4⟩ := t_one hns (p := p + 4) (by omega) (xs := [4, 4, 3, 2, 4]) (by simp) (by simp)
  have hx' : 2 ≤ x ∧ x ≤ 4 := by
    simp only [List.mem_cons, List.not_mem_nil, or_false] at hx
    omega
  obtain ⟨n, rfl⟩ : ∃ n : Nat, x = (n : Int) := ⟨x.toNat, by omega⟩
  refine ⟨D, hD, i, j, k, n, hi, hj, hk, by omega, by omega, gpA_ev (callTS h0 ?_)⟩
  refine callFunc (s_sig [1] 0) (callFunc (s_sig [1, 1] 1) (callFunc (s_sig [1] 1) ?_))
  refine callFunc (s_sig [1, 0] 1) (callFunc (s_sig [2, 1] 1) (callFunc (s_sig [1, 1] 0) ?_))
  refine callFunc (s_sig [3] 0) (callFunc (s_sig [0] 1) (callFunc (s_sig [0, 1] 1) ?_))
  refine callFunc (s_sig [3, 0] 3) (callFunc (s_sig [3] 1) (callFunc (s_sig [1, 3, 0] 0) ?_))
  refine callFunc (s_sig [0] 0) (callFunc (s_sig [0, 0] 0) (callFunc (s_sig [1, 0] 0) ?_))
  refine callFunc (s_sig [0] 1) (callFunc (s_sig [] 0) ?_)
  refine callTI h1 (atFunc (rows := pmsC oneL) (k := i) hi (oneL_at i hi) ?_)
  refine callTI h2 (atFunc (rows := pmsC twoL) (k := j) hj (twoL_at j hj) ?_)
  exact callTI h3 (atFunc (rows := pmsC thrL) (k := k) hk (thrL_at k hk) (callTI h4 rfl))
end
end Go.Proofs.Ytbodfaghedolbaa

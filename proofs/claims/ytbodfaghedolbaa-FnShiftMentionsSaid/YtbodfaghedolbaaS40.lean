/- Generic texts and models for the proofs of this seat: part 40. -/
import Derived.Test.YtbodfaghedolbaaS39
import Derived.WalkKit
set_option linter.unusedVariables false
set_option linter.unusedSimpArgs false
namespace Go.Proofs.Ytbodfaghedolbaa
open Go Go.RowKit
def B0 : Code := Go.Code.region 0 #[{ dst := some 3, op := Go.Op.box 32 (Go.Operand.tmp 1), type := 0, pos := "l30_generate.go:426", after := #[], guard := none }, { dst := some 4, op := Go.Op.alloc 32, type := 0, pos := "l30_generate.go:426", after := #[], guard := none }] false
def B1 : Code := Go.Code.region 1 #[{ dst := some 7, op := Go.Op.fieldAddr 32 (Go.Operand.tmp 3) 2, type := 0, pos := "l30_generate.go:427", after := #[], guard := none }, { dst := some 8, op := Go.Op.load 30 (Go.Operand.tmp 7), type := 30, pos := "l30_generate.go:427", after := #[{ on := 0, ground := Go.Ground.data }], guard := none }, { dst := some 9, op := Go.Op.call { callee := Go.Callee.builtin Go.Builtin.len, args := #[Go.Operand.tmp 8], argTypes := #[30] }, type := 3, pos := "l30_generate.go:427", after := #[{ on := 1, ground := Go.Ground.data }], guard := none }, { dst := some 10, op := Go.Op.binOp Go.BinOp.gtr 3 (Go.Operand.tmp 9) (Go.Operand.const (Go.Value.int Go.IntKind.i64 0)) 3, type := 4, pos := "l30_generate.go:427", after := #[{ on := 2, ground := Go.Ground.data }], guard := none }, { dst := some 11, op := Go.Op.move (Go.Operand.tmp 10), type := 4, pos := "l30_generate.go:427", after := #[{ on := 3, ground := Go.Ground.data }], guard := none }, { dst := some 12, op := Go.Op.move (Go.Operand.tmp 0), type := 46, pos := "l30_generate.go:427", after := #[{ on := 4, ground := Go.Ground.guard }], guard := some (4, true) }, { dst := some 13, op := Go.Op.call { callee := Go.Callee.value (Go.Operand.func 55), args := #[Go.Operand.tmp 12, Go.Operand.const (Go.Value.int Go.IntKind.i64 3)], argTypes := #[46, 3] }, type := 3, pos := "l30_generate.go:427", after := #[{ on := 5, ground := Go.Ground.data }, { on := 4, ground := Go.Ground.chain }, { on := 4, ground := Go.Ground.guard }], guard := some (4, true) }, { dst := some 14, op := Go.Op.binOp Go.BinOp.gtr 3 (Go.Operand.tmp 13) (Go.Operand.const (Go.Value.int Go.IntKind.i64 0)) 3, type := 4, pos := "l30_generate.go:427", after := #[{ on := 6, ground := Go.Ground.data }, { on := 4, ground := Go.Ground.guard }], guard := some (4, true) }, { dst := some 15, op := Go.Op.pick (Go.Operand.tmp 11) (Go.Operand.tmp 14) (Go.Operand.const (Go.Value.bool false)), type := 4, pos := "l30_generate.go:427", after := #[{ on := 4, ground := Go.Ground.data }, { on := 7, ground := Go.Ground.data }], guard := none }] false
def B2 : Code := Go.Code.region 2 #[{ dst := some 16, op := Go.Op.fieldAddr 32 (Go.Operand.tmp 3) 2, type := 0, pos := "l30_generate.go:428", after := #[], guard := none }, { dst := some 17, op := Go.Op.load 30 (Go.Operand.tmp 16), type := 30, pos := "l30_generate.go:428", after := #[{ on := 0, ground := Go.Ground.data }], guard := none }, { dst := some 18, op := Go.Op.call { callee := Go.Callee.value (Go.Operand.func 83), args := #[Go.Operand.tmp 17], argTypes := #[30] }, type := 30, pos := "l30_generate.go:428", after := #[{ on := 1, ground := Go.Ground.data }], guard := none }, { dst := some 5, op := Go.Op.assign (Go.Operand.tmp 18), type := 30, pos := "l30_generate.go:428", after := #[{ on := 2, ground := Go.Ground.data }, { on := 2, ground := Go.Ground.chain }, { on := 0, ground := Go.Ground.phase }, { on := 1, ground := Go.Ground.phase }, { on := 2, ground := Go.Ground.phase }], guard := none }] false
def B3 : Code := Go.Code.region 3 #[{ dst := some 19, op := Go.Op.move (Go.Operand.tmp 0), type := 46, pos := "l30_generate.go:429", after := #[], guard := none }, { dst := some 20, op := Go.Op.move (Go.Operand.tmp 5), type := 30, pos := "l30_generate.go:429", after := #[], guard := none }, { dst := some 21, op := Go.Op.call { callee := Go.Callee.builtin Go.Builtin.len, args := #[Go.Operand.tmp 20], argTypes := #[30] }, type := 3, pos := "l30_generate.go:429", after := #[{ on := 1, ground := Go.Ground.data }], guard := none }, { dst := some 22, op := Go.Op.call { callee := Go.Callee.value (Go.Operand.func 55), args := #[Go.Operand.tmp 19, Go.Operand.tmp 21], argTypes := #[46, 3] }, type := 3, pos := "l30_generate.go:429", after := #[{ on := 0, ground := Go.Ground.data }, { on := 2, ground := Go.Ground.data }], guard := none }, { dst := some 6, op := Go.Op.assign (Go.Operand.tmp 22), type := 3, pos := "l30_generate.go:429", after := #[{ on := 3, ground := Go.Ground.data }, { on := 3, ground := Go.Ground.chain }, { on := 0, ground := Go.Ground.phase }, { on := 1, ground := Go.Ground.phase }, { on := 2, ground := Go.Ground.phase }, { on := 3, ground := Go.Ground.phase }], guard := none }] false
def B4 : Code := Go.Code.region 4 #[{ dst := some 23, op := Go.Op.move (Go.Operand.tmp 5), type := 30, pos := "l30_generate.go:430", after := #[], guard := none }, { dst := some 24, op := Go.Op.move (Go.Operand.tmp 6), type := 3, pos := "l30_generate.go:430", after := #[], guard := none }, { dst := some 25, op := Go.Op.move (Go.Operand.tmp 0), type := 46, pos := "l30_generate.go:430", after := #[], guard := none }, { dst := some 26, op := Go.Op.move (Go.Operand.tmp 5), type := 30, pos := "l30_generate.go:430", after := #[], guard := none }, { dst := some 27, op := Go.Op.move (Go.Operand.tmp 6), type := 3, pos := "l30_generate.go:430", after := #[], guard := none }, { dst := some 28, op := Go.Op.indexAddr 30 (Go.Operand.tmp 26) (Go.Operand.tmp 27), type := 0, pos := "l30_generate.go:430", after := #[{ on := 3, ground := Go.Ground.data }, { on := 4, ground := Go.Ground.data }], guard := none }, { dst := some 29, op := Go.Op.load 32 (Go.Operand.tmp 28), type := 32, pos := "l30_generate.go:430", after := #[{ on := 5, ground := Go.Ground.data }], guard := none }, { dst := some 30, op := Go.Op.call { callee := Go.Callee.value (Go.Operand.func 56), args := #[Go.Operand.tmp 25, Go.Operand.tmp 29], argTypes := #[46, 32] }, type := 32, pos := "l30_generate.go:430", after := #[{ on := 2, ground := Go.Ground.data }, { on := 6, ground := Go.Ground.data }], guard := none }, { dst := some 31, op := Go.Op.indexAddr 30 (Go.Operand.tmp 23) (Go.Operand.tmp 24), type := 0, pos := "l30_generate.go:430", after := #[{ on := 0, ground := Go.Ground.data }, { on := 1, ground := Go.Ground.data }, { on := 0, ground := Go.Ground.phase }, { on := 1, ground := Go.Ground.phase }, { on := 2, ground := Go.Ground.phase }, { on := 3, ground := Go.Ground.phase }, { on := 4, ground := Go.Ground.phase }, { on := 5, ground := Go.Ground.phase }, { on := 6, ground := Go.Ground.phase }, { on := 7, ground := Go.Ground.phase }], guard := none }, { dst := none, op := Go.Op.store 32 (Go.Operand.tmp 31) (Go.Operand.tmp 30), type := 0, pos := "l30_generate.go:430", after := #[{ on := 8, ground := Go.Ground.data }, { on := 7, ground := Go.Ground.data }, { on := 7, ground := Go.Ground.chain }, { on := 0, ground := Go.Ground.phase }, { on := 1, ground := Go.Ground.phase }, { on := 2, ground := Go.Ground.phase }, { on := 3, ground := Go.Ground.phase }, { on := 4, ground := Go.Ground.phase }, { on := 5, ground := Go.Ground.phase }, { on := 6, ground := Go.Ground.phase }, { on := 7, ground := Go.Ground.phase }], guard := none }] false
def B5 : Code := Go.Code.region 5 #[{ dst := some 32, op := Go.Op.fieldAddr 32 (Go.Operand.tmp 3) 0, type := 0, pos := "l30_generate.go:431", after := #[], guard := none }, { dst := some 33, op := Go.Op.load 3 (Go.Operand.tmp 32), type := 3, pos := "l30_generate.go:431", after := #[{ on := 0, ground := Go.Ground.data }], guard := none }, { dst := some 34, op := Go.Op.fieldAddr 32 (Go.Operand.tmp 3) 1, type := 0, pos := "l30_generate.go:431", after := #[], guard := none }, { dst := some 35, op := Go.Op.load 3 (Go.Operand.tmp 34), type := 3, pos := "l30_generate.go:431", after := #[{ on := 2, ground := Go.Ground.data }], guard := none }, { dst := some 36, op := Go.Op.move (Go.Operand.tmp 5), type := 30, pos := "l30_generate.go:431", after := #[], guard := none }, { dst := some 37, op := Go.Op.call { callee := Go.Callee.value (Go.Operand.func 57), args := #[Go.Operand.tmp 33, Go.Operand.tmp 35, Go.Operand.tmp 36], argTypes := #[3, 3, 30] }, type := 32, pos := "l30_generate.go:431", after := #[{ on := 1, ground := Go.Ground.data }, { on := 3, ground := Go.Ground.data }, { on := 4, ground := Go.Ground.data }], guard := none }, { dst := none, op := Go.Op.store 32 (Go.Operand.tmp 4) (Go.Operand.tmp 37), type := 0, pos := "l30_generate.go:431", after := #[{ on := 5, ground := Go.Ground.data }, { on := 5, ground := Go.Ground.chain }, { on := 0, ground := Go.Ground.phase }, { on := 1, ground := Go.Ground.phase }, { on := 2, ground := Go.Ground.phase }, { on := 3, ground := Go.Ground.phase }, { on := 4, ground := Go.Ground.phase }, { on := 5, ground := Go.Ground.phase }], guard := none }] false
set_option maxRecDepth 100000 in
theorem body_bd : cOf Try.f56 = .seq B0 (.seq (.seq B1 (.cond (.tmp 15) (.seq B2 (.seq B3 (.seq B4 (.seq B5 .ret)))) .skip)) (dropS 2 (cOf Try.f56))) := by kernel_rfl
set_option maxRecDepth 100000 in
theorem bd_lit {m : Array Value} (h : m.size = 85) : m = List.toArray (m.getD 0 undef :: m.getD 1 undef :: m.getD 2 undef :: m.getD 3 undef :: m.getD 4 undef :: m.getD 5 undef :: m.getD 6 undef :: m.getD 7 undef :: m.getD 8 undef :: m.getD 9 undef :: m.getD 10 undef :: m.getD 11 undef :: m.getD 12 undef :: m.getD 13 undef :: m.getD 14 undef :: m.getD 15 undef :: m.getD 16 undef :: m.getD 17 undef :: m.getD 18 undef :: m.getD 19 undef :: m.getD 20 undef :: m.getD 21 undef :: m.getD 22 undef :: m.getD 23 undef :: m.getD 24 undef :: m.getD 25 undef :: m.getD 26 undef :: m.getD 27 undef :: m.getD 28 undef :: m.getD 29 undef :: m.getD 30 undef :: m.getD 31 undef :: m.getD 32 undef :: m.getD 33 undef :: m.getD 34 undef :: m.getD 35 undef :: m.getD 36 undef :: m.getD 37 undef :: m.getD 38 undef :: m.getD 39 undef :: m.getD 40 undef :: m.getD 41 undef :: m.getD 42 undef :: m.getD 43 undef :: m.getD 44 undef :: m.getD 45 undef :: m.getD 46 undef :: m.getD 47 undef :: m.getD 48 undef :: m.getD 49 undef :: m.getD 50 undef :: m.getD 51 undef :: m.getD 52 undef :: m.getD 53 undef :: m.getD 54 undef :: m.getD 55 undef :: m.getD 56 undef :: m.getD 57 undef :: m.getD 58 undef :: m.getD 59 undef :: m.getD 60 undef :: m.getD 61 undef :: m.getD 62 undef :: m.getD 63 undef :: m.getD 64 undef :: m.getD 65 undef :: m.getD 66 undef :: m.getD 67 undef :: m.getD 68 undef :: m.getD 69 undef :: m.getD 70 undef :: m.getD 71 undef :: m.getD 72 undef :: m.getD 73 undef :: m.getD 74 undef :: m.getD 75 undef :: m.getD 76 undef :: m.getD 77 undef :: m.getD 78 undef :: m.getD 79 undef :: m.getD 80 undef :: m.getD 81 undef :: m.getD 82 undef :: m.getD 83 undef :: m.getD 84 undef :: []) := by
  apply Array.ext'
  have h1 : m.toList = (List.range 85).map (fun i => m.getD i undef) := by
    apply List.ext_getElem
    · simp [h]
    · intro i h1 h2
      simp only [Array.length_toList] at h1
      simp [Array.getD, h1]
  exact h1.trans rfl
set_option maxRecDepth 100000 in
set_option maxHeartbeats 4000000 in
theorem b0_wp {f : Nat → Value} {e0 e1 : Int} {A : Option Addr} {n c : Nat} {w : World}  (Q : Exit → Act → World → Prop) (hQ : ∀ a' : Act, a'.defers = [] → a'.tmps.size = 85 → a'.tmps.getD 0 undef = f 0 → a'.tmps.getD 3 undef = .pointer (some ⟨w.heap.size, 0, none⟩) → a'.tmps.getD 4 undef = .pointer (some ⟨w.heap.size + 1, 0, none⟩) → Q .normal a' ((w.alloc (.cells #[.int .i64 e0, .int .i64 e1, .slice A n c] 32)).alloc (.cells #[.int .i64 0, .int .i64 0, .slice none 0 0] 32))) :
  B0.wp Try.prog Q { tmps := List.toArray (f 0 :: .agg #[.int .i64 e0, .int .i64 e1, .slice A n c] :: f 2 :: f 3 :: f 4 :: f 5 :: f 6 :: f 7 :: f 8 :: f 9 :: f 10 :: f 11 :: f 12 :: f 13 :: f 14 :: f 15 :: f 16 :: f 17 :: f 18 :: f 19 :: f 20 :: f 21 :: f 22 :: f 23 :: f 24 :: f 25 :: f 26 :: f 27 :: f 28 :: f 29 :: f 30 :: f 31 :: f 32 :: f 33 :: f 34 :: f 35 :: f 36 :: f 37 :: f 38 :: f 39 :: f 40 :: f 41 :: f 42 :: f 43 :: f 44 :: f 45 :: f 46 :: f 47 :: f 48 :: f 49 :: f 50 :: f 51 :: f 52 :: f 53 :: f 54 :: f 55 :: f 56 :: f 57 :: f 58 :: f 59 :: f 60 :: f 61 :: f 62 :: f 63 :: f 64 :: f 65 :: f 66 :: f 67 :: f 68 :: f 69 :: f 70 :: f 71 :: f 72 :: f 73 :: f 74 :: f 75 :: f 76 :: f 77 :: f 78 :: f 79 :: f 80 :: f 81 :: f 82 :: f 83 :: f 84 :: []), defers := [] } w := by
  unfold B0
  go_wp2
  exact hQ _ rfl rfl rfl rfl rfl
set_option maxRecDepth 100000 in
theorem b0_at {m : Array Value} {e0 e1 : Int} {A : Option Addr} {n c : Nat} {w : World}  (hs : m.size = 85) (m1 : m.getD 1 undef = .agg #[.int .i64 e0, .int .i64 e1, .slice A n c]) (Q : Exit → Act → World → Prop) (hQ : ∀ a' : Act, a'.defers = [] → a'.tmps.size = 85 → a'.tmps.getD 0 undef = m.getD 0 undef → a'.tmps.getD 3 undef = .pointer (some ⟨w.heap.size, 0, none⟩) → a'.tmps.getD 4 undef = .pointer (some ⟨w.heap.size + 1, 0, none⟩) → Q .normal a' ((w.alloc (.cells #[.int .i64 e0, .int .i64 e1, .slice A n c] 32)).alloc (.cells #[.int .i64 0, .int .i64 0, .slice none 0 0] 32))) :
  B0.wp Try.prog Q { tmps := m, defers := [] } w := by
  have e := bd_lit hs
  rw [m1] at e
  rw [e]
  exact b0_wp (f := fun i => m.getD i undef)  Q hQ
set_option maxRecDepth 100000 in
set_option maxHeartbeats 4000000 in
theorem b1l_wp {f : Nat → Value} {c3 c : Nat} {A : Option Addr} {w : World} (h32 : w.cell? ⟨c3, 2, none⟩ = some (.slice A 0 c)) (Q : Exit → Act → World → Prop) (hQ : ∀ a' : Act, a'.defers = [] → a'.tmps.size = 85 → a'.tmps.getD 0 undef = f 0 → a'.tmps.getD 3 undef = .pointer (some ⟨c3, 0, none⟩) → a'.tmps.getD 4 undef = f 4 → a'.tmps.getD 15 undef = .bool false → Q .normal a' (w)) :
  B1.wp Try.prog Q { tmps := List.toArray (f 0 :: f 1 :: f 2 :: .pointer (some ⟨c3, 0, none⟩) :: f 4 :: f 5 :: f 6 :: f 7 :: f 8 :: f 9 :: f 10 :: f 11 :: f 12 :: f 13 :: f 14 :: f 15 :: f 16 :: f 17 :: f 18 :: f 19 :: f 20 :: f 21 :: f 22 :: f 23 :: f 24 :: f 25 :: f 26 :: f 27 :: f 28 :: f 29 :: f 30 :: f 31 :: f 32 :: f 33 :: f 34 :: f 35 :: f 36 :: f 37 :: f 38 :: f 39 :: f 40 :: f 41 :: f 42 :: f 43 :: f 44 :: f 45 :: f 46 :: f 47 :: f 48 :: f 49 :: f 50 :: f 51 :: f 52 :: f 53 :: f 54 :: f 55 :: f 56 :: f 57 :: f 58 :: f 59 :: f 60 :: f 61 :: f 62 :: f 63 :: f 64 :: f 65 :: f 66 :: f 67 :: f 68 :: f 69 :: f 70 :: f 71 :: f 72 :: f 73 :: f 74 :: f 75 :: f 76 :: f 77 :: f 78 :: f 79 :: f 80 :: f 81 :: f 82 :: f 83 :: f 84 :: []), defers := [] } w := by
  unfold B1
  go_wp2
  exact hQ _ rfl rfl rfl rfl rfl rfl
set_option maxRecDepth 100000 in
theorem b1l_at {m : Array Value} {c3 c : Nat} {A : Option Addr} {w : World} (h32 : w.cell? ⟨c3, 2, none⟩ = some (.slice A 0 c)) (hs : m.size = 85) (m3 : m.getD 3 undef = .pointer (some ⟨c3, 0, none⟩)) (Q : Exit → Act → World → Prop) (hQ : ∀ a' : Act, a'.defers = [] → a'.tmps.size = 85 → a'.tmps.getD 0 undef = m.getD 0 undef → a'.tmps.getD 3 undef = .pointer (some ⟨c3, 0, none⟩) → a'.tmps.getD 4 undef = m.getD 4 undef → a'.tmps.getD 15 undef = .bool false → Q .normal a' (w)) :
  B1.wp Try.prog Q { tmps := m, defers := [] } w := by
  have e := bd_lit hs
  rw [m3] at e
  rw [e]
  exact b1l_wp (f := fun i => m.getD i undef) h32 Q hQ
set_option maxRecDepth 100000 in
set_option maxHeartbeats 4000000 in
theorem b1_wp {f : Nat → Value} {c3 n c : Nat} {A : Option Addr} {w : World} {post : Nat → World → Prop} (hn : 0 < n) (hn2 : n ≤ 1048576) (h32 : w.cell? ⟨c3, 2, none⟩ = some (.slice A n c)) (hcall : Calls Try.prog 55 #[f 0, .int .i64 3] w fun e w' => ∃ x : Nat, e = .returned (.int .i64 (x : Int)) ∧ post x w') (Q : Exit → Act → World → Prop) (hQ : ∀ (x : Nat) (w' : World), post x w' → ∀ a' : Act, a'.defers = [] → a'.tmps.size = 85 → a'.tmps.getD 0 undef = f 0 → a'.tmps.getD 3 undef = .pointer (some ⟨c3, 0, none⟩) → a'.tmps.getD 4 undef = f 4 → a'.tmps.getD 15 undef = .bool (decide (0 < x)) → Q .normal a' (w')) :
  B1.wp Try.prog Q { tmps := List.toArray (f 0 :: f 1 :: f 2 :: .pointer (some ⟨c3, 0, none⟩) :: f 4 :: f 5 :: f 6 :: f 7 :: f 8 :: f 9 :: f 10 :: f 11 :: f 12 :: f 13 :: f 14 :: f 15 :: f 16 :: f 17 :: f 18 :: f 19 :: f 20 :: f 21 :: f 22 :: f 23 :: f 24 :: f 25 :: f 26 :: f 27 :: f 28 :: f 29 :: f 30 :: f 31 :: f 32 :: f 33 :: f 34 :: f 35 :: f 36 :: f 37 :: f 38 :: f 39 :: f 40 :: f 41 :: f 42 :: f 43 :: f 44 :: f 45 :: f 46 :: f 47 :: f 48 :: f 49 :: f 50 :: f 51 :: f 52 :: f 53 :: f 54 :: f 55 :: f 56 :: f 57 :: f 58 :: f 59 :: f 60 :: f 61 :: f 62 :: f 63 :: f 64 :: f 65 :: f 66 :: f 67 :: f 68 :: f 69 :: f 70 :: f 71 :: f 72 :: f 73 :: f 74 :: f 75 :: f 76 :: f 77 :: f 78 :: f 79 :: f 80 :: f 81 :: f 82 :: f 83 :: f 84 :: []), defers := [] } w := by
  unfold B1
  have hn3 : (0 : Int) < (n : Int) := by omega
  go_wp2_with fail
  refine hcall.mono ?_
  rintro e w' ⟨x, rfl, hp⟩
  go_wp2
  exact hQ _ _ hp _ rfl rfl rfl rfl rfl rfl
set_option maxRecDepth 100000 in
theorem b1_at {m : Array Value} {c3 n c : Nat} {A : Option Addr} {w : World} {post : Nat → World → Prop} (hn : 0 < n) (hn2 : n ≤ 1048576) (h32 : w.cell? ⟨c3, 2, none⟩ = some (.slice A n c)) (hcall : Calls Try.prog 55 #[(m.getD 0 undef), .int .i64 3] w fun e w' => ∃ x : Nat, e = .returned (.int .i64 (x : Int)) ∧ post x w') (hs : m.size = 85) (m3 : m.getD 3 undef = .pointer (some ⟨c3, 0, none⟩)) (Q : Exit → Act → World → Prop) (hQ : ∀ (x : Nat) (w' : World), post x w' → ∀ a' : Act, a'.defers = [] → a'.tmps.size = 85 → a'.tmps.getD 0 undef = m.getD 0 undef → a'.tmps.getD 3 undef = .pointer (some ⟨c3, 0, none⟩) → a'.tmps.getD 4 undef = m.getD 4 undef → a'.tmps.getD 15 undef = .bool (decide (0 < x)) → Q .normal a' (w')) :
  B1.wp Try.prog Q { tmps := m, defers := [] } w := by
  have e := bd_lit hs
  rw [m3] at e
  rw [e]
  exact b1_wp (f := fun i => m.getD i undef) hn hn2 h32 hcall Q hQ
set_option maxRecDepth 100000 in
set_option maxHeartbeats 4000000 in
theorem b2_wp {f : Nat → Value} {c3 n c : Nat} {A : Option Addr} {w : World} {post : Value → World → Prop} (h32 : w.cell? ⟨c3, 2, none⟩ = some (.slice A n c)) (hcall : Calls Try.prog 83 #[.slice A n c] w fun e w' => ∃ v, e = .returned v ∧ post v w') (Q : Exit → Act → World → Prop) (hQ : ∀ (v : Value) (w' : World), post v w' → ∀ a' : Act, a'.defers = [] → a'.tmps.size = 85 → a'.tmps.getD 0 undef = f 0 → a'.tmps.getD 3 undef = .pointer (some ⟨c3, 0, none⟩) → a'.tmps.getD 4 undef = f 4 → a'.tmps.getD 5 undef = v → Q .normal a' (w')) :
  B2.wp Try.prog Q { tmps := List.toArray (f 0 :: f 1 :: f 2 :: .pointer (some ⟨c3, 0, none⟩) :: f 4 :: f 5 :: f 6 :: f 7 :: f 8 :: f 9 :: f 10 :: f 11 :: f 12 :: f 13 :: f 14 :: f 15 :: f 16 :: f 17 :: f 18 :: f 19 :: f 20 :: f 21 :: f 22 :: f 23 :: f 24 :: f 25 :: f 26 :: f 27 :: f 28 :: f 29 :: f 30 :: f 31 :: f 32 :: f 33 :: f 34 :: f 35 :: f 36 :: f 37 :: f 38 :: f 39 :: f 40 :: f 41 :: f 42 :: f 43 :: f 44 :: f 45 :: f 46 :: f 47 :: f 48 :: f 49 :: f 50 :: f 51 :: f 52 :: f 53 :: f 54 :: f 55 :: f 56 :: f 57 :: f 58 :: f 59 :: f 60 :: f 61 :: f 62 :: f 63 :: f 64 :: f 65 :: f 66 :: f 67 :: f 68 :: f 69 :: f 70 :: f 71 :: f 72 :: f 73 :: f 74 :: f 75 :: f 76 :: f 77 :: f 78 :: f 79 :: f 80 :: f 81 :: f 82 :: f 83 :: f 84 :: []), defers := [] } w := by
  unfold B2
  go_wp2_with fail
  refine hcall.mono ?_
  rintro e w' ⟨v, rfl, hp⟩
  go_wp2
  exact hQ _ _ hp _ rfl rfl rfl rfl rfl rfl
set_option maxRecDepth 100000 in
theorem b2_at {m : Array Value} {c3 n c : Nat} {A : Option Addr} {w : World} {post : Value → World → Prop} (h32 : w.cell? ⟨c3, 2, none⟩ = some (.slice A n c)) (hcall : Calls Try.prog 83 #[.slice A n c] w fun e w' => ∃ v, e = .returned v ∧ post v w') (hs : m.size = 85) (m3 : m.getD 3 undef = .pointer (some ⟨c3, 0, none⟩)) (Q : Exit → Act → World → Prop) (hQ : ∀ (v : Value) (w' : World), post v w' → ∀ a' : Act, a'.defers = [] → a'.tmps.size = 85 → a'.tmps.getD 0 undef = m.getD 0 undef → a'.tmps.getD 3 undef = .pointer (some ⟨c3, 0, none⟩) → a'.tmps.getD 4 undef = m.getD 4 undef → a'.tmps.getD 5 undef = v → Q .normal a' (w')) :
  B2.wp Try.prog Q { tmps := m, defers := [] } w := by
  have e := bd_lit hs
  rw [m3] at e
  rw [e]
  exact b2_wp (f := fun i => m.getD i undef) h32 hcall Q hQ
set_option maxRecDepth 100000 in
set_option maxHeartbeats 4000000 in
theorem b3_wp {f : Nat → Value} {n c : Nat} {A : Option Addr} {w : World} {post : Nat → World → Prop} (hcall : Calls Try.prog 55 #[f 0, .int .i64 (n : Int)] w fun e w' => ∃ x : Nat, e = .returned (.int .i64 (x : Int)) ∧ post x w') (Q : Exit → Act → World → Prop) (hQ : ∀ (x : Nat) (w' : World), post x w' → ∀ a' : Act, a'.defers = [] → a'.tmps.size = 85 → a'.tmps.getD 0 undef = f 0 → a'.tmps.getD 3 undef = f 3 → a'.tmps.getD 4 undef = f 4 → a'.tmps.getD 5 undef = .slice A n c → a'.tmps.getD 6 undef = .int .i64 (x : Int) → Q .normal a' (w')) :
  B3.wp Try.prog Q { tmps := List.toArray (f 0 :: f 1 :: f 2 :: f 3 :: f 4 :: .slice A n c :: f 6 :: f 7 :: f 8 :: f 9 :: f 10 :: f 11 :: f 12 :: f 13 :: f 14 :: f 15 :: f 16 :: f 17 :: f 18 :: f 19 :: f 20 :: f 21 :: f 22 :: f 23 :: f 24 :: f 25 :: f 26 :: f 27 :: f 28 :: f 29 :: f 30 :: f 31 :: f 32 :: f 33 :: f 34 :: f 35 :: f 36 :: f 37 :: f 38 :: f 39 :: f 40 :: f 41 :: f 42 :: f 43 :: f 44 :: f 45 :: f 46 :: f 47 :: f 48 :: f 49 :: f 50 :: f 51 :: f 52 :: f 53 :: f 54 :: f 55 :: f 56 :: f 57 :: f 58 :: f 59 :: f 60 :: f 61 :: f 62 :: f 63 :: f 64 :: f 65 :: f 66 :: f 67 :: f 68 :: f 69 :: f 70 :: f 71 :: f 72 :: f 73 :: f 74 :: f 75 :: f 76 :: f 77 :: f 78 :: f 79 :: f 80 :: f 81 :: f 82 :: f 83 :: f 84 :: []), defers := [] } w := by
  unfold B3
  go_wp2_with fail
  refine hcall.mono ?_
  rintro e w' ⟨x, rfl, hp⟩
  go_wp2
  exact hQ _ _ hp _ rfl rfl rfl rfl rfl rfl rfl
set_option maxRecDepth 100000 in
theorem b3_at {m : Array Value} {n c : Nat} {A : Option Addr} {w : World} {post : Nat → World → Prop} (hcall : Calls Try.prog 55 #[(m.getD 0 undef), .int .i64 (n : Int)] w fun e w' => ∃ x : Nat, e = .returned (.int .i64 (x : Int)) ∧ post x w') (hs : m.size = 85) (m5 : m.getD 5 undef = .slice A n c) (Q : Exit → Act → World → Prop) (hQ : ∀ (x : Nat) (w' : World), post x w' → ∀ a' : Act, a'.defers = [] → a'.tmps.size = 85 → a'.tmps.getD 0 undef = m.getD 0 undef → a'.tmps.getD 3 undef = m.getD 3 undef → a'.tmps.getD 4 undef = m.getD 4 undef → a'.tmps.getD 5 undef = .slice A n c → a'.tmps.getD 6 undef = .int .i64 (x : Int) → Q .normal a' (w')) :
  B3.wp Try.prog Q { tmps := m, defers := [] } w := by
  have e := bd_lit hs
  rw [m5] at e
  rw [e]
  exact b3_wp (f := fun i => m.getD i undef) hcall Q hQ
set_option maxRecDepth 100000 in
set_option maxHeartbeats 4000000 in
theorem b4_wp {f : Nat → Value} {g n c k : Nat} {e0 e1 : Int} {A : Option Addr} {l d : Nat} {w : World} {post : Int → Int → Option Addr → Nat → Nat → World → Prop} (hk : k < n) (hn : n ≤ 1048576) (h0 : w.cell? ⟨g, k * 3, none⟩ = some (.int .i64 e0)) (h1 : w.cell? ⟨g, k * 3 + 1, none⟩ = some (.int .i64 e1)) (h2 : w.cell? ⟨g, k * 3 + 2, none⟩ = some (.slice A l d)) (hcall : Calls Try.prog 56 #[f 0, .agg #[.int .i64 e0, .int .i64 e1, .slice A l d]] w fun e w' => ∃ x0 x1 A3 l3 k3, e = .returned (.agg #[.int .i64 x0, .int .i64 x1, .slice A3 l3 k3]) ∧ post x0 x1 A3 l3 k3 w' ∧ w'.cell? ⟨g, k * 3, none⟩ = some (.int .i64 e0) ∧ w'.cell? ⟨g, k * 3 + 1, none⟩ = some (.int .i64 e1) ∧ w'.cell? ⟨g, k * 3 + 2, none⟩ = some (.slice A l d) ∧ w'.frozen? ⟨g, k * 3, none⟩ = false ∧ w'.frozen? ⟨g, k * 3 + 1, none⟩ = false ∧ w'.frozen? ⟨g, k * 3 + 2, none⟩ = false) (Q : Exit → Act → World → Prop) (hQ : ∀ x0 x1 A3 l3 k3 (w' : World), post x0 x1 A3 l3 k3 w' → ∀ a' : Act, a'.defers = [] → a'.tmps.size = 85 → a'.tmps.getD 0 undef = f 0 → a'.tmps.getD 3 undef = f 3 → a'.tmps.getD 4 undef = f 4 → a'.tmps.getD 5 undef = .slice (some ⟨g, 0, none⟩) n c → Q .normal a' (((w'.setCell ⟨g, k * 3, none⟩ (.int .i64 x0)).setCell ⟨g, k * 3 + 1, none⟩ (.int .i64 x1)).setCell ⟨g, k * 3 + 2, none⟩ (.slice A3 l3 k3))) :
  B4.wp Try.prog Q { tmps := List.toArray (f 0 :: f 1 :: f 2 :: f 3 :: f 4 :: .slice (some ⟨g, 0, none⟩) n c :: .int .i64 (k : Int) :: f 7 :: f 8 :: f 9 :: f 10 :: f 11 :: f 12 :: f 13 :: f 14 :: f 15 :: f 16 :: f 17 :: f 18 :: f 19 :: f 20 :: f 21 :: f 22 :: f 23 :: f 24 :: f 25 :: f 26 :: f 27 :: f 28 :: f 29 :: f 30 :: f 31 :: f 32 :: f 33 :: f 34 :: f 35 :: f 36 :: f 37 :: f 38 :: f 39 :: f 40 :: f 41 :: f 42 :: f 43 :: f 44 :: f 45 :: f 46 :: f 47 :: f 48 :: f 49 :: f 50 :: f 51 :: f 52 :: f 53 :: f 54 :: f 55 :: f 56 :: f 57 :: f 58 :: f 59 :: f 60 :: f 61 :: f 62 :: f 63 :: f 64 :: f 65 :: f 66 :: f 67 :: f 68 :: f 69 :: f 70 :: f 71 :: f 72 :: f 73 :: f 74 :: f 75 :: f 76 :: f 77 :: f 78 :: f 79 :: f 80 :: f 81 :: f 82 :: f 83 :: f 84 :: []), defers := [] } w := by
  unfold B4
  go_wp2_with fail
  refine hcall.mono ?_
  rintro e w' ⟨x0, x1, A3, l3, k3, rfl, hp, g0, g1, g2, f0, f1, f2⟩
  clear h0 h1 h2
  go_wp2
  exact hQ _ _ _ _ _ _ hp _ rfl rfl rfl rfl rfl rfl
set_option maxRecDepth 100000 in
theorem b4_at {m : Array Value} {g n c k : Nat} {e0 e1 : Int} {A : Option Addr} {l d : Nat} {w : World} {post : Int → Int → Option Addr → Nat → Nat → World → Prop} (hk : k < n) (hn : n ≤ 1048576) (h0 : w.cell? ⟨g, k * 3, none⟩ = some (.int .i64 e0)) (h1 : w.cell? ⟨g, k * 3 + 1, none⟩ = some (.int .i64 e1)) (h2 : w.cell? ⟨g, k * 3 + 2, none⟩ = some (.slice A l d)) (hcall : Calls Try.prog 56 #[(m.getD 0 undef), .agg #[.int .i64 e0, .int .i64 e1, .slice A l d]] w fun e w' => ∃ x0 x1 A3 l3 k3, e = .returned (.agg #[.int .i64 x0, .int .i64 x1, .slice A3 l3 k3]) ∧ post x0 x1 A3 l3 k3 w' ∧ w'.cell? ⟨g, k * 3, none⟩ = some (.int .i64 e0) ∧ w'.cell? ⟨g, k * 3 + 1, none⟩ = some (.int .i64 e1) ∧ w'.cell? ⟨g, k * 3 + 2, none⟩ = some (.slice A l d) ∧ w'.frozen? ⟨g, k * 3, none⟩ = false ∧ w'.frozen? ⟨g, k * 3 + 1, none⟩ = false ∧ w'.frozen? ⟨g, k * 3 + 2, none⟩ = false) (hs : m.size = 85) (m5 : m.getD 5 undef = .slice (some ⟨g, 0, none⟩) n c) (m6 : m.getD 6 undef = .int .i64 (k : Int)) (Q : Exit → Act → World → Prop) (hQ : ∀ x0 x1 A3 l3 k3 (w' : World), post x0 x1 A3 l3 k3 w' → ∀ a' : Act, a'.defers = [] → a'.tmps.size = 85 → a'.tmps.getD 0 undef = m.getD 0 undef → a'.tmps.getD 3 undef = m.getD 3 undef → a'.tmps.getD 4 undef = m.getD 4 undef → a'.tmps.getD 5 undef = .slice (some ⟨g, 0, none⟩) n c → Q .normal a' (((w'.setCell ⟨g, k * 3, none⟩ (.int .i64 x0)).setCell ⟨g, k * 3 + 1, none⟩ (.int .i64 x1)).setCell ⟨g, k * 3 + 2, none⟩ (.slice A3 l3 k3))) :
  B4.wp Try.prog Q { tmps := m, defers := [] } w := by
  have e := bd_lit hs
  rw [m5, m6] at e
  rw [e]
  exact b4_wp (f := fun i => m.getD i undef) hk hn h0 h1 h2 hcall Q hQ
set_option maxRecDepth 100000 in
set_option maxHeartbeats 4000000 in
theorem b5_wp {f : Nat → Value} {c3 c4 : Nat} {e0 e1 : Int} {v : Value} {w : World} {post : Int → Int → Option Addr → Nat → Nat → World → Prop} (h30 : w.cell? ⟨c3, 0, none⟩ = some (.int .i64 e0)) (h31 : w.cell? ⟨c3, 1, none⟩ = some (.int .i64 e1)) (hcall : Calls Try.prog 57 #[.int .i64 e0, .int .i64 e1, v] w fun e w' => ∃ x0 x1 A3 l3 k3, e = .returned (.agg #[.int .i64 x0, .int .i64 x1, .slice A3 l3 k3]) ∧ post x0 x1 A3 l3 k3 w' ∧ (∃ T, w'.heap[c4]? = some (.cells #[.int .i64 0, .int .i64 0, .slice none 0 0] T (0, 0)))) (Q : Exit → Act → World → Prop) (hQ : ∀ x0 x1 A3 l3 k3 (w' : World), post x0 x1 A3 l3 k3 w' → ∀ a' : Act, a'.defers = [] → (results Try.f56 a'.tmps).run Try.prog (((w'.setCell ⟨c4, 0, none⟩ (.int .i64 x0)).setCell ⟨c4, 1, none⟩ (.int .i64 x1)).setCell ⟨c4, 2, none⟩ (.slice A3 l3 k3)) = .ok (.agg #[.int .i64 x0, .int .i64 x1, .slice A3 l3 k3]) (((w'.setCell ⟨c4, 0, none⟩ (.int .i64 x0)).setCell ⟨c4, 1, none⟩ (.int .i64 x1)).setCell ⟨c4, 2, none⟩ (.slice A3 l3 k3)) → Q .ret a' (((w'.setCell ⟨c4, 0, none⟩ (.int .i64 x0)).setCell ⟨c4, 1, none⟩ (.int .i64 x1)).setCell ⟨c4, 2, none⟩ (.slice A3 l3 k3))) : (Code.seq B5 .ret).wp Try.prog Q { tmps := List.toArray (f 0 :: f 1 :: f 2 :: .pointer (some ⟨c3, 0, none⟩) :: .pointer (some ⟨c4, 0, none⟩) :: v :: f 6 :: f 7 :: f 8 :: f 9 :: f 10 :: f 11 :: f 12 :: f 13 :: f 14 :: f 15 :: f 16 :: f 17 :: f 18 :: f 19 :: f 20 :: f 21 :: f 22 :: f 23 :: f 24 :: f 25 :: f 26 :: f 27 :: f 28 :: f 29 :: f 30 :: f 31 :: f 32 :: f 33 :: f 34 :: f 35 :: f 36 :: f 37 :: f 38 :: f 39 :: f 40 :: f 41 :: f 42 :: f 43 :: f 44 :: f 45 :: f 46 :: f 47 :: f 48 :: f 49 :: f 50 :: f 51 :: f 52 :: f 53 :: f 54 :: f 55 :: f 56 :: f 57 :: f 58 :: f 59 :: f 60 :: f 61 :: f 62 :: f 63 :: f 64 :: f 65 :: f 66 :: f 67 :: f 68 :: f 69 :: f 70 :: f 71 :: f 72 :: f 73 :: f 74 :: f 75 :: f 76 :: f 77 :: f 78 :: f 79 :: f 80 :: f 81 :: f 82 :: f 83 :: f 84 :: []), defers := [] } w := by
  unfold B5
  go_wp2_with fail
  refine hcall.mono ?_
  rintro e w' ⟨x0, x1, A3, l3, k3, rfl, hp, T, hT⟩
  have k0 := hcell_of (j := 0) hT rfl
  have k1 := hcell_of (j := 1) hT rfl
  have k2 := hcell_of (j := 2) hT rfl
  have f0 := frozen_of_row w' _ 0 _ _ hT
  have f1 := frozen_of_row w' _ 1 _ _ hT
  have f2 := frozen_of_row w' _ 2 _ _ hT
  have q1 := heap_setCell_same w' c4 0 _ T (.int .i64 x0) hT
  have q2 := heap_setCell_same _ c4 1 _ T (.int .i64 x1) q1
  have q3 := heap_setCell_same _ c4 2 _ T (.slice A3 l3 k3) q2
  have y0 := hcell_of (j := 0) q3 rfl
  have y1 := hcell_of (j := 1) q3 rfl
  have y2 := hcell_of (j := 2) q3 rfl
  clear h30 h31 hcall q1 q2 q3 hT
  go_wp2
  refine hQ _ _ _ _ _ _ hp _ rfl ?_
  simp [results, Try.results56, go_sem, y0, y1, y2]
set_option maxRecDepth 100000 in
theorem b5_at {m : Array Value} {c3 c4 : Nat} {e0 e1 : Int} {v : Value} {w : World} {post : Int → Int → Option Addr → Nat → Nat → World → Prop} (h30 : w.cell? ⟨c3, 0, none⟩ = some (.int .i64 e0)) (h31 : w.cell? ⟨c3, 1, none⟩ = some (.int .i64 e1)) (hcall : Calls Try.prog 57 #[.int .i64 e0, .int .i64 e1, v] w fun e w' => ∃ x0 x1 A3 l3 k3, e = .returned (.agg #[.int .i64 x0, .int .i64 x1, .slice A3 l3 k3]) ∧ post x0 x1 A3 l3 k3 w' ∧ (∃ T, w'.heap[c4]? = some (.cells #[.int .i64 0, .int .i64 0, .slice none 0 0] T (0, 0)))) (hs : m.size = 85) (m3 : m.getD 3 undef = .pointer (some ⟨c3, 0, none⟩)) (m4 : m.getD 4 undef = .pointer (some ⟨c4, 0, none⟩)) (m5 : m.getD 5 undef = v) (Q : Exit → Act → World → Prop) (hQ : ∀ x0 x1 A3 l3 k3 (w' : World), post x0 x1 A3 l3 k3 w' → ∀ a' : Act, a'.defers = [] → (results Try.f56 a'.tmps).run Try.prog (((w'.setCell ⟨c4, 0, none⟩ (.int .i64 x0)).setCell ⟨c4, 1, none⟩ (.int .i64 x1)).setCell ⟨c4, 2, none⟩ (.slice A3 l3 k3)) = .ok (.agg #[.int .i64 x0, .int .i64 x1, .slice A3 l3 k3]) (((w'.setCell ⟨c4, 0, none⟩ (.int .i64 x0)).setCell ⟨c4, 1, none⟩ (.int .i64 x1)).setCell ⟨c4, 2, none⟩ (.slice A3 l3 k3)) → Q .ret a' (((w'.setCell ⟨c4, 0, none⟩ (.int .i64 x0)).setCell ⟨c4, 1, none⟩ (.int .i64 x1)).setCell ⟨c4, 2, none⟩ (.slice A3 l3 k3))) : (Code.seq B5 .ret).wp Try.prog Q { tmps := m, defers := [] } w := by
  have e := bd_lit hs
  rw [m3, m4, m5] at e
  rw [e]
  exact b5_wp (f := fun i => m.getD i undef) h30 h31 hcall Q hQ
end Go.Proofs.Ytbodfaghedolbaa
namespace Go.Proofs.Ytbodfaghedolbaa
open Go Go.RowKit
def BendPost (p0 : Stb) (w0 : World) (b : Nat) (ns : List Nat) (pos M : Nat) : Ending → World → Prop := fun e w' => ∃ v p' o n kids pos', e = .returned v ∧ RepS p' w' v (.agg [.int o, .int n, .sl 3 kids]) ∧ Fit .expr [.int o, .int n, .sl 3 kids] ∧ 1 + kids.length + rsS kids ≤ M + 1 ∧
  Evo (· = b) p0 w0 p' w' ∧ Zp p' w' ∧ TK p' w' (fun _ => False) b (Qr ns pos') ∧ pos' ≤ pos + 4 * M
structure BD (p0 : Stb) (w0 : World) (b c3 c4 : Nat) (e0 e1 : Int) (A : Option Addr) (n c : Nat) (kids : List (List AC)) (q : List AC) (p : Stb) (w : World) (m : Array Value) : Prop where
  size : m.size = 85
  m0 : m.getD 0 undef = ptrB b
  m3 : m.getD 3 undef = .pointer (some ⟨c3, 0, none⟩)
  m4 : m.getD 4 undef = .pointer (some ⟨c4, 0, none⟩)
  x3 : ∃ T, w.heap[c3]? = some (.cells #[.int .i64 e0, .int .i64 e1, .slice A n c] T (0, 0))
  x4 : ∃ T, w.heap[c4]? = some (.cells #[.int .i64 0, .int .i64 0, .slice none 0 0] T (0, 0))
  n34 : c3 ≠ c4
  g3 : w0.heap.size ≤ c3
  g4 : w0.heap.size ≤ c4
  z3 : p c3 = 0
  z4 : p c4 = 0
  gb : b < w0.heap.size
  rep : Rep p w (.slice A n c) (.sl 3 kids)
  tk : TK p w (fun _ => False) b q
  zp : Zp p w
  evo : Evo (· = b) p0 w0 p w
section
variable {ns : List Nat} (hns : ns.length ≤ 2000) {p0 p p' : Stb} {w0 w w' : World} {b c3 c4 : Nat} {e0 e1 : Int} {A : Option Addr} {n c : Nat} {kids : List (List AC)} {q q' : List AC} {m m' : Array Value}
theorem BD.lt3 (h : BD p0 w0 b c3 c4 e0 e1 A n c kids q p w m) : c3 < w.heap.size := by obtain ⟨_, h⟩ := h.x3; exact get_lt h
theorem BD.lt4 (h : BD p0 w0 b c3 c4 e0 e1 A n c kids q p w m) : c4 < w.heap.size := by obtain ⟨_, h⟩ := h.x4; exact get_lt h
theorem BD.slots (h : BD p0 w0 b c3 c4 e0 e1 A n c kids q p w m) (hs : m'.size = 85) (h0 : m'.getD 0 undef = m.getD 0 undef) (h3 : m'.getD 3 undef = m.getD 3 undef) (h4 : m'.getD 4 undef = m.getD 4 undef) : BD p0 w0 b c3 c4 e0 e1 A n c kids q p w m' :=
  { h with size := hs, m0 := h0.trans h.m0, m3 := h3.trans h.m3, m4 := h4.trans h.m4 }
theorem BD.on (h : BD p0 w0 b c3 c4 e0 e1 A n c kids q p w m) (hev : Evo (· = b) p w p' w') (hz : Zp p' w') (ht : TK p' w' (fun _ => False) b q') : BD p0 w0 b c3 c4 e0 e1 A n c kids q' p' w' m := by
  have n3b : c3 ≠ b := fun e => by have := h.g3; have := h.gb; omega
  have n4b : c4 ≠ b := fun e => by have := h.g4; have := h.gb; omega
  exact { h with x3 := by rw [hev.block c3 h.lt3 n3b]; exact h.x3, x4 := by rw [hev.block c4 h.lt4 n4b]; exact h.x4, z3 := (hev.same c3 h.lt3 n3b).trans h.z3, z4 := (hev.same c4 h.lt4 n4b).trans h.z4, rep := h.rep.evo hev, tk := ht, zp := hz, evo := h.evo.trans hev (fun _ _ e => e) (fun _ _ e => e) }
theorem wp_bodyPost_mono {P : Program} {fn : Func} {R R' : Ending → World → Prop} {cd : Code} {a : Act} {w : World} (h : cd.wp P (bodyPost P fn R) a w) (hR : ∀ e w, R e w → R' e w) : cd.wp P (bodyPost P fn R') a w := by
  refine Code.wp_mono (fun e a w h => ?_) h
  cases e with
  | normal => obtain ⟨h1, v, h2, h3⟩ := h; exact ⟨h1, v, h2, hR _ _ h3⟩
  | ret => obtain ⟨h1, v, h2, h3⟩ := h; exact ⟨h1, v, h2, hR _ _ h3⟩
  | panic ch => obtain ⟨h1, h3⟩ := h; exact ⟨h1, hR _ _ h3⟩
  | outgrown => exact hR _ _ h
  | _ => exact h.elim
include hns
theorem bd_rest {pos M : Nat} (hM : M ≤ 50000) (hM1 : 1 ≤ M) {pos0 : Nat} (hpp : pos ≤ pos0 + 2) (hpos : pos + 100 ≤ 800000) (h : BD p0 w0 b c3 c4 e0 e1 A n c kids (Qr ns pos) p w m) (hf : Fit .expr [.int e0, .int e1, .sl 3 kids]) (hs : 1 + kids.length + rsS kids ≤ M) :
    (dropS 2 (cOf Try.f56)).wp Try.prog (bodyPost Try.prog Try.f56 (BendPost p0 w0 b ns pos0 M)) { tmps := m, defers := [] } w := by
  obtain ⟨o', n', kids', pos', hev, hp', hf', hs'⟩ := t_bendRest hns (n4 := 0) (n5 := 0) (l6 := []) hf hs (by omega) (p := pos) (by omega)
  obtain ⟨O, hO⟩ := Option.isSome_iff_exists.1 bdR_st
  obtain ⟨T3, x3⟩ := h.x3
  obtain ⟨T4, x4⟩ := h.x4
  have hb := h.gb
  have hK : Known p w m 85 [(3, .box [.int e0, .int e1, .sl 3 kids]), (4, .box [.int 0, .int 0, .sl 3 []])] (fun x => w0.heap.size ≤ x) := by
    have look : ∀ t x, List.lookup t [(3, AV.box [.int e0, .int e1, .sl 3 kids]), (4, AV.box [.int 0, .int 0, .sl 3 []])] = some x → (t = 3 ∧ x = .box [.int e0, .int e1, .sl 3 kids]) ∨ (t = 4 ∧ x = .box [.int 0, .int 0, .sl 3 []]) := fun t x hx => by
      simp only [List.lookup_cons] at hx
      by_cases h3 : t = 3
      · subst h3; simp at hx; exact .inl ⟨rfl, hx.symm⟩
      · by_cases h4 : t = 4
        · subst h4; simp at hx; exact .inr ⟨rfl, hx.symm⟩
        · rw [show (t == 3) = false by simpa using h3, show (t == 4) = false by simpa using h4] at hx
          simp at hx
    refine ⟨fun t x hx => ?_, fun t x hx => ?_, fun t t' cs cs' x ht h1 h2 h3 h4 => ?_⟩
    · rcases look t x hx with ⟨rfl, rfl⟩ | ⟨rfl, rfl⟩
      · exact ⟨by omega, c3, _, T3, h.m3, x3, .int _, .int _, h.rep, trivial⟩
      · exact ⟨by omega, c4, _, T4, h.m4, x4, .int _, .int _, .nil _ _, trivial⟩
    · rcases look t x hx with ⟨rfl, rfl⟩ | ⟨rfl, rfl⟩
      · exact .inr ⟨_, c3, rfl, h.m3, h.z3, h.g3⟩
      · exact .inr ⟨_, c4, rfl, h.m4, h.z4, h.g4⟩
    · rcases look _ _ h1 with ⟨rfl, _⟩ | ⟨rfl, _⟩ <;> rcases look _ _ h2 with ⟨rfl, _⟩ | ⟨rfl, _⟩
      · exact ht rfl
      · rw [h.m3] at h3; rw [h.m4] at h4; cases h3; cases h4; exact h.n34 rfl
      · rw [h.m4] at h3; rw [h.m3] at h4; cases h3; cases h4; exact h.n34 rfl
      · exact ht rfl
  have hI := inv_known (q := Qr ns pos) h.size hK h.zp (fun x hx => Nat.le_trans h.evo.size hx) h.m0 (h.tk.own (Own' := fun x => w0.heap.size ≤ x) (Nat.not_le.2 hb))
  refine wp_bodyPost_mono (rest_ok (Y := Y_bdR) (a := { tmps := m, defers := [] }) orders_ok lay_ok vok tab_ok hev (knownL_len _ _ _) (known_ag (n := 85) h.m0 (by omega) (fun t x hx => (hK.lt t x hx).1) rfl) hO hI rfl h.evo) ?_
  rintro e w' ⟨v, rfl, p', hsr, _, _, hev', hz', ht'⟩
  exact ⟨v, p', o', n', kids', pos', rfl, hsr, hf', hs', hev', hz', ht', by omega⟩
end
end Go.Proofs.Ytbodfaghedolbaa
namespace Go.Proofs.Ytbodfaghedolbaa
open Go Go.RowKit
section
variable {ns : List Nat}
theorem bd_enter {p0 : Stb} {w0 : World} {b pos : Nat} {e0 e1 : Int} {A : Option Addr} {n c : Nat} {kids : List (List AC)} (hz : Zp p0 w0) (ht : TK p0 w0 (fun _ => False) b (Qr ns pos)) (hr : Rep p0 w0 (.slice A n c) (.sl 3 kids)) {m : Array Value} (hs : m.size = 85) (h0 : m.getD 0 undef = ptrB b) (h1 : m.getD 1 undef = .agg #[.int .i64 e0, .int .i64 e1, .slice A n c])
    (Q : Exit → Act → World → Prop) (hQ : ∀ a' w' p' c3 c4, a'.defers = [] → BD p0 w0 b c3 c4 e0 e1 A n c kids (Qr ns pos) p' w' a'.tmps → Q .normal a' w') : B0.wp Try.prog Q { tmps := m, defers := [] } w0 := by
  have hb := ht.lt
  refine b0_at hs h1 Q fun a' hd' hs' h0' h3' h4' => ?_
  have hea := evo_alloc (p := p0) (w := w0) (.cells #[.int .i64 e0, .int .i64 e1, .slice A n c] 32) 0 (fun _ => False)
  have heb := evo_alloc (p := upP p0 w0.heap.size 0) (w := w0.alloc (.cells #[.int .i64 e0, .int .i64 e1, .slice A n c] 32)) (.cells #[.int .i64 0, .int .i64 0, .slice none 0 0] 32) 0 (fun _ => False)
  have hsz : (w0.alloc (.cells #[.int .i64 e0, .int .i64 e1, .slice A n c] 32)).heap.size = w0.heap.size + 1 := by simp
  have x3 : ((w0.alloc (.cells #[.int .i64 e0, .int .i64 e1, .slice A n c] 32)).alloc (.cells #[.int .i64 0, .int .i64 0, .slice none 0 0] 32)).heap[w0.heap.size]? = some (.cells #[.int .i64 e0, .int .i64 e1, .slice A n c] 32 (0, 0)) :=
    (Below.heap_alloc _ _ _ (by omega)).trans (heap_alloc_new _ _)
  have x4 : ((w0.alloc (.cells #[.int .i64 e0, .int .i64 e1, .slice A n c] 32)).alloc (.cells #[.int .i64 0, .int .i64 0, .slice none 0 0] 32)).heap[w0.heap.size + 1]? = some (.cells #[.int .i64 0, .int .i64 0, .slice none 0 0] 32 (0, 0)) := by
    rw [← hsz]; exact heap_alloc_new _ _
  have hE := hea.trans heb (C := fun _ => False) (fun _ _ h => h) (fun _ _ h => h)
  rw [hsz] at hE
  refine hQ a' _ _ _ _ hd' { size := hs', m0 := h0'.trans h0, m3 := h3', m4 := h4', x3 := ⟨_, x3⟩, x4 := ⟨_, x4⟩, n34 := by omega, g3 := Nat.le_refl _, g4 := by omega, z3 := ?_, z4 := ?_, gb := hb, rep := hr.evo hE, tk := ht.evo hE, zp := ⟨fun x hx => ?_, fun _ _ _ => trivial⟩, evo := hE.weaken (fun _ _ h => h.elim) }
  · rw [upP_f, if_neg (by omega), upP_f, if_pos rfl]
  · rw [upP_f, if_pos rfl]
  · simp at hx
    rw [upP_f, if_neg (by omega), upP_f, if_neg (by omega)]
    exact hz.1 x (by omega)
end
end Go.Proofs.Ytbodfaghedolbaa

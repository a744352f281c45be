/- Generic texts and models for the proofs of this seat: part 42. -/
import Derived.Test.YtbodfaghedolbaaS41
import Derived.WalkKit
set_option linter.unusedVariables false
set_option linter.unusedSimpArgs false
namespace Go.Proofs.Ytbodfaghedolbaa
open Go Go.RowKit
def S0 : Code := Go.Code.region 0 #[{ dst := some 2, op := Go.Op.alloc 32, type := 0, pos := "l31_generate.go:66", after := #[], guard := none }] false
def S1 : Code := Go.Code.region 1 #[{ dst := some 7, op := Go.Op.move (Go.Operand.tmp 0), type := 46, pos := "l31_generate.go:67", after := #[], guard := none }, { dst := some 8, op := Go.Op.call { callee := Go.Callee.value (Go.Operand.func 54), args := #[Go.Operand.tmp 7], argTypes := #[46] }, type := 68, pos := "l31_generate.go:67", after := #[{ on := 0, ground := Go.Ground.data }], guard := none }, { dst := some 6, op := Go.Op.move (Go.Operand.tmp 8), type := 68, pos := "l31_generate.go:67", after := #[{ on := 1, ground := Go.Ground.data }], guard := none }, { dst := some 9, op := Go.Op.extract (Go.Operand.tmp 6) 0, type := 26, pos := "l31_generate.go:67", after := #[{ on := 2, ground := Go.Ground.data }], guard := none }, { dst := some 10, op := Go.Op.extract (Go.Operand.tmp 6) 1, type := 3, pos := "l31_generate.go:67", after := #[{ on := 2, ground := Go.Ground.data }, { on := 6, ground := Go.Ground.gcOnly Go.Departure.lateStores }], guard := none }, { dst := some 3, op := Go.Op.alloc 26, type := 0, pos := "l31_generate.go:67", after := #[], guard := none }, { dst := none, op := Go.Op.store 26 (Go.Operand.tmp 3) (Go.Operand.tmp 9), type := 0, pos := "l31_generate.go:67", after := #[{ on := 5, ground := Go.Ground.data }, { on := 3, ground := Go.Ground.data }, { on := 1, ground := Go.Ground.chain }, { on := 0, ground := Go.Ground.phase }, { on := 1, ground := Go.Ground.phase }, { on := 2, ground := Go.Ground.phase }, { on := 3, ground := Go.Ground.phase }, { on := 4, ground := Go.Ground.textOnly Go.Departure.lateStores }, { on := 5, ground := Go.Ground.phase }], guard := none }, { dst := some 4, op := Go.Op.assign (Go.Operand.tmp 10), type := 3, pos := "l31_generate.go:67", after := #[{ on := 4, ground := Go.Ground.data }, { on := 6, ground := Go.Ground.chain }, { on := 0, ground := Go.Ground.phase }, { on := 1, ground := Go.Ground.phase }, { on := 2, ground := Go.Ground.phase }, { on := 3, ground := Go.Ground.phase }, { on := 4, ground := Go.Ground.phase }, { on := 5, ground := Go.Ground.phase }, { on := 6, ground := Go.Ground.phase }], guard := none }] false
def S2 : Code := Go.Code.region 2 #[{ dst := some 11, op := Go.Op.fieldAddr 26 (Go.Operand.tmp 3) 1, type := 0, pos := "l31_generate.go:68", after := #[], guard := none }, { dst := some 12, op := Go.Op.load 24 (Go.Operand.tmp 11), type := 24, pos := "l31_generate.go:68", after := #[{ on := 0, ground := Go.Ground.data }], guard := none }, { dst := some 13, op := Go.Op.move (Go.Operand.tmp 4), type := 3, pos := "l31_generate.go:68", after := #[], guard := none }, { dst := some 14, op := Go.Op.indexAddr 24 (Go.Operand.tmp 12) (Go.Operand.tmp 13), type := 0, pos := "l31_generate.go:68", after := #[{ on := 1, ground := Go.Ground.data }, { on := 2, ground := Go.Ground.data }], guard := none }, { dst := some 15, op := Go.Op.fieldAddr 35 (Go.Operand.tmp 14) 2, type := 0, pos := "l31_generate.go:68", after := #[{ on := 3, ground := Go.Ground.data }], guard := none }, { dst := some 16, op := Go.Op.load 32 (Go.Operand.tmp 15), type := 32, pos := "l31_generate.go:68", after := #[{ on := 4, ground := Go.Ground.data }], guard := none }, { dst := some 5, op := Go.Op.alloc 32, type := 0, pos := "l31_generate.go:68", after := #[], guard := none }, { dst := none, op := Go.Op.store 32 (Go.Operand.tmp 5) (Go.Operand.tmp 16), type := 0, pos := "l31_generate.go:68", after := #[{ on := 6, ground := Go.Ground.data }, { on := 5, ground := Go.Ground.data }, { on := 0, ground := Go.Ground.phase }, { on := 1, ground := Go.Ground.phase }, { on := 2, ground := Go.Ground.phase }, { on := 3, ground := Go.Ground.phase }, { on := 4, ground := Go.Ground.phase }, { on := 5, ground := Go.Ground.phase }, { on := 6, ground := Go.Ground.phase }], guard := none }] false
def S3 : Code := Go.Code.region 3 #[{ dst := some 17, op := Go.Op.move (Go.Operand.tmp 0), type := 46, pos := "l31_generate.go:69", after := #[], guard := none }, { dst := some 18, op := Go.Op.call { callee := Go.Callee.value (Go.Operand.func 55), args := #[Go.Operand.tmp 17, Go.Operand.const (Go.Value.int Go.IntKind.i64 8)], argTypes := #[46, 3] }, type := 3, pos := "l31_generate.go:69", after := #[{ on := 0, ground := Go.Ground.data }], guard := none }] false
def S4 : Code := Go.Code.region 4 #[{ dst := some 20, op := Go.Op.binOp Go.BinOp.eql 3 (Go.Operand.tmp 18) (Go.Operand.const (Go.Value.int Go.IntKind.i64 0)) 3, type := 4, pos := "l31_generate.go:70", after := #[], guard := none }, { dst := some 19, op := Go.Op.assign (Go.Operand.tmp 20), type := 4, pos := "l31_generate.go:70", after := #[{ on := 0, ground := Go.Ground.data }], guard := none }] false
def S5 : Code := Go.Code.region 5 #[{ dst := some 21, op := Go.Op.move (Go.Operand.tmp 0), type := 46, pos := "l31_generate.go:71", after := #[], guard := none }, { dst := some 22, op := Go.Op.load 32 (Go.Operand.tmp 5), type := 32, pos := "l31_generate.go:71", after := #[], guard := none }, { dst := some 23, op := Go.Op.call { callee := Go.Callee.value (Go.Operand.func 56), args := #[Go.Operand.tmp 21, Go.Operand.tmp 22], argTypes := #[46, 32] }, type := 32, pos := "l31_generate.go:71", after := #[{ on := 0, ground := Go.Ground.data }, { on := 1, ground := Go.Ground.data }], guard := none }, { dst := none, op := Go.Op.store 32 (Go.Operand.tmp 2) (Go.Operand.tmp 23), type := 0, pos := "l31_generate.go:71", after := #[{ on := 2, ground := Go.Ground.data }, { on := 2, ground := Go.Ground.chain }, { on := 0, ground := Go.Ground.phase }, { on := 1, ground := Go.Ground.phase }, { on := 2, ground := Go.Ground.phase }], guard := none }] false
noncomputable def elseSE : Code := match dropS 3 (cOf Try.f30) with
  | .seq (.seq _ (.block _ (.seq _ (.cond _ _ e)))) _ => e
  | _ => .skip
noncomputable def endSE : Code := match dropS 3 (cOf Try.f30) with
  | .seq _ e => e
  | _ => .skip
set_option maxRecDepth 100000 in
theorem body_se : cOf Try.f30 = .seq S0 (.seq S1 (.seq S2 (dropS 3 (cOf Try.f30)))) := by kernel_rfl
set_option maxRecDepth 100000 in
theorem rest_se : dropS 3 (cOf Try.f30) = .seq (.seq S3 (.block 0 (.seq S4 (.cond (.tmp 19) (.seq S5 .ret) elseSE)))) endSE := by kernel_rfl
set_option maxRecDepth 100000 in
theorem se_lit {m : Array Value} (h : m.size = 40) : m = List.toArray (m.getD 0 undef :: m.getD 1 undef :: m.getD 2 undef :: m.getD 3 undef :: m.getD 4 undef :: m.getD 5 undef :: m.getD 6 undef :: m.getD 7 undef :: m.getD 8 undef :: m.getD 9 undef :: m.getD 10 undef :: m.getD 11 undef :: m.getD 12 undef :: m.getD 13 undef :: m.getD 14 undef :: m.getD 15 undef :: m.getD 16 undef :: m.getD 17 undef :: m.getD 18 undef :: m.getD 19 undef :: m.getD 20 undef :: m.getD 21 undef :: m.getD 22 undef :: m.getD 23 undef :: m.getD 24 undef :: m.getD 25 undef :: m.getD 26 undef :: m.getD 27 undef :: m.getD 28 undef :: m.getD 29 undef :: m.getD 30 undef :: m.getD 31 undef :: m.getD 32 undef :: m.getD 33 undef :: m.getD 34 undef :: m.getD 35 undef :: m.getD 36 undef :: m.getD 37 undef :: m.getD 38 undef :: m.getD 39 undef :: []) := by
  apply Array.ext'
  have h1 : m.toList = (List.range 40).map (fun i => m.getD i undef) := by
    apply List.ext_getElem
    · simp [h]
    · intro i h1 h2
      simp only [Array.length_toList] at h1
      simp [Array.getD, h1]
  exact h1.trans rfl
set_option maxRecDepth 100000 in
set_option maxHeartbeats 4000000 in
theorem s0_wp {f : Nat → Value} {w : World}  (Q : Exit → Act → World → Prop) (hQ : ∀ a' : Act, a'.defers = [] → a'.tmps.size = 40 → a'.tmps.getD 0 undef = f 0 → a'.tmps.getD 2 undef = .pointer (some ⟨w.heap.size, 0, none⟩) → Q .normal a' (w.alloc (.cells #[.int .i64 0, .int .i64 0, .slice none 0 0] 32))) :
  S0.wp Try.prog Q { tmps := List.toArray (f 0 :: f 1 :: f 2 :: f 3 :: f 4 :: f 5 :: f 6 :: f 7 :: f 8 :: f 9 :: f 10 :: f 11 :: f 12 :: f 13 :: f 14 :: f 15 :: f 16 :: f 17 :: f 18 :: f 19 :: f 20 :: f 21 :: f 22 :: f 23 :: f 24 :: f 25 :: f 26 :: f 27 :: f 28 :: f 29 :: f 30 :: f 31 :: f 32 :: f 33 :: f 34 :: f 35 :: f 36 :: f 37 :: f 38 :: f 39 :: []), defers := [] } w := by
  unfold S0
  go_wp2
  exact hQ _ rfl rfl rfl rfl
set_option maxRecDepth 100000 in
theorem s0_at {m : Array Value} {w : World}  (hs : m.size = 40)  (Q : Exit → Act → World → Prop) (hQ : ∀ a' : Act, a'.defers = [] → a'.tmps.size = 40 → a'.tmps.getD 0 undef = m.getD 0 undef → a'.tmps.getD 2 undef = .pointer (some ⟨w.heap.size, 0, none⟩) → Q .normal a' (w.alloc (.cells #[.int .i64 0, .int .i64 0, .slice none 0 0] 32))) :
  S0.wp Try.prog Q { tmps := m, defers := [] } w := by
  have e := se_lit hs
  rw [e]
  exact s0_wp (f := fun i => m.getD i undef)  Q hQ
set_option maxRecDepth 100000 in
set_option maxHeartbeats 4000000 in
theorem s1_wp {f : Nat → Value} {w : World} {post : Option Addr → Nat → Nat → Option Addr → Nat → Nat → Nat → World → Prop} (hcall : Calls Try.prog 54 #[f 0] w fun e w' => ∃ D1 d1 d2 E1 e1 e2 x, e = .returned (.tuple #[.agg #[.slice D1 d1 d2, .slice E1 e1 e2], .int .i64 ((x : Nat) : Int)]) ∧ post D1 d1 d2 E1 e1 e2 x w') (Q : Exit → Act → World → Prop) (hQ : ∀ D1 d1 d2 E1 e1 e2 (x : Nat) (w' : World), post D1 d1 d2 E1 e1 e2 x w' → ∀ a' : Act, a'.defers = [] → a'.tmps.size = 40 → a'.tmps.getD 0 undef = f 0 → a'.tmps.getD 2 undef = f 2 → a'.tmps.getD 3 undef = .pointer (some ⟨w'.heap.size, 0, none⟩) → a'.tmps.getD 4 undef = .int .i64 ((x : Nat) : Int) → Q .normal a' (w'.alloc (.cells #[.slice D1 d1 d2, .slice E1 e1 e2] 26))) :
  S1.wp Try.prog Q { tmps := List.toArray (f 0 :: f 1 :: f 2 :: f 3 :: f 4 :: f 5 :: f 6 :: f 7 :: f 8 :: f 9 :: f 10 :: f 11 :: f 12 :: f 13 :: f 14 :: f 15 :: f 16 :: f 17 :: f 18 :: f 19 :: f 20 :: f 21 :: f 22 :: f 23 :: f 24 :: f 25 :: f 26 :: f 27 :: f 28 :: f 29 :: f 30 :: f 31 :: f 32 :: f 33 :: f 34 :: f 35 :: f 36 :: f 37 :: f 38 :: f 39 :: []), defers := [] } w := by
  unfold S1
  go_wp2_with fail
  refine hcall.mono ?_
  rintro e w' ⟨D1, d1, d2, E1, e1, e2, x, rfl, hp⟩
  go_wp2
  exact hQ _ _ _ _ _ _ _ _ hp _ rfl rfl rfl rfl rfl rfl
set_option maxRecDepth 100000 in
theorem s1_at {m : Array Value} {w : World} {post : Option Addr → Nat → Nat → Option Addr → Nat → Nat → Nat → World → Prop} (hcall : Calls Try.prog 54 #[(m.getD 0 undef)] w fun e w' => ∃ D1 d1 d2 E1 e1 e2 x, e = .returned (.tuple #[.agg #[.slice D1 d1 d2, .slice E1 e1 e2], .int .i64 ((x : Nat) : Int)]) ∧ post D1 d1 d2 E1 e1 e2 x w') (hs : m.size = 40)  (Q : Exit → Act → World → Prop) (hQ : ∀ D1 d1 d2 E1 e1 e2 (x : Nat) (w' : World), post D1 d1 d2 E1 e1 e2 x w' → ∀ a' : Act, a'.defers = [] → a'.tmps.size = 40 → a'.tmps.getD 0 undef = m.getD 0 undef → a'.tmps.getD 2 undef = m.getD 2 undef → a'.tmps.getD 3 undef = .pointer (some ⟨w'.heap.size, 0, none⟩) → a'.tmps.getD 4 undef = .int .i64 ((x : Nat) : Int) → Q .normal a' (w'.alloc (.cells #[.slice D1 d1 d2, .slice E1 e1 e2] 26))) :
  S1.wp Try.prog Q { tmps := m, defers := [] } w := by
  have e := se_lit hs
  rw [e]
  exact s1_wp (f := fun i => m.getD i undef) hcall Q hQ
set_option maxRecDepth 100000 in
set_option maxHeartbeats 4000000 in
theorem s2_wp {f : Nat → Value} {c3 B o n cap x : Nat} {e0 e1 : Int} {A : Option Addr} {l c : Nat} {w : World} (hx : x < n) (hn : n ≤ 1048576) (h31 : w.cell? ⟨c3, 1, none⟩ = some (.slice (some ⟨B, o, none⟩) n cap)) (h2 : w.cell? ⟨B, o + x * 5 + 2, none⟩ = some (.int .i64 e0)) (h3 : w.cell? ⟨B, o + x * 5 + 2 + 1, none⟩ = some (.int .i64 e1)) (h4 : w.cell? ⟨B, o + x * 5 + 2 + 2, none⟩ = some (.slice A l c)) (Q : Exit → Act → World → Prop) (hQ : ∀ a' : Act, a'.defers = [] → a'.tmps.size = 40 → a'.tmps.getD 0 undef = f 0 → a'.tmps.getD 2 undef = f 2 → a'.tmps.getD 5 undef = .pointer (some ⟨w.heap.size, 0, none⟩) → Q .normal a' (w.alloc (.cells #[.int .i64 e0, .int .i64 e1, .slice A l c] 32))) :
  S2.wp Try.prog Q { tmps := List.toArray (f 0 :: f 1 :: f 2 :: .pointer (some ⟨c3, 0, none⟩) :: .int .i64 ((x : Nat) : Int) :: f 5 :: f 6 :: f 7 :: f 8 :: f 9 :: f 10 :: f 11 :: f 12 :: f 13 :: f 14 :: f 15 :: f 16 :: f 17 :: f 18 :: f 19 :: f 20 :: f 21 :: f 22 :: f 23 :: f 24 :: f 25 :: f 26 :: f 27 :: f 28 :: f 29 :: f 30 :: f 31 :: f 32 :: f 33 :: f 34 :: f 35 :: f 36 :: f 37 :: f 38 :: f 39 :: []), defers := [] } w := by
  unfold S2
  go_wp2
  exact hQ _ rfl rfl rfl rfl rfl
set_option maxRecDepth 100000 in
theorem s2_at {m : Array Value} {c3 B o n cap x : Nat} {e0 e1 : Int} {A : Option Addr} {l c : Nat} {w : World} (hx : x < n) (hn : n ≤ 1048576) (h31 : w.cell? ⟨c3, 1, none⟩ = some (.slice (some ⟨B, o, none⟩) n cap)) (h2 : w.cell? ⟨B, o + x * 5 + 2, none⟩ = some (.int .i64 e0)) (h3 : w.cell? ⟨B, o + x * 5 + 2 + 1, none⟩ = some (.int .i64 e1)) (h4 : w.cell? ⟨B, o + x * 5 + 2 + 2, none⟩ = some (.slice A l c)) (hs : m.size = 40) (m3 : m.getD 3 undef = .pointer (some ⟨c3, 0, none⟩)) (m4 : m.getD 4 undef = .int .i64 ((x : Nat) : Int)) (Q : Exit → Act → World → Prop) (hQ : ∀ a' : Act, a'.defers = [] → a'.tmps.size = 40 → a'.tmps.getD 0 undef = m.getD 0 undef → a'.tmps.getD 2 undef = m.getD 2 undef → a'.tmps.getD 5 undef = .pointer (some ⟨w.heap.size, 0, none⟩) → Q .normal a' (w.alloc (.cells #[.int .i64 e0, .int .i64 e1, .slice A l c] 32))) :
  S2.wp Try.prog Q { tmps := m, defers := [] } w := by
  have e := se_lit hs
  rw [m3, m4] at e
  rw [e]
  exact s2_wp (f := fun i => m.getD i undef) hx hn h31 h2 h3 h4 Q hQ
set_option maxRecDepth 100000 in
set_option maxHeartbeats 4000000 in
theorem s3_wp {f : Nat → Value} {w : World} {post : Nat → World → Prop} (hcall : Calls Try.prog 55 #[f 0, .int .i64 8] w fun e w' => ∃ x : Nat, e = .returned (.int .i64 (x : Int)) ∧ post x w') (Q : Exit → Act → World → Prop) (hQ : ∀ (x : Nat) (w' : World), post x w' → ∀ a' : Act, a'.defers = [] → a'.tmps.size = 40 → a'.tmps.getD 0 undef = f 0 → a'.tmps.getD 2 undef = f 2 → a'.tmps.getD 5 undef = f 5 → a'.tmps.getD 18 undef = .int .i64 (x : Int) → Q .normal a' (w')) :
  S3.wp Try.prog Q { tmps := List.toArray (f 0 :: f 1 :: f 2 :: f 3 :: f 4 :: f 5 :: f 6 :: f 7 :: f 8 :: f 9 :: f 10 :: f 11 :: f 12 :: f 13 :: f 14 :: f 15 :: f 16 :: f 17 :: f 18 :: f 19 :: f 20 :: f 21 :: f 22 :: f 23 :: f 24 :: f 25 :: f 26 :: f 27 :: f 28 :: f 29 :: f 30 :: f 31 :: f 32 :: f 33 :: f 34 :: f 35 :: f 36 :: f 37 :: f 38 :: f 39 :: []), defers := [] } w := by
  unfold S3
  go_wp2_with fail
  refine hcall.mono ?_
  rintro e w' ⟨x, rfl, hp⟩
  go_wp2
  exact hQ _ _ hp _ rfl rfl rfl rfl rfl rfl
set_option maxRecDepth 100000 in
theorem s3_at {m : Array Value} {w : World} {post : Nat → World → Prop} (hcall : Calls Try.prog 55 #[(m.getD 0 undef), .int .i64 8] w fun e w' => ∃ x : Nat, e = .returned (.int .i64 (x : Int)) ∧ post x w') (hs : m.size = 40)  (Q : Exit → Act → World → Prop) (hQ : ∀ (x : Nat) (w' : World), post x w' → ∀ a' : Act, a'.defers = [] → a'.tmps.size = 40 → a'.tmps.getD 0 undef = m.getD 0 undef → a'.tmps.getD 2 undef = m.getD 2 undef → a'.tmps.getD 5 undef = m.getD 5 undef → a'.tmps.getD 18 undef = .int .i64 (x : Int) → Q .normal a' (w')) :
  S3.wp Try.prog Q { tmps := m, defers := [] } w := by
  have e := se_lit hs
  rw [e]
  exact s3_wp (f := fun i => m.getD i undef) hcall Q hQ
set_option maxRecDepth 100000 in
set_option maxHeartbeats 4000000 in
theorem s4_wp {f : Nat → Value} {w : World}  (Q : Exit → Act → World → Prop) (hQ : ∀ a' : Act, a'.defers = [] → a'.tmps.size = 40 → a'.tmps.getD 0 undef = f 0 → a'.tmps.getD 2 undef = f 2 → a'.tmps.getD 5 undef = f 5 → a'.tmps.getD 19 undef = .bool true → Q .normal a' (w)) :
  S4.wp Try.prog Q { tmps := List.toArray (f 0 :: f 1 :: f 2 :: f 3 :: f 4 :: f 5 :: f 6 :: f 7 :: f 8 :: f 9 :: f 10 :: f 11 :: f 12 :: f 13 :: f 14 :: f 15 :: f 16 :: f 17 :: .int .i64 0 :: f 19 :: f 20 :: f 21 :: f 22 :: f 23 :: f 24 :: f 25 :: f 26 :: f 27 :: f 28 :: f 29 :: f 30 :: f 31 :: f 32 :: f 33 :: f 34 :: f 35 :: f 36 :: f 37 :: f 38 :: f 39 :: []), defers := [] } w := by
  unfold S4
  go_wp2
  exact hQ _ rfl rfl rfl rfl rfl rfl
set_option maxRecDepth 100000 in
theorem s4_at {m : Array Value} {w : World}  (hs : m.size = 40) (m18 : m.getD 18 undef = .int .i64 0) (Q : Exit → Act → World → Prop) (hQ : ∀ a' : Act, a'.defers = [] → a'.tmps.size = 40 → a'.tmps.getD 0 undef = m.getD 0 undef → a'.tmps.getD 2 undef = m.getD 2 undef → a'.tmps.getD 5 undef = m.getD 5 undef → a'.tmps.getD 19 undef = .bool true → Q .normal a' (w)) :
  S4.wp Try.prog Q { tmps := m, defers := [] } w := by
  have e := se_lit hs
  rw [m18] at e
  rw [e]
  exact s4_wp (f := fun i => m.getD i undef)  Q hQ
set_option maxRecDepth 100000 in
set_option maxHeartbeats 4000000 in
theorem s5_wp {f : Nat → Value} {c2 c5 : Nat} {e0 e1 : Int} {A : Option Addr} {l c : Nat} {w : World} {post : Int → Int → Option Addr → Nat → Nat → World → Prop} (h50 : w.cell? ⟨c5, 0, none⟩ = some (.int .i64 e0)) (h51 : w.cell? ⟨c5, 1, none⟩ = some (.int .i64 e1)) (h52 : w.cell? ⟨c5, 2, none⟩ = some (.slice A l c)) (hcall : Calls Try.prog 56 #[f 0, .agg #[.int .i64 e0, .int .i64 e1, .slice A l c]] w fun e w' => ∃ x0 x1 A3 l3 k3, e = .returned (.agg #[.int .i64 x0, .int .i64 x1, .slice A3 l3 k3]) ∧ post x0 x1 A3 l3 k3 w' ∧ (∃ T, w'.heap[c2]? = some (.cells #[.int .i64 0, .int .i64 0, .slice none 0 0] T (0, 0)))) (Q : Exit → Act → World → Prop) (hQ : ∀ x0 x1 A3 l3 k3 (w' : World), post x0 x1 A3 l3 k3 w' → ∀ a' : Act, a'.defers = [] → (results Try.f30 a'.tmps).run Try.prog (((w'.setCell ⟨c2, 0, none⟩ (.int .i64 x0)).setCell ⟨c2, 1, none⟩ (.int .i64 x1)).setCell ⟨c2, 2, none⟩ (.slice A3 l3 k3)) = .ok (.agg #[.int .i64 x0, .int .i64 x1, .slice A3 l3 k3]) (((w'.setCell ⟨c2, 0, none⟩ (.int .i64 x0)).setCell ⟨c2, 1, none⟩ (.int .i64 x1)).setCell ⟨c2, 2, none⟩ (.slice A3 l3 k3)) → Q .ret a' (((w'.setCell ⟨c2, 0, none⟩ (.int .i64 x0)).setCell ⟨c2, 1, none⟩ (.int .i64 x1)).setCell ⟨c2, 2, none⟩ (.slice A3 l3 k3))) : (Code.seq S5 .ret).wp Try.prog Q { tmps := List.toArray (f 0 :: f 1 :: .pointer (some ⟨c2, 0, none⟩) :: f 3 :: f 4 :: .pointer (some ⟨c5, 0, none⟩) :: f 6 :: f 7 :: f 8 :: f 9 :: f 10 :: f 11 :: f 12 :: f 13 :: f 14 :: f 15 :: f 16 :: f 17 :: f 18 :: f 19 :: f 20 :: f 21 :: f 22 :: f 23 :: f 24 :: f 25 :: f 26 :: f 27 :: f 28 :: f 29 :: f 30 :: f 31 :: f 32 :: f 33 :: f 34 :: f 35 :: f 36 :: f 37 :: f 38 :: f 39 :: []), defers := [] } w := by
  unfold S5
  go_wp2_with fail
  refine hcall.mono ?_
  rintro e w' ⟨x0, x1, A3, l3, k3, rfl, hp, T, hT⟩
  have k0 := hcell_of (j := 0) hT rfl
  have k1 := hcell_of (j := 1) hT rfl
  have k2 := hcell_of (j := 2) hT rfl
  have f0 := frozen_of_row w' _ 0 _ _ hT
  have f1 := frozen_of_row w' _ 1 _ _ hT
  have f2 := frozen_of_row w' _ 2 _ _ hT
  have q1 := heap_setCell_same w' c2 0 _ T (.int .i64 x0) hT
  have q2 := heap_setCell_same _ c2 1 _ T (.int .i64 x1) q1
  have q3 := heap_setCell_same _ c2 2 _ T (.slice A3 l3 k3) q2
  have y0 := hcell_of (j := 0) q3 rfl
  have y1 := hcell_of (j := 1) q3 rfl
  have y2 := hcell_of (j := 2) q3 rfl
  clear h50 h51 h52 hcall q1 q2 q3 hT
  go_wp2
  refine hQ _ _ _ _ _ _ hp _ rfl ?_
  simp [results, Try.results30, go_sem, y0, y1, y2]
set_option maxRecDepth 100000 in
theorem s5_at {m : Array Value} {c2 c5 : Nat} {e0 e1 : Int} {A : Option Addr} {l c : Nat} {w : World} {post : Int → Int → Option Addr → Nat → Nat → World → Prop} (h50 : w.cell? ⟨c5, 0, none⟩ = some (.int .i64 e0)) (h51 : w.cell? ⟨c5, 1, none⟩ = some (.int .i64 e1)) (h52 : w.cell? ⟨c5, 2, none⟩ = some (.slice A l c)) (hcall : Calls Try.prog 56 #[(m.getD 0 undef), .agg #[.int .i64 e0, .int .i64 e1, .slice A l c]] w fun e w' => ∃ x0 x1 A3 l3 k3, e = .returned (.agg #[.int .i64 x0, .int .i64 x1, .slice A3 l3 k3]) ∧ post x0 x1 A3 l3 k3 w' ∧ (∃ T, w'.heap[c2]? = some (.cells #[.int .i64 0, .int .i64 0, .slice none 0 0] T (0, 0)))) (hs : m.size = 40) (m2 : m.getD 2 undef = .pointer (some ⟨c2, 0, none⟩)) (m5 : m.getD 5 undef = .pointer (some ⟨c5, 0, none⟩)) (Q : Exit → Act → World → Prop) (hQ : ∀ x0 x1 A3 l3 k3 (w' : World), post x0 x1 A3 l3 k3 w' → ∀ a' : Act, a'.defers = [] → (results Try.f30 a'.tmps).run Try.prog (((w'.setCell ⟨c2, 0, none⟩ (.int .i64 x0)).setCell ⟨c2, 1, none⟩ (.int .i64 x1)).setCell ⟨c2, 2, none⟩ (.slice A3 l3 k3)) = .ok (.agg #[.int .i64 x0, .int .i64 x1, .slice A3 l3 k3]) (((w'.setCell ⟨c2, 0, none⟩ (.int .i64 x0)).setCell ⟨c2, 1, none⟩ (.int .i64 x1)).setCell ⟨c2, 2, none⟩ (.slice A3 l3 k3)) → Q .ret a' (((w'.setCell ⟨c2, 0, none⟩ (.int .i64 x0)).setCell ⟨c2, 1, none⟩ (.int .i64 x1)).setCell ⟨c2, 2, none⟩ (.slice A3 l3 k3))) : (Code.seq S5 .ret).wp Try.prog Q { tmps := m, defers := [] } w := by
  have e := se_lit hs
  rw [m2, m5] at e
  rw [e]
  exact s5_wp (f := fun i => m.getD i undef) h50 h51 h52 hcall Q hQ
end Go.Proofs.Ytbodfaghedolbaa
namespace Go.Proofs.Ytbodfaghedolbaa
open Go Go.RowKit
theorem t_seRest {ns : List Nat} {o n : Int} {kids : List (List AC)} (hf : Fit .expr [.int o, .int n, .sl 3 kids]) (hs : 1 + kids.length + rsS kids ≤ 900) {p x : Nat} (hx : x < 8) (hx0 : x ≠ 0) (h1 : spec_reader_pick (Qr ns p) [.cell (.int 8)] = some (.v (.cell (.int (x : Int))), Qr ns (p + 1))) :
    EG ns p 1 3000 (evT Y_seR 100000 (.run (dropS 3 (cOf Try.f30))) [] [(0, .und), (2, .box [.int 0, .int 0, .sl 3 []]), (5, .box [.int o, .int n, .sl 3 kids])] (Qr ns p)) := by
  have hid : EG ns p 1 3000 (some (.v (.agg [.int o, .int n, .sl 3 kids]), Qr ns (p + 1))) := ⟨_, _, _, _, rfl, by omega, hf, by omega⟩
  have hcS : cS [AC.int o, .int n, .sl 3 kids] = kids.length + rsS kids := cS_ex _ _ _
  have h2 := rsS_nil
  rcases (by omega : x = 1 ∨ x = 2 ∨ x = 3 ∨ x = 4 ∨ x = 5 ∨ x = 6 ∨ x = 7) with rfl | rfl | rfl | rfl | rfl | rfl | rfl
  · refine ⟨_, _, _, _, seR_ev (callTI h1 (bifF rfl (bifT rfl (callExpr (s_node _ _ _) rfl)))), by omega, fit_node (by omega) (by omega) (by simp) (fit2 hf hf), ?_⟩
    rw [rsS_cons, rsS_cons, hcS, h2]
    simp only [List.length_cons, List.length_nil]
    omega
  · have hf2 : Fit .expr [.int 1, .int 0, .sl 3 [[.int o, .int n, .sl 3 kids], [.int o, .int n, .sl 3 kids]]] := fit_node (by omega) (by omega) (by simp) (fit2 hf hf)
    refine ⟨_, _, _, _, seR_ev (callTI h1 (bifF rfl (bifF rfl (bifT rfl (callExpr (s_node _ _ _) (callExpr (s_node _ _ _) rfl)))))), by omega, fit_node (by omega) (by omega) (by simp) (fit2 hf hf2), ?_⟩
    rw [rsS_cons, rsS_cons, hcS, h2, cS_ex, rsS_cons, rsS_cons, hcS, h2]
    simp only [List.length_cons, List.length_nil]
    omega
  all_goals
    exact ⟨_, _, _, _, seR_ev (callTI h1 (bifF rfl (bifF rfl (bifF rfl rfl)))), by omega, hf, by omega⟩
section
variable {ns : List Nat} (hns : ns.length ≤ 2000)
include hns
set_option maxHeartbeats 4000000 in
theorem someExpr_any {w0 : World} {p0 : Stb} {b : Nat} {pos : Nat} (hpos : pos + 102000 ≤ 800000) (hz : Zp p0 w0) (ht : TK p0 w0 (fun _ => False) b (Qr ns pos)) : Calls Try.prog 30 #[ptrB b] w0 fun e w' => ∃ v p' o n kids pos', e = .returned v ∧ RepS p' w' v (.agg [.int o, .int n, .sl 3 kids]) ∧ Fit .expr [.int o, .int n, .sl 3 kids] ∧ 1 + kids.length + rsS kids ≤ 3000 ∧
    Evo (· = b) p0 w0 p' w' ∧ Zp p' w' ∧ TK p' w' (fun _ => False) b (Qr ns pos') ∧ pos' ≤ pos + 60000 := by
  have hb := ht.lt
  refine calls_of_wp Try.func30 (c := cOf Try.f30) (by kernel_rfl) ?_
  rw [body_se]
  have hs0 : (#[ptrB b] ++ Array.replicate (Try.f30.ntmps - (#[ptrB b] : Array Value).size) undef).size = 40 := by simp [Try.ntmps30]
  have h0 : (#[ptrB b] ++ Array.replicate (Try.f30.ntmps - (#[ptrB b] : Array Value).size) undef).getD 0 undef = ptrB b := by simp [Array.getD]
  generalize (#[ptrB b] ++ Array.replicate (Try.f30.ntmps - (#[ptrB b] : Array Value).size) undef) = m0 at hs0 h0
  -- the result's box
  refine wp_seq (s0_at hs0 _ fun a1 hd1 hs1 h10 h12 => ?_)
  obtain ⟨m1, dd⟩ := a1
  have hd1 : dd = [] := hd1
  subst hd1
  have hs1 : m1.size = 40 := hs1
  have h10 : m1.getD 0 undef = m0.getD 0 undef := h10
  rw [h0] at h10
  have h12 : m1.getD 2 undef = .pointer (some ⟨w0.heap.size, 0, none⟩) := h12
  have hev1 := evo_alloc (p := p0) (w := w0) (.cells #[.int .i64 0, .int .i64 0, .slice none 0 0] 32) 0 (· = b)
  have hx1 := heap_alloc_new w0 (.cells #[.int .i64 0, .int .i64 0, .slice none 0 0] 32)
  have hp1 : (upP p0 w0.heap.size 0).f w0.heap.size = 0 := by rw [upP_f, if_pos rfl]
  have hz1 : Zp (upP p0 w0.heap.size 0) (w0.alloc (.cells #[.int .i64 0, .int .i64 0, .slice none 0 0] 32)) := ⟨fun c hc => by
    rw [upP_f]
    split
    · rfl
    · exact hz.1 c (by simp at hc; omega), fun _ _ _ => trivial⟩
  have ht1 : TK (upP p0 w0.heap.size 0) (w0.alloc (.cells #[.int .i64 0, .int .i64 0, .slice none 0 0] 32)) (fun _ => False) b (Qr ns pos) := ht.evo (evo_alloc _ 0 _)
  have hsz1 : (w0.alloc (.cells #[.int .i64 0, .int .i64 0, .slice none 0 0] 32)).heap.size = w0.heap.size + 1 := by simp
  generalize w0.alloc (.cells #[.int .i64 0, .int .i64 0, .slice none 0 0] 32) = w1 at *
  generalize upP p0 w0.heap.size 0 = p1 at *
  have hlt1 : w0.heap.size < w1.heap.size := by omega
  have hnb : w0.heap.size ≠ b := by omega
  show Code.wp _ (.seq S1 (.seq S2 (dropS 3 (cOf Try.f30)))) _ ⟨m1, []⟩ w1
  -- the program
  refine wp_seq (s1_at (post := fun D1 d1 d2 E1 e1 e2 x w' => ∃ p' R pos', GR R ∧ x < R.length ∧ (∀ y ∈ R, BodyOk y) ∧ Rep p' w' (.slice E1 e1 e2) (.sl 5 (pmsC R)) ∧ Evo (· = b) p1 w1 p' w' ∧ Zp p' w' ∧ TK p' w' (fun _ => False) b (Qr ns pos') ∧ pos' ≤ pos + 54000) ?_ hs1 _ ?_)
  · rw [h10]
    refine (someBody_any hns hpos hz1 ht1).mono ?_
    rintro e w' ⟨v, p', D, R, pos', x, rfl, _, hGR, hx, hbd, hrep, hev, hz', ht', hp'⟩
    obtain ⟨arr, rfl, hl⟩ := hrep
    obtain ⟨l⟩ := arr
    match l, hl with
    | [u0, u1], ⟨r0, r1, _⟩ =>
    obtain ⟨D1, d1, d2, rfl⟩ := rep_slice r0
    obtain ⟨E1, e1, e2, rfl⟩ := rep_slice r1
    exact ⟨_, _, _, _, _, _, _, rfl, p', R, pos', hGR, hx, hbd, r1, hev, hz', ht', hp'⟩
  rintro D1 d1 d2 E1 e1 e2 x w2 ⟨p2, R, pos2, hGR, hx, hbd, hR, hev2, hz2, ht2, hpos2⟩ a2 hd2 hs2 h20 h22 h23 h24
  obtain ⟨m2, dd⟩ := a2
  have hd2 : dd = [] := hd2
  subst hd2
  have hs2 : m2.size = 40 := hs2
  have h20 : m2.getD 0 undef = ptrB b := h20.trans h10
  have h22 : m2.getD 2 undef = .pointer (some ⟨w0.heap.size, 0, none⟩) := h22.trans h12
  have h23 : m2.getD 3 undef = .pointer (some ⟨w2.heap.size, 0, none⟩) := h23
  have h24 : m2.getD 4 undef = .int .i64 (x : Int) := h24
  have hx2 := (hev2.block _ hlt1 hnb).trans hx1
  have hp2 := (hev2.same _ hlt1 hnb).trans hp1
  have hev3 := evo_alloc (p := p2) (w := w2) (.cells #[.slice D1 d1 d2, .slice E1 e1 e2] 26) 0 (· = b)
  have hx3 := heap_alloc_new w2 (.cells #[.slice D1 d1 d2, .slice E1 e1 e2] 26)
  have hlt2 : w0.heap.size < w2.heap.size := get_lt hx2
  have hb2 : b < w2.heap.size := ht2.lt
  have hz3 : Zp (upP p2 w2.heap.size 0) (w2.alloc (.cells #[.slice D1 d1 d2, .slice E1 e1 e2] 26)) := ⟨fun c hc => by
    rw [upP_f]
    split
    · rfl
    · exact hz2.1 c (by simp at hc; omega), fun _ _ _ => trivial⟩
  have ht3 : TK (upP p2 w2.heap.size 0) (w2.alloc (.cells #[.slice D1 d1 d2, .slice E1 e1 e2] 26)) (fun _ => False) b (Qr ns pos2) := ht2.evo (evo_alloc _ 0 _)
  have hR3 := hR.evo hev3
  have hx23 := (hev3.block _ hlt2 hnb).trans hx2
  have hp3 := (hev3.same _ hlt2 hnb).trans hp2
  have hev13 := (hev1.trans hev2 (C := (· = b)) (fun _ _ e => e) (fun _ _ e => e)).trans hev3 (C := (· = b)) (fun _ _ e => e) (fun _ _ e => e)
  generalize w2.alloc (.cells #[.slice D1 d1 d2, .slice E1 e1 e2] 26) = w3 at *
  generalize upP p2 w2.heap.size 0 = p3 at *
  clear hev1 hev2 hev3 hz1 ht1 hx1 hp1 hz2 ht2 hp2 hx2 hR hz ht
  -- the body
  have hpl : (pmsC R).length = R.length := by simp [pmsC]
  have hne : pmsC R ≠ [] := fun e => by rw [e] at hpl; simp at hpl; omega
  obtain ⟨B, o, rfl⟩ := rep_some hR3 hne
  have hel := rep_len hR3
  rw [hpl] at hel
  subst hel
  obtain ⟨_, _, _, _, _, _, _, f, hcc, hrr⟩ := rep_inv hR3 hne
  have hgx : (pmsC R).getD x [] = pmC R[x] := by simp [pmsC, List.getD, hx]
  have hok := hbd _ (List.getElem_mem hx)
  obtain ⟨hfe, hse⟩ := hok
  generalize R[x] = X at *
  have hget : ∀ (j : Nat) (c : AC), (pmC X)[j]? = some c → w3.cell? ⟨B, o + x * 5 + j, none⟩ = some (f x j) ∧ Rep p3 w3 (f x j) c := fun j c h => ⟨hcc x j c (by rw [hgx]; exact h), hrr x j c (by rw [hgx]; exact h)⟩
  obtain ⟨b2, r2⟩ := hget 2 _ rfl
  obtain ⟨b3, r3⟩ := hget 3 _ rfl
  obtain ⟨b4, r4⟩ := hget 4 _ rfl
  have q2 : f x 2 = .int .i64 X.o := by
    generalize f x 2 = v at r2
    cases r2
    rfl
  have q3 : f x 3 = .int .i64 X.n := by
    generalize f x 3 = v at r3
    cases r3
    rfl
  obtain ⟨A, l, c, q4⟩ := rep_slice r4
  rw [q2] at b2
  rw [q3] at b3
  rw [q4] at b4 r4
  have hRl : R.length ≤ 1048576 := by have := hGR.1; omega
  show Code.wp _ (.seq S2 (dropS 3 (cOf Try.f30))) _ ⟨m2, []⟩ w3
  refine wp_seq (s2_at hx hRl (hcell_of hx3 rfl) b2 b3 b4 hs2 h23 h24 _ fun a3 hd3 hs3 h30 h32 h35 => ?_)
  obtain ⟨m3, dd⟩ := a3
  have hd3 : dd = [] := hd3
  subst hd3
  have hs3 : m3.size = 40 := hs3
  have h30 : m3.getD 0 undef = ptrB b := h30.trans h20
  have h32 : m3.getD 2 undef = .pointer (some ⟨w0.heap.size, 0, none⟩) := h32.trans h22
  have h35 : m3.getD 5 undef = .pointer (some ⟨w3.heap.size, 0, none⟩) := h35
  have hev4 := evo_alloc (p := p3) (w := w3) (.cells #[.int .i64 X.o, .int .i64 X.n, .slice A l c] 32) 0 (· = b)
  have hx5 := heap_alloc_new w3 (.cells #[.int .i64 X.o, .int .i64 X.n, .slice A l c] 32)
  have hlt3 : w0.heap.size < w3.heap.size := get_lt hx23
  have hb3 : b < w3.heap.size := ht3.lt
  have hz4 : Zp (upP p3 w3.heap.size 0) (w3.alloc (.cells #[.int .i64 X.o, .int .i64 X.n, .slice A l c] 32)) := ⟨fun c hc => by
    rw [upP_f]
    split
    · rfl
    · exact hz3.1 c (by simp at hc; omega), fun _ _ _ => trivial⟩
  have ht4 : TK (upP p3 w3.heap.size 0) (w3.alloc (.cells #[.int .i64 X.o, .int .i64 X.n, .slice A l c] 32)) (fun _ => False) b (Qr ns pos2) := ht3.evo (evo_alloc _ 0 _)
  have hr4 := r4.evo hev4
  have hx24 := (hev4.block _ hlt3 hnb).trans hx23
  have hp24 := (hev4.same _ hlt3 hnb).trans hp3
  have hp5 : (upP p3 w3.heap.size 0).f w3.heap.size = 0 := by rw [upP_f, if_pos rfl]
  have hev := hev13.trans hev4 (C := (· = b)) (fun _ _ e => e) (fun _ _ e => e)
  have h5lt : w3.heap.size < (w3.alloc (.cells #[.int .i64 X.o, .int .i64 X.n, .slice A l c] 32)).heap.size := by simp
  have hg3 : w0.heap.size ≤ w3.heap.size := by omega
  have hn3b : w3.heap.size ≠ b := by omega
  have hn35 : w0.heap.size ≠ w3.heap.size := by omega
  show Code.wp _ (dropS 3 (cOf Try.f30)) _ ⟨m3, []⟩ (w3.alloc (.cells #[.int .i64 X.o, .int .i64 X.n, .slice A l c] 32))
  generalize w3.alloc (.cells #[.int .i64 X.o, .int .i64 X.n, .slice A l c] 32) = w4 at *
  generalize upP p3 w3.heap.size 0 = p4 at *
  generalize w3.heap.size = c5 at *
  generalize hc2 : w0.heap.size = c2 at *
  clear hev13 hev4 hcc hrr hget r2 r3 r4 b2 b3 b4 hR3 hgx hz3 ht3 hx23 hp3 hx3 q2 q3 q4 hbd hne h20 h22 h23 h24 h10 h12 hs1 hs2 h0 hs0
  have hlt2 : c2 < w4.heap.size := get_lt hx24
  obtain ⟨x, hx, hpick⟩ := t_pick hns (p := pos2) (by omega) (m := 8) (by omega)
  by_cases hx0 : x = 0
  · subst hx0
    rw [rest_se]
    refine wp_seq (wp_seq (s3_at (post := fun y w' => y = 0 ∧ ∃ p', Evo (· = b) p4 w4 p' w' ∧ Zp p' w' ∧ TK p' w' (fun _ => False) b (Qr ns (pos2 + 1))) ?_ hs3 _ ?_))
    · rw [h30]
      refine (((tok 55 (by kernel_rfl)).2 (Qr ns pos2) [.cell (.int 8)] _ hpick).2 p4 w4 b [.int .i64 8] ⟨.int _, trivial⟩ hz4 ht4).mono ?_
      rintro e w' ⟨v, rfl, p', hsr, _, _, hev', hz', ht', _⟩
      have hsr : Rep p' w' v (.int ((0 : Nat) : Int)) := hsr
      cases hsr
      exact ⟨0, rfl, rfl, p', hev', hz', ht'⟩
    rintro y w5 ⟨rfl, p5, hev5, hz5, ht5⟩ a4 hd4 hs4 h40 h42 h45 h418
    obtain ⟨m4, dd⟩ := a4
    have hd4 : dd = [] := hd4
    subst hd4
    have h40 : m4.getD 0 undef = ptrB b := h40.trans h30
    have h42 : m4.getD 2 undef = .pointer (some ⟨c2, 0, none⟩) := h42.trans h32
    have h45 : m4.getD 5 undef = .pointer (some ⟨c5, 0, none⟩) := h45.trans h35
    refine wp_block ?_
    refine wp_seq (s4_at hs4 h418 _ fun a5 hd5 hs5 h50 h52 h55 h519 => ?_)
    obtain ⟨m5, dd⟩ := a5
    have hd5 : dd = [] := hd5
    subst hd5
    have h50 : m5.getD 0 undef = ptrB b := h50.trans h40
    have h52 : m5.getD 2 undef = .pointer (some ⟨c2, 0, none⟩) := h52.trans h42
    have h55 : m5.getD 5 undef = .pointer (some ⟨c5, 0, none⟩) := h55.trans h45
    refine wp_cond (t := true) h519 ?_
    simp only [if_true]
    have hx55 := (hev5.block _ h5lt hn3b).trans hx5
    have hx25 := (hev5.block _ hlt2 hnb).trans hx24
    have hp25 := (hev5.same _ hlt2 hnb).trans hp24
    have hlt25 : c2 < w5.heap.size := get_lt hx25
    have hbend := bend_any hns 900 (by omega) (e0 := X.o) (e1 := X.n) hfe hse (pos := pos2 + 1) (by omega) hz5 ht5 (hr4.evo hev5)
    refine s5_at (c2 := c2) (c5 := c5) (post := fun x0 x1 A3 l3 k3 w' => ∃ p' kids pos', Rep p' w' (.slice A3 l3 k3) (.sl 3 kids) ∧ Fit .expr [.int x0, .int x1, .sl 3 kids] ∧ 1 + kids.length + rsS kids ≤ 901 ∧ Evo (· = b) p5 w5 p' w' ∧ Zp p' w' ∧ TK p' w' (fun _ => False) b (Qr ns pos') ∧ pos' ≤ pos2 + 1 + 4 * 900) (hcell_of hx55 rfl) (hcell_of hx55 rfl) (hcell_of hx55 rfl) ?_ hs5 h52 h55 _ ?_
    · rw [h50]
      refine hbend.mono ?_
      rintro e w' ⟨v, p', o1, n1, kids1, pos', rfl, hsr, hf1, hs1, hev1, hz1, ht1, hp1⟩
      obtain ⟨arr, rfl, hla⟩ : ∃ arr, v = .agg arr ∧ RepL p' w' arr.toList [.int o1, .int n1, .sl 3 kids1] := hsr
      obtain ⟨ls⟩ := arr
      match ls, hla with
      | [x0, x1, x2], ⟨t0, t1, t2, _⟩ =>
      cases t0
      cases t1
      obtain ⟨A3, l3, k3, rfl⟩ := rep_slice t2
      exact ⟨_, _, _, _, _, rfl, ⟨p', kids1, pos', t2, hf1, hs1, hev1, hz1, ht1, hp1⟩, _, (hev1.block _ hlt25 hnb).trans hx25⟩
    rintro x0 x1 A3 l3 k3 w6 ⟨p6, kids6, pos6, hr6, hf6, hs6, hev6, hz6, ht6, hp6⟩ a6 hd6 hres
    have hp26 := (hev6.same _ hlt25 hnb).trans hp25
    have hevc : Evo (· = c2) p6 w6 p6 (put3 w6 c2 0 (.int .i64 x0) (.int .i64 x1) (.slice A3 l3 k3)) := put3_evo p6 hp26
    have hE := (((hev.trans hev5 (C := (· = b)) (fun _ _ e => e) (fun _ _ e => e)).trans hev6 (C := (· = b)) (fun _ _ e => e) (fun _ _ e => e)).trans hevc (C := (· = b)) (fun _ _ e => e) (fun q hq e => absurd hq (by have : q = c2 := e; omega)))
    refine ⟨hd6, _, hres, _, p6, x0, x1, kids6, pos6, rfl, ⟨_, rfl, .int _, .int _, hr6.evo hevc, trivial⟩, hf6, by omega, hE, ⟨fun y hy => hz6.1 y (Nat.le_trans hevc.size hy), fun _ _ _ => trivial⟩, ((ht6.own (Own' := (· = c2)) (fun e => hnb e.symm)).evo hevc).own (fun h => h), by omega⟩
  · obtain ⟨o', n', kids', pos', hevt, hp', hf', hs'⟩ := t_seRest hfe hse hx hx0 hpick
    obtain ⟨O, hO⟩ := Option.isSome_iff_exists.1 seR_st
    have hK : Known p4 w4 m3 40 [(2, .box [.int 0, .int 0, .sl 3 []]), (5, .box [.int X.o, .int X.n, .sl 3 X.kids])] (fun x => w0.heap.size ≤ x) := by
      have look : ∀ t x, List.lookup t [(2, AV.box [.int 0, .int 0, .sl 3 []]), (5, AV.box [.int X.o, .int X.n, .sl 3 X.kids])] = some x → (t = 2 ∧ x = .box [.int 0, .int 0, .sl 3 []]) ∨ (t = 5 ∧ x = .box [.int X.o, .int X.n, .sl 3 X.kids]) := fun t x hx => by
        simp only [List.lookup_cons] at hx
        by_cases h3 : t = 2
        · subst h3; simp at hx; exact .inl ⟨rfl, hx.symm⟩
        · by_cases h4 : t = 5
          · subst h4; simp at hx; exact .inr ⟨rfl, hx.symm⟩
          · rw [show (t == 2) = false by simpa using h3, show (t == 5) = false by simpa using h4] at hx
            simp at hx
      refine ⟨fun t x hx => ?_, fun t x hx => ?_, fun t t' cs cs' x ht h1 h2 h3 h4 => ?_⟩
      · rcases look t x hx with ⟨rfl, rfl⟩ | ⟨rfl, rfl⟩
        · exact ⟨by omega, c2, _, _, h32, hx24, .int _, .int _, .nil _ _, trivial⟩
        · exact ⟨by omega, c5, _, _, h35, hx5, .int _, .int _, hr4, trivial⟩
      · rcases look t x hx with ⟨rfl, rfl⟩ | ⟨rfl, rfl⟩
        · exact .inr ⟨_, c2, rfl, h32, hp24, Nat.le_of_eq hc2⟩
        · exact .inr ⟨_, c5, rfl, h35, hp5, by omega⟩
      · rcases look _ _ h1 with ⟨rfl, _⟩ | ⟨rfl, _⟩ <;> rcases look _ _ h2 with ⟨rfl, _⟩ | ⟨rfl, _⟩
        · exact ht rfl
        · rw [h32] at h3; rw [h35] at h4; cases h3; cases h4; exact hn35 rfl
        · rw [h35] at h3; rw [h32] at h4; cases h3; cases h4; exact hn35 rfl
        · exact ht rfl
    have hI := inv_known (q := Qr ns pos2) hs3 hK hz4 (fun x hx => Nat.le_trans hev.size hx) h30 (ht4.own (Own' := fun x => w0.heap.size ≤ x) (by omega))
    refine wp_bodyPost_mono (rest_ok (Y := Y_seR) (a := { tmps := m3, defers := [] }) orders_ok lay_ok vok tab_ok hevt (knownL_len _ _ _) (known_ag (n := 40) h30 (by omega) (fun t x hx => (hK.lt t x hx).1) rfl) hO hI rfl hev) ?_
    rintro e w' ⟨v, rfl, p', hsr, _, _, hev', hz', ht'⟩
    exact ⟨v, p', o', n', kids', pos', rfl, hsr, hf', hs', hev', hz', ht', by omega⟩
end
end Go.Proofs.Ytbodfaghedolbaa

/- What this law needs beside: its draw, its rest over values, its models. -/
import Derived.Test.YtgbeongiejppnaaS42
import Derived.WalkKit
set_option linter.unusedVariables false
set_option linter.unusedSimpArgs false
set_option maxRecDepth 100000
namespace Go.Proofs.Ytgbeongiejppnaa
open Go Go.RowKit
noncomputable def X_laws_FnNodesOfTwo : Ctx := { P := Try.prog, L := lay, F := sig.has, E := ext, fn := Try.f6, lv := [], jv := [], tp := [] }
theorem laws_FnNodesOfTwo_rest {n1 : Int} {n2 : Int} {l3 : List (List AC)} {r : AV} (h : ( callR (impl_NodesOf [.agg [.int n1, .int n2, .sl 3 l3]]) false [(false, [.int 0])] fun n4 => callR (spec_NodesOf [.agg [.int n1, .int n2, .sl 3 l3]]) false [(false, [.int 0])] fun n5 => bif (n4 != n5) then callR (spec_NodesOf [.agg [.int n1, .int n2, .sl 3 l3]]) false [(false, [.int 0])] fun n6 => some (.v (.cell (.bool (n4 == n6)))) else bif (decide (n4 < 0)) then callR (spec_NodesOf [.agg [.int n1, .int n2, .sl 3 l3]]) false [(false, [.int 0])] fun n7 => some (.v (.cell (.bool (n4 == n7)))) else callR (laws_node [.cell (.int 1), .cell (.sl 3 [[.int n1, .int n2, .sl 3 l3], [.int n1, .int n2, .sl 3 l3]])]) false [(true, [.int 0, .int 0, .sl 3 []])] fun n8 n9 l10 => callR (impl_NodesOf [.agg [.int n8, .int n9, .sl 3 l10]]) false [(false, [.int 0])] fun n11 => bif (decide ((wrapI ((wrapI (2 * n4)) + 1)) > 30)) then some (.v (.cell (.bool (n11 == (-1))))) else some (.v (.cell (.bool (n11 == (wrapI ((wrapI (2 * n4)) + 1)))))) : Option AV) = some r) : evM X_laws_FnNodesOfTwo 100000 (.run (dropS 3 (cOf Try.f6))) [] [(3, .box [.int n1, .int n2, .sl 3 l3])] = some r := Eq.trans (by kernel_rfl) h
theorem laws_FnNodesOfTwo_st : (tcode drawn lay sig (dropS 3 (cOf Try.f6)) (stM 41)).isSome = true := by kernel_rfl
def FnNodesOfTwoR0 : Code := Go.Code.region 0 #[{ dst := some 2, op := Go.Op.assign (Go.Operand.const (Go.Value.bool false)), type := 4, pos := "laws.go:543", after := #[], guard := none }] false
def FnNodesOfTwoR1 : Code := Go.Code.region 1 #[{ dst := some 6, op := Go.Op.move (Go.Operand.tmp 0), type := 22, pos := "laws.go:544", after := #[], guard := none }, { dst := some 7, op := Go.Op.call { callee := Go.Callee.builtin Go.Builtin.len, args := #[Go.Operand.tmp 6], argTypes := #[22] }, type := 3, pos := "laws.go:544", after := #[{ on := 0, ground := Go.Ground.data }], guard := none }, { dst := some 8, op := Go.Op.binOp Go.BinOp.gtr 3 (Go.Operand.tmp 7) (Go.Operand.const (Go.Value.int Go.IntKind.i64 1048576)) 3, type := 4, pos := "laws.go:544", after := #[{ on := 1, ground := Go.Ground.data }], guard := none }] false
def FnNodesOfTwoR2 : Code := Go.Code.region 2 #[{ dst := some 2, op := Go.Op.assign (Go.Operand.const (Go.Value.bool true)), type := 4, pos := "laws.go:545", after := #[], guard := none }] false
def FnNodesOfTwoR3 : Code := Go.Code.region 3 #[{ dst := some 9, op := Go.Op.move (Go.Operand.tmp 0), type := 22, pos := "laws.go:547", after := #[], guard := none }, { dst := some 10, op := Go.Op.call { callee := Go.Callee.value (Go.Operand.func 22), args := #[Go.Operand.tmp 9], argTypes := #[22] }, type := 38, pos := "laws.go:547", after := #[{ on := 0, ground := Go.Ground.data }], guard := none }, { dst := some 3, op := Go.Op.alloc 38, type := 0, pos := "laws.go:547", after := #[], guard := none }, { dst := none, op := Go.Op.store 38 (Go.Operand.tmp 3) (Go.Operand.tmp 10), type := 0, pos := "laws.go:547", after := #[{ on := 2, ground := Go.Ground.data }, { on := 1, ground := Go.Ground.data }, { on := 1, ground := Go.Ground.chain }, { on := 0, ground := Go.Ground.phase }, { on := 1, ground := Go.Ground.phase }, { on := 2, ground := Go.Ground.phase }], guard := none }] false
theorem fnNodesOfTwo_body : cOf Try.f6 = .seq FnNodesOfTwoR0 (.seq (.seq FnNodesOfTwoR1 (.cond (.tmp 8) (.seq FnNodesOfTwoR2 .ret) .skip)) (.seq FnNodesOfTwoR3 (dropS 3 (cOf Try.f6)))) := by kernel_rfl
theorem fnNodesOfTwo_lit {m : Array Value} (h : m.size = 41) : m = List.toArray (m.getD 0 undef :: m.getD 1 undef :: m.getD 2 undef :: m.getD 3 undef :: m.getD 4 undef :: m.getD 5 undef :: m.getD 6 undef :: m.getD 7 undef :: m.getD 8 undef :: m.getD 9 undef :: m.getD 10 undef :: m.getD 11 undef :: m.getD 12 undef :: m.getD 13 undef :: m.getD 14 undef :: m.getD 15 undef :: m.getD 16 undef :: m.getD 17 undef :: m.getD 18 undef :: m.getD 19 undef :: m.getD 20 undef :: m.getD 21 undef :: m.getD 22 undef :: m.getD 23 undef :: m.getD 24 undef :: m.getD 25 undef :: m.getD 26 undef :: m.getD 27 undef :: m.getD 28 undef :: m.getD 29 undef :: m.getD 30 undef :: m.getD 31 undef :: m.getD 32 undef :: m.getD 33 undef :: m.getD 34 undef :: m.getD 35 undef :: m.getD 36 undef :: m.getD 37 undef :: m.getD 38 undef :: m.getD 39 undef :: m.getD 40 undef :: []) := by
  apply Array.ext'
  have h1 : m.toList = (List.range 41).map (fun i => m.getD i undef) := by
    apply List.ext_getElem
    · simp [h]
    · intro i h1 h2
      simp only [Array.length_toList] at h1
      simp [Array.getD, h1]
  exact h1.trans rfl
set_option maxHeartbeats 4000000 in
theorem fnNodesOfTwo0_wp {f : Nat → Value} {A : Option Addr} {n c : Nat} {w : World}  (Q : Exit → Act → World → Prop) (hQ : ∀ a' : Act, a'.defers = [] → a'.tmps.size = 41 → a'.tmps.getD 0 undef = .slice A n c → Q .normal a' (w)) :
  FnNodesOfTwoR0.wp Try.prog Q { tmps := List.toArray (.slice A n c :: f 1 :: f 2 :: f 3 :: f 4 :: f 5 :: f 6 :: f 7 :: f 8 :: f 9 :: f 10 :: f 11 :: f 12 :: f 13 :: f 14 :: f 15 :: f 16 :: f 17 :: f 18 :: f 19 :: f 20 :: f 21 :: f 22 :: f 23 :: f 24 :: f 25 :: f 26 :: f 27 :: f 28 :: f 29 :: f 30 :: f 31 :: f 32 :: f 33 :: f 34 :: f 35 :: f 36 :: f 37 :: f 38 :: f 39 :: f 40 :: []), defers := [] } w := by
  unfold FnNodesOfTwoR0
  go_wp2
  exact hQ _ rfl rfl rfl
theorem fnNodesOfTwo0_at {m : Array Value} {A : Option Addr} {n c : Nat} {w : World}  (hs : m.size = 41) (m0 : m.getD 0 undef = .slice A n c) (Q : Exit → Act → World → Prop) (hQ : ∀ a' : Act, a'.defers = [] → a'.tmps.size = 41 → a'.tmps.getD 0 undef = .slice A n c → Q .normal a' (w)) :
  FnNodesOfTwoR0.wp Try.prog Q { tmps := m, defers := [] } w := by
  have e := fnNodesOfTwo_lit hs
  rw [m0] at e
  rw [e]
  exact fnNodesOfTwo0_wp (f := fun i => m.getD i undef)  Q hQ
set_option maxHeartbeats 4000000 in
theorem fnNodesOfTwo1_wp {f : Nat → Value} {A : Option Addr} {n c : Nat} {w : World} (hn : ¬ (1048576 : Int) < (n : Int)) (Q : Exit → Act → World → Prop) (hQ : ∀ a' : Act, a'.defers = [] → a'.tmps.size = 41 → a'.tmps.getD 0 undef = .slice A n c → a'.tmps.getD 8 undef = .bool false → Q .normal a' (w)) :
  FnNodesOfTwoR1.wp Try.prog Q { tmps := List.toArray (.slice A n c :: f 1 :: f 2 :: f 3 :: f 4 :: f 5 :: f 6 :: f 7 :: f 8 :: f 9 :: f 10 :: f 11 :: f 12 :: f 13 :: f 14 :: f 15 :: f 16 :: f 17 :: f 18 :: f 19 :: f 20 :: f 21 :: f 22 :: f 23 :: f 24 :: f 25 :: f 26 :: f 27 :: f 28 :: f 29 :: f 30 :: f 31 :: f 32 :: f 33 :: f 34 :: f 35 :: f 36 :: f 37 :: f 38 :: f 39 :: f 40 :: []), defers := [] } w := by
  unfold FnNodesOfTwoR1
  go_wp2
  exact hQ _ rfl rfl rfl rfl
theorem fnNodesOfTwo1_at {m : Array Value} {A : Option Addr} {n c : Nat} {w : World} (hn : ¬ (1048576 : Int) < (n : Int)) (hs : m.size = 41) (m0 : m.getD 0 undef = .slice A n c) (Q : Exit → Act → World → Prop) (hQ : ∀ a' : Act, a'.defers = [] → a'.tmps.size = 41 → a'.tmps.getD 0 undef = .slice A n c → a'.tmps.getD 8 undef = .bool false → Q .normal a' (w)) :
  FnNodesOfTwoR1.wp Try.prog Q { tmps := m, defers := [] } w := by
  have e := fnNodesOfTwo_lit hs
  rw [m0] at e
  rw [e]
  exact fnNodesOfTwo1_wp (f := fun i => m.getD i undef) hn Q hQ
set_option maxHeartbeats 4000000 in
theorem fnNodesOfTwo3_wp {f : Nat → Value} {A : Option Addr} {n c : Nat} {w : World} {post : Int → Int → Option Addr → Nat → Nat → World → Prop} (hcall : Calls Try.prog 22 #[.slice A n c] w fun e w' => ∃ x0 x1 A3 l3 k3, e = .returned (.agg #[.int .i64 x0, .int .i64 x1, .slice A3 l3 k3]) ∧ post x0 x1 A3 l3 k3 w') (Q : Exit → Act → World → Prop) (hQ : ∀ x0 x1 A3 l3 k3 (w' : World), post x0 x1 A3 l3 k3 w' → ∀ a' : Act, a'.defers = [] → a'.tmps.size = 41 → a'.tmps.getD 0 undef = .slice A n c → a'.tmps.getD 3 undef = .pointer (some ⟨w'.heap.size, 0, none⟩) → Q .normal a' (w'.alloc (.cells #[.int .i64 x0, .int .i64 x1, .slice A3 l3 k3] 38))) :
  FnNodesOfTwoR3.wp Try.prog Q { tmps := List.toArray (.slice A n c :: f 1 :: f 2 :: f 3 :: f 4 :: f 5 :: f 6 :: f 7 :: f 8 :: f 9 :: f 10 :: f 11 :: f 12 :: f 13 :: f 14 :: f 15 :: f 16 :: f 17 :: f 18 :: f 19 :: f 20 :: f 21 :: f 22 :: f 23 :: f 24 :: f 25 :: f 26 :: f 27 :: f 28 :: f 29 :: f 30 :: f 31 :: f 32 :: f 33 :: f 34 :: f 35 :: f 36 :: f 37 :: f 38 :: f 39 :: f 40 :: []), defers := [] } w := by
  unfold FnNodesOfTwoR3
  go_wp2_with fail
  refine hcall.mono ?_
  rintro e w' ⟨x0, x1, A3, l3, k3, rfl, hp⟩
  go_wp2
  exact hQ _ _ _ _ _ _ hp _ rfl rfl rfl rfl
theorem fnNodesOfTwo3_at {m : Array Value} {A : Option Addr} {n c : Nat} {w : World} {post : Int → Int → Option Addr → Nat → Nat → World → Prop} (hcall : Calls Try.prog 22 #[.slice A n c] w fun e w' => ∃ x0 x1 A3 l3 k3, e = .returned (.agg #[.int .i64 x0, .int .i64 x1, .slice A3 l3 k3]) ∧ post x0 x1 A3 l3 k3 w') (hs : m.size = 41) (m0 : m.getD 0 undef = .slice A n c) (Q : Exit → Act → World → Prop) (hQ : ∀ x0 x1 A3 l3 k3 (w' : World), post x0 x1 A3 l3 k3 w' → ∀ a' : Act, a'.defers = [] → a'.tmps.size = 41 → a'.tmps.getD 0 undef = .slice A n c → a'.tmps.getD 3 undef = .pointer (some ⟨w'.heap.size, 0, none⟩) → Q .normal a' (w'.alloc (.cells #[.int .i64 x0, .int .i64 x1, .slice A3 l3 k3] 38))) :
  FnNodesOfTwoR3.wp Try.prog Q { tmps := m, defers := [] } w := by
  have e := fnNodesOfTwo_lit hs
  rw [m0] at e
  rw [e]
  exact fnNodesOfTwo3_wp (f := fun i => m.getD i undef) hcall Q hQ
set_option maxHeartbeats 4000000 in
theorem fnNodesOfTwo_walk_of (hval : ∀ (o n : Int) (kids : List (List AC)), Fit .expr [.int o, .int n, .sl 3 kids] → 1 + kids.length + rsS kids ≤ 3000 → evM X_laws_FnNodesOfTwo 100000 (.run (dropS 3 (cOf Try.f6))) [] [(3, .box [.int o, .int n, .sl 3 kids])] = some (.v (.cell (.bool true))))
    (hdraw : ∀ (A : Option Addr) (n c : Nat) (w : World), Code_ w A n c → Calls Try.prog 22 #[.slice A n c] w fun e w' => ∃ v, e = .returned v ∧ DrawnE w v w')
    (A : Option Addr) (n c : Nat) (w : World) (h : Code_ w A n c) : Calls Try.prog 6 #[.slice A n c] w fun e w' => e = .returned (.bool true) ∧ Below w.heap.size w w' := by
  by_cases hbig : 1048576 < n
  · go_enter Try.func6, Try.ntmps6
    go_wp2_with fail
    go_ret
    exact ⟨rfl, Below.refl _ _⟩
  · refine calls_of_wp Try.func6 (c := cOf Try.f6) (by kernel_rfl) ?_
    rw [fnNodesOfTwo_body]
    have hs0 : (#[Value.slice A n c] ++ Array.replicate (Try.f6.ntmps - (#[.slice A n c] : Array Value).size) undef).size = 41 := by simp [Try.ntmps6]
    have h0 : (#[Value.slice A n c] ++ Array.replicate (Try.f6.ntmps - (#[.slice A n c] : Array Value).size) undef).getD 0 undef = Value.slice A n c := by simp [Array.getD]
    generalize (#[Value.slice A n c] ++ Array.replicate (Try.f6.ntmps - (#[.slice A n c] : Array Value).size) undef) = m0 at hs0 h0
    refine wp_seq (fnNodesOfTwo0_at hs0 h0 _ fun a1 hd1 hs1 h1 => ?_)
    obtain ⟨m1, dd⟩ := a1
    have hd1 : dd = [] := hd1
    subst hd1
    refine wp_seq (wp_seq (fnNodesOfTwo1_at (by omega) hs1 h1 _ fun a2 hd2 hs2 h2 h29 => ?_))
    obtain ⟨m2, dd⟩ := a2
    have hd2 : dd = [] := hd2
    subst hd2
    refine wp_cond (t := false) h29 ?_
    simp only [Bool.false_eq_true, if_false]
    refine wp_skip ?_
    show Code.wp _ (.seq FnNodesOfTwoR3 (dropS 3 (cOf Try.f6))) _ ⟨m2, []⟩ w
    refine wp_seq (fnNodesOfTwo3_at (post := fun x0 x1 A3 l3 k3 w' => DrawnE w (.agg #[.int .i64 x0, .int .i64 x1, .slice A3 l3 k3]) w') ?_ hs2 h2 _ ?_)
    · refine (hdraw A n c w h).mono ?_
      rintro e w' ⟨v, rfl, N, p', o, n', A', l, c', kids, rfl, hd⟩
      exact ⟨_, _, _, _, _, rfl, N, p', o, n', A', l, c', kids, rfl, hd⟩
    rintro x0 x1 A3 l3 k3 w1 ⟨N, p1, o, n', A', l, c', kids, hv, hrep, hf, hs, hev, hz⟩ a3 hd3 hs3 h3 h33
    injection hv with hv
    have hv := congrArg Array.toList hv
    simp only [List.cons.injEq, Value.int.injEq, true_and, and_true] at hv
    obtain ⟨rfl, rfl, hv⟩ := hv
    obtain ⟨m3, dd⟩ := a3
    have hd3 : dd = [] := hd3
    subst hd3
    have hs3 : m3.size = 41 := hs3
    have h33 : m3.getD 3 undef = .pointer (some ⟨w1.heap.size, 0, none⟩) := h33
    skip
    have hea := evo_alloc (p := p1) (w := w1) (.cells #[.int .i64 x0, .int .i64 x1, .slice A3 l3 k3] 38) 0 (fun _ => False)
    have hx := heap_alloc_new w1 (.cells #[.int .i64 x0, .int .i64 x1, .slice A3 l3 k3] 38)
    have hz1 : Zp (upP p1 w1.heap.size 0) (w1.alloc (.cells #[.int .i64 x0, .int .i64 x1, .slice A3 l3 k3] 38)) := ⟨fun c hc => by
      rw [upP_f]
      split
      · rfl
      · exact hz.1 c (by simp at hc; omega), fun _ _ _ => trivial⟩
    have hE := hev.trans hea (C := fun _ => False) (fun _ _ h => h) (fun _ _ h => h)
    have hr1 : Rep (upP p1 w1.heap.size 0) (w1.alloc (.cells #[.int .i64 x0, .int .i64 x1, .slice A3 l3 k3] 38)) (.slice A3 l3 k3) (.sl 3 kids) := by
      obtain ⟨rfl, rfl, rfl⟩ : A3 = A' ∧ l3 = l ∧ k3 = c' := by simpa using hv
      exact hrep.evo hea
    have hK : Known (upP p1 w1.heap.size 0) (w1.alloc (.cells #[.int .i64 x0, .int .i64 x1, .slice A3 l3 k3] 38)) m3 41 [(3, .box [.int x0, .int x1, .sl 3 kids])] (fun x => w.heap.size ≤ x) := by
      have look : ∀ t x, List.lookup t [(3, .box [.int x0, .int x1, .sl 3 kids])] = some x → (t = 3 ∧ x = AV.box [.int x0, .int x1, .sl 3 kids]) ∨ False := fun t x hx => by
        simp only [List.lookup_cons] at hx
        by_cases h3 : t = 3
        · subst h3; simp at hx; exact .inl ⟨rfl, hx.symm⟩
        · rw [show (t == 3) = false by simpa using h3] at hx
          simp at hx
      refine ⟨fun t x hx' => ?_, fun t x hx' => ?_, fun t t' cs cs' x ht h1 h2 h3 h4 => ?_⟩
      · rcases look t x hx' with ⟨rfl, rfl⟩ | h
        · exact ⟨by omega, _, _, _, h33, hx, .int _, .int _, hr1, trivial⟩
        · exact h.elim
      · rcases look t x hx' with ⟨rfl, rfl⟩ | h
        · exact .inr ⟨_, _, rfl, h33, by rw [upP_f, if_pos rfl], hev.size⟩
        · exact h.elim
      · rcases look _ _ h1 with ⟨rfl, _⟩ | h
        · rcases look _ _ h2 with ⟨rfl, _⟩ | h
          · exact ht rfl
          · exact h.elim
        · exact h.elim
    obtain ⟨O, hO⟩ := Option.isSome_iff_exists.1 laws_FnNodesOfTwo_st
    have hI := invN_known hs3 hK hz1 (fun x hx => Nat.le_trans hE.size hx)
    refine wp_bodyPost_mono (restN_ok (X := X_laws_FnNodesOfTwo) (a := { tmps := m3, defers := [] }) orders_ok lay_ok vok (hval x0 x1 kids hf hs) (knownL_len _ _ _) (knownN_ag fun t x hx => (hK.lt t x hx).1) hO hI rfl hE) ?_
    rintro e w' ⟨v, rfl, p', hsr, _, _, hev', hz'⟩
    have hsr : Rep p' w' v (.bool true) := hsr
    cases hsr
    exact ⟨rfl, hev'.os, hev'.tape, hev'.output, hev'.size, fun b hb => hev'.block b hb (fun h => h)⟩
end Go.Proofs.Ytgbeongiejppnaa
namespace Go.Proofs.Ytgbeongiejppnaa
open Go Go.RowKit
theorem val_NodesOfTwo {o n : Int} {kids : List (List AC)} (hf : Fit .expr [.int o, .int n, .sl 3 kids]) (hs : 1 + kids.length + rsS kids ≤ 3000) :
    evM X_laws_FnNodesOfTwo 100000 (.run (dropS 3 (cOf Try.f6))) [] [(3, .box [.int o, .int n, .sl 3 kids])] = some (.v (.cell (.bool true))) := by
  have hS : spec_NodesOf [.agg [.int o, .int n, .sl 3 kids]] = rI (nodV [.int o, .int n, .sl 3 kids]) := spec_NodesOf_le (callI (s_nodesOf hf) rfl)
  have hS2 : ¬ cS [.int o, .int n, .sl 3 kids] ≤ 29 → spec_NodesOf [.agg [.int o, .int n, .sl 3 kids]] = rI (-1) := fun h => by
    rw [hS]
    unfold nodV
    rw [if_neg h]
  have hf2 : Fit .expr [.int 1, .int 0, .sl 3 [[.int o, .int n, .sl 3 kids], [.int o, .int n, .sl 3 kids]]] := fit_node (by omega) (by omega) (by simp) (fit2 hf hf)
  have hT := i_nodesOf hf2
  refine laws_FnNodesOfTwo_rest (callI (i_nodesOf hf) (callI hS (bifF (nef rfl) ?_)))
  have hcS := cS_ex o n kids
  have hc2 : cS [.int 1, .int 0, .sl 3 [[.int o, .int n, .sl 3 kids], [.int o, .int n, .sl 3 kids]]] = 2 + 2 * cS [.int o, .int n, .sl 3 kids] := by
    rw [cS_ex, rsS_cons, rsS_cons, rsS_nil]
    simp only [List.length_cons, List.length_nil]
    omega
  unfold nodV at hT ⊢
  rw [hc2] at hT
  generalize cS [.int o, .int n, .sl 3 kids] = z at *
  by_cases hz : z ≤ 29
  · rw [if_pos hz]
    refine bifF (decide_eq_false (by omega)) (callExpr (laws_node_le rfl) (callI hT ?_))
    have w1 : wrapI (2 * ((1 + z : Nat) : Int)) = 2 * ((1 + z : Nat) : Int) := wr (by omega) (by omega)
    have w2 : wrapI (2 * ((1 + z : Nat) : Int) + 1) = 2 * ((1 + z : Nat) : Int) + 1 := wr (by omega) (by omega)
    rw [w1, w2]
    by_cases h2 : 2 + 2 * z ≤ 29
    · rw [if_pos h2]
      refine bifF (decide_eq_false (by omega)) ?_
      rw [show (((1 + (2 + 2 * z) : Nat) : Int) == 2 * ((1 + z : Nat) : Int) + 1) = true from beq_iff_eq.2 (by omega)]
    · rw [if_neg h2]
      exact bifT (decide_eq_true (by omega)) rfl
  · rw [if_neg hz]
    exact bifT rfl (callI (hS2 hz) rfl)
theorem fnNodesOfTwo_walk (A : Option Addr) (n c : Nat) (w : World) (h : Code_ w A n c) : Calls Try.prog 6 #[.slice A n c] w fun e w' => e = .returned (.bool true) ∧ Below w.heap.size w w' :=
  fnNodesOfTwo_walk_of (fun _ _ _ hf hs => val_NodesOfTwo hf hs) (fun _ _ _ _ h => drawNodesOf_any h) A n c w h
end Go.Proofs.Ytgbeongiejppnaa

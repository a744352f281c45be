/- The seat's types and functions: what is laid, and that every function keeps to its room. MADE BY mkseat.py. -/
import Derived.Test.YtnnalagflpmedaaNz
import Derived.Test.YtnnalagflpmedaaProg
namespace Go.Proofs.Ytnnalagflpmedaa
open Go
def lay : Lay := ⟨[(3, ⟨0, 1, [.int 0], [], 0⟩), (4, ⟨1, 1, [.bool false], [], 0⟩), (22, ⟨2, 1, [.sl 3 []], [], 35⟩), (25, ⟨2, 1, [.sl 3 []], [], 36⟩), (33, ⟨2, 1, [.sl 1 []], [], 3⟩), (35, ⟨3, 3, [.int 0, .int 0, .sl 1 []], [(0, 1), (1, 1), (2, 1)], 0⟩), (36, ⟨3, 3, [.int 0, .int 0, .sl 1 []], [(0, 1), (1, 1), (2, 1)], 0⟩), (49, ⟨2, 1, [.sl 1 []], [], 4⟩)], [(0, 9), (0, 11), (34, 14)], [3, 4, 5, 6, 7, 9, 10, 11, 12, 13, 14, 16, 18, 20, 22, 23, 26, 27, 28, 30, 31, 34, 35, 36, 37, 38, 39, 40]⟩
theorem lay_ok : LayOk Try.prog lay := layChk_ok (by kernel_rfl)
def sig : Sig := [(3, ⟨[], []⟩), (4, ⟨[], []⟩), (5, ⟨[], []⟩), (6, ⟨[], []⟩), (7, ⟨[], []⟩), (9, ⟨[], []⟩), (10, ⟨[], []⟩), (11, ⟨[], []⟩), (12, ⟨[], []⟩), (13, ⟨[], []⟩), (14, ⟨[], []⟩), (15, ⟨[], []⟩), (16, ⟨[], []⟩), (17, ⟨[], []⟩), (18, ⟨[], []⟩), (19, ⟨[], [(0, 1)]⟩), (20, ⟨[], []⟩), (21, ⟨[], []⟩), (22, ⟨[], []⟩), (23, ⟨[], []⟩), (24, ⟨[], []⟩), (25, ⟨[], [(0, 1)]⟩), (26, ⟨[], []⟩), (27, ⟨[], []⟩), (28, ⟨[], []⟩), (30, ⟨[], []⟩), (31, ⟨[], []⟩), (32, ⟨[], []⟩), (33, ⟨[], [(0, 1)]⟩), (34, ⟨[], []⟩), (35, ⟨[], []⟩), (36, ⟨[], []⟩), (37, ⟨[], []⟩), (38, ⟨[], []⟩), (39, ⟨[], []⟩), (40, ⟨[], []⟩), (41, ⟨[], []⟩), (42, ⟨[], []⟩)]
theorem orders_ok : Try.prog.follows .mixedOrders = true := by kernel_rfl
theorem fn_ok3 : fnOk drawn lay sig Try.f3 (sig.sg 3) = true := by kernel_rfl
theorem fn_ok4 : fnOk drawn lay sig Try.f4 (sig.sg 4) = true := by kernel_rfl
theorem fn_ok5 : fnOk drawn lay sig Try.f5 (sig.sg 5) = true := by kernel_rfl
theorem fn_ok6 : fnOk drawn lay sig Try.f6 (sig.sg 6) = true := by kernel_rfl
theorem fn_ok7 : fnOk drawn lay sig Try.f7 (sig.sg 7) = true := by kernel_rfl
theorem fn_ok9 : fnOk drawn lay sig Try.f9 (sig.sg 9) = true := by kernel_rfl
theorem fn_ok10 : fnOk drawn lay sig Try.f10 (sig.sg 10) = true := by kernel_rfl
theorem fn_ok11 : fnOk drawn lay sig Try.f11 (sig.sg 11) = true := by kernel_rfl
theorem fn_ok12 : fnOk drawn lay sig Try.f12 (sig.sg 12) = true := by kernel_rfl
theorem fn_ok13 : fnOk drawn lay sig Try.f13 (sig.sg 13) = true := by kernel_rfl
theorem fn_ok14 : fnOk drawn lay sig Try.f14 (sig.sg 14) = true := by kernel_rfl
theorem fn_ok15 : fnOk drawn lay sig Try.f15 (sig.sg 15) = true := by kernel_rfl
theorem fn_ok16 : fnOk drawn lay sig Try.f16 (sig.sg 16) = true := by kernel_rfl
theorem fn_ok17 : fnOk drawn lay sig Try.f17 (sig.sg 17) = true := by kernel_rfl
theorem fn_ok18 : fnOk drawn lay sig Try.f18 (sig.sg 18) = true := by kernel_rfl
theorem fn_ok19 : fnOk drawn lay sig Try.f19 (sig.sg 19) = true := by kernel_rfl
theorem fn_ok20 : fnOk drawn lay sig Try.f20 (sig.sg 20) = true := by kernel_rfl
theorem fn_ok21 : fnOk drawn lay sig Try.f21 (sig.sg 21) = true := by kernel_rfl
theorem fn_ok22 : fnOk drawn lay sig Try.f22 (sig.sg 22) = true := by kernel_rfl
theorem fn_ok23 : fnOk drawn lay sig Try.f23 (sig.sg 23) = true := by kernel_rfl
theorem fn_ok24 : fnOk drawn lay sig Try.f24 (sig.sg 24) = true := by kernel_rfl
theorem fn_ok25 : fnOk drawn lay sig Try.f25 (sig.sg 25) = true := by kernel_rfl
theorem fn_ok26 : fnOk drawn lay sig Try.f26 (sig.sg 26) = true := by kernel_rfl
theorem fn_ok27 : fnOk drawn lay sig Try.f27 (sig.sg 27) = true := by kernel_rfl
theorem fn_ok28 : fnOk drawn lay sig Try.f28 (sig.sg 28) = true := by kernel_rfl
theorem fn_ok30 : fnOk drawn lay sig Try.f30 (sig.sg 30) = true := by kernel_rfl
theorem fn_ok31 : fnOk drawn lay sig Try.f31 (sig.sg 31) = true := by kernel_rfl
theorem fn_ok32 : fnOk drawn lay sig Try.f32 (sig.sg 32) = true := by kernel_rfl
theorem fn_ok33 : fnOk drawn lay sig Try.f33 (sig.sg 33) = true := by kernel_rfl
theorem fn_ok34 : fnOk drawn lay sig Try.f34 (sig.sg 34) = true := by kernel_rfl
theorem fn_ok35 : fnOk drawn lay sig Try.f35 (sig.sg 35) = true := by kernel_rfl
theorem fn_ok36 : fnOk drawn lay sig Try.f36 (sig.sg 36) = true := by kernel_rfl
theorem fn_ok37 : fnOk drawn lay sig Try.f37 (sig.sg 37) = true := by kernel_rfl
theorem fn_ok38 : fnOk drawn lay sig Try.f38 (sig.sg 38) = true := by kernel_rfl
theorem fn_ok39 : fnOk drawn lay sig Try.f39 (sig.sg 39) = true := by kernel_rfl
theorem fn_ok40 : fnOk drawn lay sig Try.f40 (sig.sg 40) = true := by kernel_rfl
theorem fn_ok41 : fnOk drawn lay sig Try.f41 (sig.sg 41) = true := by kernel_rfl
theorem fn_ok42 : fnOk drawn lay sig Try.f42 (sig.sg 42) = true := by kernel_rfl
theorem sig_ok : ∀ f, sig.has f = true → ∃ fn, Try.prog.funcs[f]? = some fn ∧ fnOk drawn lay sig fn (sig.sg f) = true := by
  intro f hf
  have hm : f ∈ [3, 4, 5, 6, 7, 9, 10, 11, 12, 13, 14, 15, 16, 17, 18, 19, 20, 21, 22, 23, 24, 25, 26, 27, 28, 30, 31, 32, 33, 34, 35, 36, 37, 38, 39, 40, 41, 42] := by
    unfold Sig.has at hf
    obtain ⟨x, hx⟩ := Option.isSome_iff_exists.1 hf
    have := mem_of_lookup hx
    have h2 : f ∈ sig.map (·.1) := List.mem_map.2 ⟨_, this, rfl⟩
    exact h2
  simp only [List.mem_cons, List.not_mem_nil, or_false] at hm
  rcases hm with rfl | rfl | rfl | rfl | rfl | rfl | rfl | rfl | rfl | rfl | rfl | rfl | rfl | rfl | rfl | rfl | rfl | rfl | rfl | rfl | rfl | rfl | rfl | rfl | rfl | rfl | rfl | rfl | rfl | rfl | rfl | rfl | rfl | rfl | rfl | rfl | rfl | rfl
  · exact ⟨_, Try.func3, fn_ok3⟩
  · exact ⟨_, Try.func4, fn_ok4⟩
  · exact ⟨_, Try.func5, fn_ok5⟩
  · exact ⟨_, Try.func6, fn_ok6⟩
  · exact ⟨_, Try.func7, fn_ok7⟩
  · exact ⟨_, Try.func9, fn_ok9⟩
  · exact ⟨_, Try.func10, fn_ok10⟩
  · exact ⟨_, Try.func11, fn_ok11⟩
  · exact ⟨_, Try.func12, fn_ok12⟩
  · exact ⟨_, Try.func13, fn_ok13⟩
  · exact ⟨_, Try.func14, fn_ok14⟩
  · exact ⟨_, Try.func15, fn_ok15⟩
  · exact ⟨_, Try.func16, fn_ok16⟩
  · exact ⟨_, Try.func17, fn_ok17⟩
  · exact ⟨_, Try.func18, fn_ok18⟩
  · exact ⟨_, Try.func19, fn_ok19⟩
  · exact ⟨_, Try.func20, fn_ok20⟩
  · exact ⟨_, Try.func21, fn_ok21⟩
  · exact ⟨_, Try.func22, fn_ok22⟩
  · exact ⟨_, Try.func23, fn_ok23⟩
  · exact ⟨_, Try.func24, fn_ok24⟩
  · exact ⟨_, Try.func25, fn_ok25⟩
  · exact ⟨_, Try.func26, fn_ok26⟩
  · exact ⟨_, Try.func27, fn_ok27⟩
  · exact ⟨_, Try.func28, fn_ok28⟩
  · exact ⟨_, Try.func30, fn_ok30⟩
  · exact ⟨_, Try.func31, fn_ok31⟩
  · exact ⟨_, Try.func32, fn_ok32⟩
  · exact ⟨_, Try.func33, fn_ok33⟩
  · exact ⟨_, Try.func34, fn_ok34⟩
  · exact ⟨_, Try.func35, fn_ok35⟩
  · exact ⟨_, Try.func36, fn_ok36⟩
  · exact ⟨_, Try.func37, fn_ok37⟩
  · exact ⟨_, Try.func38, fn_ok38⟩
  · exact ⟨_, Try.func39, fn_ok39⟩
  · exact ⟨_, Try.func40, fn_ok40⟩
  · exact ⟨_, Try.func41, fn_ok41⟩
  · exact ⟨_, Try.func42, fn_ok42⟩
end Go.Proofs.Ytnnalagflpmedaa

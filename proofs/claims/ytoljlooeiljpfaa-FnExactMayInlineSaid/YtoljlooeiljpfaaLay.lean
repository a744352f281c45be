/- The seat's types and functions: what is laid, and that every function keeps to its room. MADE BY mkseat.py. -/
import Derived.Test.YtoljlooeiljpfaaNz
import Derived.Test.YtoljlooeiljpfaaProg
namespace Go.Proofs.Ytoljlooeiljpfaa
open Go
def lay : Lay := ⟨[(3, ⟨0, 1, [.int 0], [], 0⟩), (4, ⟨1, 1, [.bool false], [], 0⟩), (22, ⟨2, 1, [.sl 3 []], [], 68⟩), (23, ⟨2, 1, [.sl 5 []], [], 71⟩), (25, ⟨3, 2, [.sl 3 [], .sl 5 []], [(0, 1), (1, 1)], 0⟩), (28, ⟨2, 1, [.sl 3 []], [], 76⟩), (29, ⟨2, 1, [.sl 5 []], [], 59⟩), (31, ⟨3, 2, [.sl 3 [], .sl 5 []], [(0, 1), (1, 1)], 0⟩), (36, ⟨2, 1, [.sl 3 []], [], 38⟩), (38, ⟨3, 3, [.int 0, .int 0, .sl 3 []], [(0, 1), (1, 1), (2, 1)], 0⟩), (41, ⟨2, 1, [.sl 3 []], [], 43⟩), (43, ⟨3, 3, [.int 0, .int 0, .sl 3 []], [(0, 1), (1, 1), (2, 1)], 0⟩), (52, ⟨2, 1, [.sl 1 []], [], 3⟩), (59, ⟨3, 5, [.sl 1 [], .int 0, .int 0, .int 0, .sl 3 []], [(0, 1), (1, 1), (2, 3)], 0⟩), (66, ⟨2, 1, [.sl 1 []], [], 104⟩), (68, ⟨3, 3, [.int 0, .int 0, .sl 1 []], [(0, 1), (1, 1), (2, 1)], 0⟩), (71, ⟨3, 5, [.sl 1 [], .int 0, .int 0, .int 0, .sl 3 []], [(0, 1), (1, 1), (2, 3)], 0⟩), (74, ⟨2, 1, [.sl 1 []], [], 105⟩), (76, ⟨3, 3, [.int 0, .int 0, .sl 1 []], [(0, 1), (1, 1), (2, 1)], 0⟩), (99, ⟨3, 2, [.sl 1 [], .sl 1 []], [(0, 1), (1, 1)], 0⟩), (104, ⟨3, 1, [.sl 1 []], [(0, 1)], 0⟩), (105, ⟨3, 1, [.sl 1 []], [(0, 1)], 0⟩)], [], [18, 19, 27, 29, 30, 34, 39, 43, 45, 50, 57, 58, 59, 60, 61, 62, 63, 66, 67, 68, 72, 73, 74, 77, 78, 79, 80, 81, 84, 86, 87, 92, 94, 95, 96, 98, 100, 101, 102, 103, 104, 106, 108, 109, 110], []⟩
theorem lay_ok : LayOk Try.prog lay := layChk_ok (by kernel_rfl)
def sig : Sig := [(3, ⟨[], []⟩), (4, ⟨[], []⟩), (5, ⟨[], []⟩), (6, ⟨[], []⟩), (7, ⟨[], []⟩), (8, ⟨[], []⟩), (9, ⟨[], []⟩), (10, ⟨[], []⟩), (11, ⟨[], []⟩), (12, ⟨[], []⟩), (13, ⟨[], []⟩), (14, ⟨[], []⟩), (15, ⟨[], []⟩), (16, ⟨[], []⟩), (17, ⟨[], []⟩), (18, ⟨[], []⟩), (19, ⟨[], []⟩), (20, ⟨[], []⟩), (21, ⟨[], []⟩), (24, ⟨[], []⟩), (25, ⟨[], []⟩), (26, ⟨[], [(0, 1)]⟩), (27, ⟨[], []⟩), (28, ⟨[], [(0, 1)]⟩), (29, ⟨[], []⟩), (30, ⟨[], []⟩), (31, ⟨[], []⟩), (32, ⟨[], []⟩), (33, ⟨[], []⟩), (34, ⟨[], []⟩), (35, ⟨[], []⟩), (36, ⟨[], []⟩), (38, ⟨[], []⟩), (39, ⟨[], []⟩), (40, ⟨[], []⟩), (41, ⟨[], []⟩), (42, ⟨[], []⟩), (43, ⟨[], []⟩), (44, ⟨[], []⟩), (45, ⟨[], []⟩), (46, ⟨[], []⟩), (47, ⟨[], []⟩), (48, ⟨[], []⟩), (49, ⟨[], []⟩), (50, ⟨[], []⟩), (51, ⟨[some 1, none], [(0, 1)]⟩), (52, ⟨[none, some 1], [(0, 1)]⟩), (53, ⟨[], []⟩), (54, ⟨[], []⟩), (55, ⟨[], []⟩), (56, ⟨[], []⟩), (57, ⟨[], []⟩), (58, ⟨[], []⟩), (59, ⟨[], []⟩), (60, ⟨[], []⟩), (61, ⟨[], []⟩), (62, ⟨[], []⟩), (63, ⟨[], []⟩), (64, ⟨[], []⟩), (65, ⟨[], [(0, 1)]⟩), (66, ⟨[], []⟩), (67, ⟨[], []⟩), (68, ⟨[], []⟩), (69, ⟨[], [(0, 1)]⟩), (72, ⟨[], []⟩), (73, ⟨[], []⟩), (74, ⟨[], []⟩), (75, ⟨[], []⟩), (76, ⟨[], [(0, 1)]⟩), (77, ⟨[], []⟩), (78, ⟨[], []⟩), (79, ⟨[], []⟩), (80, ⟨[], []⟩), (81, ⟨[], []⟩), (82, ⟨[], [(0, 1)]⟩), (83, ⟨[], [(0, 1)]⟩), (84, ⟨[], []⟩), (85, ⟨[], []⟩), (86, ⟨[], []⟩), (87, ⟨[], []⟩), (88, ⟨[], []⟩), (89, ⟨[], []⟩), (90, ⟨[], []⟩), (91, ⟨[], []⟩), (92, ⟨[], []⟩), (93, ⟨[], [(0, 1)]⟩), (94, ⟨[], []⟩), (95, ⟨[], []⟩), (96, ⟨[], []⟩), (97, ⟨[], []⟩), (98, ⟨[], []⟩), (99, ⟨[], []⟩), (100, ⟨[], []⟩), (101, ⟨[], []⟩), (102, ⟨[], []⟩), (103, ⟨[], []⟩), (104, ⟨[], []⟩), (105, ⟨[], [(0, 1)]⟩), (106, ⟨[], []⟩), (107, ⟨[], []⟩), (108, ⟨[], []⟩), (109, ⟨[], []⟩), (110, ⟨[], []⟩)]
theorem orders_ok : Try.prog.follows .mixedOrders = true := by kernel_rfl
theorem fn_ok3 : fnOk drawn lay sig Try.f3 (sig.sg 3) = true := by kernel_rfl
theorem fn_ok4 : fnOk drawn lay sig Try.f4 (sig.sg 4) = true := by kernel_rfl
theorem fn_ok5 : fnOk drawn lay sig Try.f5 (sig.sg 5) = true := by kernel_rfl
theorem fn_ok6 : fnOk drawn lay sig Try.f6 (sig.sg 6) = true := by kernel_rfl
theorem fn_ok7 : fnOk drawn lay sig Try.f7 (sig.sg 7) = true := by kernel_rfl
theorem fn_ok8 : fnOk drawn lay sig Try.f8 (sig.sg 8) = true := by kernel_rfl
theorem fn_ok9 : fnOk drawn lay sig Try.f9 (sig.sg 9) = true := by kernel_rfl
theorem fn_ok10 : fnOk drawn lay sig Try.f10 (sig.sg 10) = true := by kernel_rfl
theorem fn_ok11 : fnOk drawn lay sig Try.f11 (sig.sg 11) = true := by kernel_rfl
theorem fn_ok12 : fnOk drawn lay sig Try.f12 (sig.sg 12) = true := by kernel_rfl
theorem fn_ok13 : fnOk drawn lay sig Try.f13 (sig.sg 13) = true := by kernel_rfl
theorem fn_ok14 : fnOk drawn lay sig Try.f14 (sig.sg 14) = true := by kernel_rfl
theorem fn_ok15 : fnOk drawn lay sig Try.f15 (sig.sg 15) = true := by kernel_rfl
theorem fn_ok16 : fnOk drawn lay sig Try.f16 (sig.sg 16) = true := by kernel_rfl
theorem fn_ok17 : fnOk drawn lay sig Try.f17 (sig.sg 17) = true := by kernel_rfl
theorem fn_ok18 : fnOk drawn lay sig Try.f18 (sig.sg 18) = true := by kernel_rfl
theorem fn_ok19 : fnOk drawn lay sig Try.f19 (sig.sg 19) = true := by kernel_rfl
theorem fn_ok20 : fnOk drawn lay sig Try.f20 (sig.sg 20) = true := by kernel_rfl
theorem fn_ok21 : fnOk drawn lay sig Try.f21 (sig.sg 21) = true := by kernel_rfl
theorem fn_ok24 : fnOk drawn lay sig Try.f24 (sig.sg 24) = true := by kernel_rfl
theorem fn_ok25 : fnOk drawn lay sig Try.f25 (sig.sg 25) = true := by kernel_rfl
theorem fn_ok26 : fnOk drawn lay sig Try.f26 (sig.sg 26) = true := by kernel_rfl
theorem fn_ok27 : fnOk drawn lay sig Try.f27 (sig.sg 27) = true := by kernel_rfl
theorem fn_ok28 : fnOk drawn lay sig Try.f28 (sig.sg 28) = true := by kernel_rfl
theorem fn_ok29 : fnOk drawn lay sig Try.f29 (sig.sg 29) = true := by kernel_rfl
theorem fn_ok30 : fnOk drawn lay sig Try.f30 (sig.sg 30) = true := by kernel_rfl
theorem fn_ok31 : fnOk drawn lay sig Try.f31 (sig.sg 31) = true := by kernel_rfl
theorem fn_ok32 : fnOk drawn lay sig Try.f32 (sig.sg 32) = true := by kernel_rfl
theorem fn_ok33 : fnOk drawn lay sig Try.f33 (sig.sg 33) = true := by kernel_rfl
theorem fn_ok34 : fnOk drawn lay sig Try.f34 (sig.sg 34) = true := by kernel_rfl
theorem fn_ok35 : fnOk drawn lay sig Try.f35 (sig.sg 35) = true := by kernel_rfl
theorem fn_ok36 : fnOk drawn lay sig Try.f36 (sig.sg 36) = true := by kernel_rfl
theorem fn_ok38 : fnOk drawn lay sig Try.f38 (sig.sg 38) = true := by kernel_rfl
theorem fn_ok39 : fnOk drawn lay sig Try.f39 (sig.sg 39) = true := by kernel_rfl
theorem fn_ok40 : fnOk drawn lay sig Try.f40 (sig.sg 40) = true := by kernel_rfl
theorem fn_ok41 : fnOk drawn lay sig Try.f41 (sig.sg 41) = true := by kernel_rfl
theorem fn_ok42 : fnOk drawn lay sig Try.f42 (sig.sg 42) = true := by kernel_rfl
theorem fn_ok43 : fnOk drawn lay sig Try.f43 (sig.sg 43) = true := by kernel_rfl
theorem fn_ok44 : fnOk drawn lay sig Try.f44 (sig.sg 44) = true := by kernel_rfl
theorem fn_ok45 : fnOk drawn lay sig Try.f45 (sig.sg 45) = true := by kernel_rfl
theorem fn_ok46 : fnOk drawn lay sig Try.f46 (sig.sg 46) = true := by kernel_rfl
theorem fn_ok47 : fnOk drawn lay sig Try.f47 (sig.sg 47) = true := by kernel_rfl
theorem fn_ok48 : fnOk drawn lay sig Try.f48 (sig.sg 48) = true := by kernel_rfl
theorem fn_ok49 : fnOk drawn lay sig Try.f49 (sig.sg 49) = true := by kernel_rfl
theorem fn_ok50 : fnOk drawn lay sig Try.f50 (sig.sg 50) = true := by kernel_rfl
theorem fn_ok51 : fnOk drawn lay sig Try.f51 (sig.sg 51) = true := by kernel_rfl
theorem fn_ok52 : fnOk drawn lay sig Try.f52 (sig.sg 52) = true := by kernel_rfl
theorem fn_ok53 : fnOk drawn lay sig Try.f53 (sig.sg 53) = true := by kernel_rfl
theorem fn_ok54 : fnOk drawn lay sig Try.f54 (sig.sg 54) = true := by kernel_rfl
theorem fn_ok55 : fnOk drawn lay sig Try.f55 (sig.sg 55) = true := by kernel_rfl
theorem fn_ok56 : fnOk drawn lay sig Try.f56 (sig.sg 56) = true := by kernel_rfl
theorem fn_ok57 : fnOk drawn lay sig Try.f57 (sig.sg 57) = true := by kernel_rfl
theorem fn_ok58 : fnOk drawn lay sig Try.f58 (sig.sg 58) = true := by kernel_rfl
theorem fn_ok59 : fnOk drawn lay sig Try.f59 (sig.sg 59) = true := by kernel_rfl
theorem fn_ok60 : fnOk drawn lay sig Try.f60 (sig.sg 60) = true := by kernel_rfl
theorem fn_ok61 : fnOk drawn lay sig Try.f61 (sig.sg 61) = true := by kernel_rfl
theorem fn_ok62 : fnOk drawn lay sig Try.f62 (sig.sg 62) = true := by kernel_rfl
theorem fn_ok63 : fnOk drawn lay sig Try.f63 (sig.sg 63) = true := by kernel_rfl
theorem fn_ok64 : fnOk drawn lay sig Try.f64 (sig.sg 64) = true := by kernel_rfl
theorem fn_ok65 : fnOk drawn lay sig Try.f65 (sig.sg 65) = true := by kernel_rfl
theorem fn_ok66 : fnOk drawn lay sig Try.f66 (sig.sg 66) = true := by kernel_rfl
theorem fn_ok67 : fnOk drawn lay sig Try.f67 (sig.sg 67) = true := by kernel_rfl
theorem fn_ok68 : fnOk drawn lay sig Try.f68 (sig.sg 68) = true := by kernel_rfl
theorem fn_ok69 : fnOk drawn lay sig Try.f69 (sig.sg 69) = true := by kernel_rfl
theorem fn_ok72 : fnOk drawn lay sig Try.f72 (sig.sg 72) = true := by kernel_rfl
theorem fn_ok73 : fnOk drawn lay sig Try.f73 (sig.sg 73) = true := by kernel_rfl
theorem fn_ok74 : fnOk drawn lay sig Try.f74 (sig.sg 74) = true := by kernel_rfl
theorem fn_ok75 : fnOk drawn lay sig Try.f75 (sig.sg 75) = true := by kernel_rfl
theorem fn_ok76 : fnOk drawn lay sig Try.f76 (sig.sg 76) = true := by kernel_rfl
theorem fn_ok77 : fnOk drawn lay sig Try.f77 (sig.sg 77) = true := by kernel_rfl
theorem fn_ok78 : fnOk drawn lay sig Try.f78 (sig.sg 78) = true := by kernel_rfl
theorem fn_ok79 : fnOk drawn lay sig Try.f79 (sig.sg 79) = true := by kernel_rfl
theorem fn_ok80 : fnOk drawn lay sig Try.f80 (sig.sg 80) = true := by kernel_rfl
theorem fn_ok81 : fnOk drawn lay sig Try.f81 (sig.sg 81) = true := by kernel_rfl
theorem fn_ok82 : fnOk drawn lay sig Try.f82 (sig.sg 82) = true := by kernel_rfl
theorem fn_ok83 : fnOk drawn lay sig Try.f83 (sig.sg 83) = true := by kernel_rfl
theorem fn_ok84 : fnOk drawn lay sig Try.f84 (sig.sg 84) = true := by kernel_rfl
theorem fn_ok85 : fnOk drawn lay sig Try.f85 (sig.sg 85) = true := by kernel_rfl
theorem fn_ok86 : fnOk drawn lay sig Try.f86 (sig.sg 86) = true := by kernel_rfl
theorem fn_ok87 : fnOk drawn lay sig Try.f87 (sig.sg 87) = true := by kernel_rfl
theorem fn_ok88 : fnOk drawn lay sig Try.f88 (sig.sg 88) = true := by kernel_rfl
theorem fn_ok89 : fnOk drawn lay sig Try.f89 (sig.sg 89) = true := by kernel_rfl
theorem fn_ok90 : fnOk drawn lay sig Try.f90 (sig.sg 90) = true := by kernel_rfl
theorem fn_ok91 : fnOk drawn lay sig Try.f91 (sig.sg 91) = true := by kernel_rfl
theorem fn_ok92 : fnOk drawn lay sig Try.f92 (sig.sg 92) = true := by kernel_rfl
theorem fn_ok93 : fnOk drawn lay sig Try.f93 (sig.sg 93) = true := by kernel_rfl
theorem fn_ok94 : fnOk drawn lay sig Try.f94 (sig.sg 94) = true := by kernel_rfl
theorem fn_ok95 : fnOk drawn lay sig Try.f95 (sig.sg 95) = true := by kernel_rfl
theorem fn_ok96 : fnOk drawn lay sig Try.f96 (sig.sg 96) = true := by kernel_rfl
theorem fn_ok97 : fnOk drawn lay sig Try.f97 (sig.sg 97) = true := by kernel_rfl
theorem fn_ok98 : fnOk drawn lay sig Try.f98 (sig.sg 98) = true := by kernel_rfl
theorem fn_ok99 : fnOk drawn lay sig Try.f99 (sig.sg 99) = true := by kernel_rfl
theorem fn_ok100 : fnOk drawn lay sig Try.f100 (sig.sg 100) = true := by kernel_rfl
theorem fn_ok101 : fnOk drawn lay sig Try.f101 (sig.sg 101) = true := by kernel_rfl
theorem fn_ok102 : fnOk drawn lay sig Try.f102 (sig.sg 102) = true := by kernel_rfl
theorem fn_ok103 : fnOk drawn lay sig Try.f103 (sig.sg 103) = true := by kernel_rfl
theorem fn_ok104 : fnOk drawn lay sig Try.f104 (sig.sg 104) = true := by kernel_rfl
theorem fn_ok105 : fnOk drawn lay sig Try.f105 (sig.sg 105) = true := by kernel_rfl
theorem fn_ok106 : fnOk drawn lay sig Try.f106 (sig.sg 106) = true := by kernel_rfl
theorem fn_ok107 : fnOk drawn lay sig Try.f107 (sig.sg 107) = true := by kernel_rfl
theorem fn_ok108 : fnOk drawn lay sig Try.f108 (sig.sg 108) = true := by kernel_rfl
theorem fn_ok109 : fnOk drawn lay sig Try.f109 (sig.sg 109) = true := by kernel_rfl
theorem fn_ok110 : fnOk drawn lay sig Try.f110 (sig.sg 110) = true := by kernel_rfl
theorem sig_ok : ∀ f, sig.has f = true → ∃ fn, Try.prog.funcs[f]? = some fn ∧ fnOk drawn lay sig fn (sig.sg f) = true := by
  intro f hf
  have hm : f ∈ [3, 4, 5, 6, 7, 8, 9, 10, 11, 12, 13, 14, 15, 16, 17, 18, 19, 20, 21, 24, 25, 26, 27, 28, 29, 30, 31, 32, 33, 34, 35, 36, 38, 39, 40, 41, 42, 43, 44, 45, 46, 47, 48, 49, 50, 51, 52, 53, 54, 55, 56, 57, 58, 59, 60, 61, 62, 63, 64, 65, 66, 67, 68, 69, 72, 73, 74, 75, 76, 77, 78, 79, 80, 81, 82, 83, 84, 85, 86, 87, 88, 89, 90, 91, 92, 93, 94, 95, 96, 97, 98, 99, 100, 101, 102, 103, 104, 105, 106, 107, 108, 109, 110] := by
    unfold Sig.has at hf
    obtain ⟨x, hx⟩ := Option.isSome_iff_exists.1 hf
    have := mem_of_lookup hx
    have h2 : f ∈ sig.map (·.1) := List.mem_map.2 ⟨_, this, rfl⟩
    exact h2
  simp only [List.mem_cons, List.not_mem_nil, or_false] at hm
  rcases hm with rfl | rfl | rfl | rfl | rfl | rfl | rfl | rfl | rfl | rfl | rfl | rfl | rfl | rfl | rfl | rfl | rfl | rfl | rfl | rfl | rfl | rfl | rfl | rfl | rfl | rfl | rfl | rfl | rfl | rfl | rfl | rfl | rfl | rfl | rfl | rfl | rfl | rfl | rfl | rfl | rfl | rfl | rfl | rfl | rfl | rfl | rfl | rfl | rfl | rfl | rfl | rfl | rfl | rfl | rfl | rfl | rfl | rfl | rfl | rfl | rfl | rfl | rfl | rfl | rfl | rfl | rfl | rfl | rfl | rfl | rfl | rfl | rfl | rfl | rfl | rfl | rfl | rfl | rfl | rfl | rfl | rfl | rfl | rfl | rfl | rfl | rfl | rfl | rfl | rfl | rfl | rfl | rfl | rfl | rfl | rfl | rfl | rfl | rfl | rfl | rfl | rfl | rfl
  · exact ⟨_, Try.func3, fn_ok3⟩
  · exact ⟨_, Try.func4, fn_ok4⟩
  · exact ⟨_, Try.func5, fn_ok5⟩
  · exact ⟨_, Try.func6, fn_ok6⟩
  · exact ⟨_, Try.func7, fn_ok7⟩
  · exact ⟨_, Try.func8, fn_ok8⟩
  · exact ⟨_, Try.func9, fn_ok9⟩
  · exact ⟨_, Try.func10, fn_ok10⟩
  · exact ⟨_, Try.func11, fn_ok11⟩
  · exact ⟨_, Try.func12, fn_ok12⟩
  · exact ⟨_, Try.func13, fn_ok13⟩
  · exact ⟨_, Try.func14, fn_ok14⟩
  · exact ⟨_, Try.func15, fn_ok15⟩
  · exact ⟨_, Try.func16, fn_ok16⟩
  · exact ⟨_, Try.func17, fn_ok17⟩
  · exact ⟨_, Try.func18, fn_ok18⟩
  · exact ⟨_, Try.func19, fn_ok19⟩
  · exact ⟨_, Try.func20, fn_ok20⟩
  · exact ⟨_, Try.func21, fn_ok21⟩
  · exact ⟨_, Try.func24, fn_ok24⟩
  · exact ⟨_, Try.func25, fn_ok25⟩
  · exact ⟨_, Try.func26, fn_ok26⟩
  · exact ⟨_, Try.func27, fn_ok27⟩
  · exact ⟨_, Try.func28, fn_ok28⟩
  · exact ⟨_, Try.func29, fn_ok29⟩
  · exact ⟨_, Try.func30, fn_ok30⟩
  · exact ⟨_, Try.func31, fn_ok31⟩
  · exact ⟨_, Try.func32, fn_ok32⟩
  · exact ⟨_, Try.func33, fn_ok33⟩
  · exact ⟨_, Try.func34, fn_ok34⟩
  · exact ⟨_, Try.func35, fn_ok35⟩
  · exact ⟨_, Try.func36, fn_ok36⟩
  · exact ⟨_, Try.func38, fn_ok38⟩
  · exact ⟨_, Try.func39, fn_ok39⟩
  · exact ⟨_, Try.func40, fn_ok40⟩
  · exact ⟨_, Try.func41, fn_ok41⟩
  · exact ⟨_, Try.func42, fn_ok42⟩
  · exact ⟨_, Try.func43, fn_ok43⟩
  · exact ⟨_, Try.func44, fn_ok44⟩
  · exact ⟨_, Try.func45, fn_ok45⟩
  · exact ⟨_, Try.func46, fn_ok46⟩
  · exact ⟨_, Try.func47, fn_ok47⟩
  · exact ⟨_, Try.func48, fn_ok48⟩
  · exact ⟨_, Try.func49, fn_ok49⟩
  · exact ⟨_, Try.func50, fn_ok50⟩
  · exact ⟨_, Try.func51, fn_ok51⟩
  · exact ⟨_, Try.func52, fn_ok52⟩
  · exact ⟨_, Try.func53, fn_ok53⟩
  · exact ⟨_, Try.func54, fn_ok54⟩
  · exact ⟨_, Try.func55, fn_ok55⟩
  · exact ⟨_, Try.func56, fn_ok56⟩
  · exact ⟨_, Try.func57, fn_ok57⟩
  · exact ⟨_, Try.func58, fn_ok58⟩
  · exact ⟨_, Try.func59, fn_ok59⟩
  · exact ⟨_, Try.func60, fn_ok60⟩
  · exact ⟨_, Try.func61, fn_ok61⟩
  · exact ⟨_, Try.func62, fn_ok62⟩
  · exact ⟨_, Try.func63, fn_ok63⟩
  · exact ⟨_, Try.func64, fn_ok64⟩
  · exact ⟨_, Try.func65, fn_ok65⟩
  · exact ⟨_, Try.func66, fn_ok66⟩
  · exact ⟨_, Try.func67, fn_ok67⟩
  · exact ⟨_, Try.func68, fn_ok68⟩
  · exact ⟨_, Try.func69, fn_ok69⟩
  · exact ⟨_, Try.func72, fn_ok72⟩
  · exact ⟨_, Try.func73, fn_ok73⟩
  · exact ⟨_, Try.func74, fn_ok74⟩
  · exact ⟨_, Try.func75, fn_ok75⟩
  · exact ⟨_, Try.func76, fn_ok76⟩
  · exact ⟨_, Try.func77, fn_ok77⟩
  · exact ⟨_, Try.func78, fn_ok78⟩
  · exact ⟨_, Try.func79, fn_ok79⟩
  · exact ⟨_, Try.func80, fn_ok80⟩
  · exact ⟨_, Try.func81, fn_ok81⟩
  · exact ⟨_, Try.func82, fn_ok82⟩
  · exact ⟨_, Try.func83, fn_ok83⟩
  · exact ⟨_, Try.func84, fn_ok84⟩
  · exact ⟨_, Try.func85, fn_ok85⟩
  · exact ⟨_, Try.func86, fn_ok86⟩
  · exact ⟨_, Try.func87, fn_ok87⟩
  · exact ⟨_, Try.func88, fn_ok88⟩
  · exact ⟨_, Try.func89, fn_ok89⟩
  · exact ⟨_, Try.func90, fn_ok90⟩
  · exact ⟨_, Try.func91, fn_ok91⟩
  · exact ⟨_, Try.func92, fn_ok92⟩
  · exact ⟨_, Try.func93, fn_ok93⟩
  · exact ⟨_, Try.func94, fn_ok94⟩
  · exact ⟨_, Try.func95, fn_ok95⟩
  · exact ⟨_, Try.func96, fn_ok96⟩
  · exact ⟨_, Try.func97, fn_ok97⟩
  · exact ⟨_, Try.func98, fn_ok98⟩
  · exact ⟨_, Try.func99, fn_ok99⟩
  · exact ⟨_, Try.func100, fn_ok100⟩
  · exact ⟨_, Try.func101, fn_ok101⟩
  · exact ⟨_, Try.func102, fn_ok102⟩
  · exact ⟨_, Try.func103, fn_ok103⟩
  · exact ⟨_, Try.func104, fn_ok104⟩
  · exact ⟨_, Try.func105, fn_ok105⟩
  · exact ⟨_, Try.func106, fn_ok106⟩
  · exact ⟨_, Try.func107, fn_ok107⟩
  · exact ⟨_, Try.func108, fn_ok108⟩
  · exact ⟨_, Try.func109, fn_ok109⟩
  · exact ⟨_, Try.func110, fn_ok110⟩
end Go.Proofs.Ytoljlooeiljpfaa

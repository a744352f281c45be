/- Generic texts and models for the proofs of this seat: part 23. -/
import Derived.Test.YtbodfaghedolbaaS22
import Derived.Test.YtbodfaghedolbaaProg
set_option linter.unusedVariables false
set_option linter.unusedSimpArgs false
namespace Go.Proofs.Ytbodfaghedolbaa
open Go
def lay : Lay := ⟨[(3, ⟨0, 1, [.int 0], [], 0⟩), (4, ⟨1, 1, [.bool false], [], 0⟩), (23, ⟨2, 1, [.sl 3 []], [], 80⟩), (24, ⟨2, 1, [.sl 5 []], [], 35⟩), (26, ⟨3, 2, [.sl 3 [], .sl 5 []], [(0, 1), (1, 1)], 0⟩), (30, ⟨2, 1, [.sl 3 []], [], 32⟩), (32, ⟨3, 3, [.int 0, .int 0, .sl 3 []], [(0, 1), (1, 1), (2, 1)], 0⟩), (33, ⟨2, 1, [.sl 1 []], [], 3⟩), (35, ⟨3, 5, [.sl 1 [], .int 0, .int 0, .int 0, .sl 3 []], [(0, 1), (1, 1), (2, 3)], 0⟩), (53, ⟨3, 2, [.sl 1 [], .sl 1 []], [(0, 1), (1, 1)], 0⟩), (63, ⟨3, 2, [.sl 1 [], .int 0], [(0, 1), (1, 1)], 0⟩), (78, ⟨2, 1, [.sl 1 []], [], 89⟩), (80, ⟨3, 3, [.int 0, .int 0, .sl 1 []], [(0, 1), (1, 1), (2, 1)], 0⟩), (89, ⟨3, 1, [.sl 1 []], [(0, 1)], 0⟩)], [(63, 6), (84, 18)], [15, 24, 25, 28, 43, 44, 45, 46, 47, 52, 65, 66, 67, 68, 69, 70, 72, 73, 74, 76, 78, 79, 80, 81, 82, 88, 94, 96, 98, 101, 106, 107, 114, 116, 118], []⟩
theorem lay_ok : LayOk Try.prog lay := layChk_ok (by kernel_rfl)
def sig : Sig := [(3, ⟨[], []⟩), (4, ⟨[], []⟩), (5, ⟨[], []⟩), (6, ⟨[], []⟩), (7, ⟨[], []⟩), (8, ⟨[], []⟩), (9, ⟨[], []⟩), (10, ⟨[], []⟩), (12, ⟨[], []⟩), (13, ⟨[], []⟩), (14, ⟨[], []⟩), (15, ⟨[], []⟩), (17, ⟨[], [(2, 3)]⟩), (18, ⟨[], [(2, 3)]⟩), (19, ⟨[], []⟩), (20, ⟨[], []⟩), (21, ⟨[], []⟩), (22, ⟨[], []⟩), (23, ⟨[], []⟩), (24, ⟨[], []⟩), (25, ⟨[], []⟩), (26, ⟨[], []⟩), (27, ⟨[], []⟩), (28, ⟨[], []⟩), (29, ⟨[], []⟩), (30, ⟨[], []⟩), (32, ⟨[], []⟩), (33, ⟨[], []⟩), (34, ⟨[], [(2, 3)]⟩), (35, ⟨[], []⟩), (36, ⟨[], []⟩), (37, ⟨[], []⟩), (38, ⟨[], [(2, 3)]⟩), (39, ⟨[], []⟩), (40, ⟨[], []⟩), (43, ⟨[], []⟩), (44, ⟨[], []⟩), (45, ⟨[], []⟩), (46, ⟨[], []⟩), (47, ⟨[], []⟩), (48, ⟨[], []⟩), (49, ⟨[], []⟩), (50, ⟨[], []⟩), (51, ⟨[], []⟩), (52, ⟨[], []⟩), (53, ⟨[], [(0, 1)]⟩), (56, ⟨[], []⟩), (57, ⟨[], []⟩), (58, ⟨[], []⟩), (59, ⟨[], [(0, 3)]⟩), (60, ⟨[], [(0, 1)]⟩), (61, ⟨[], [(0, 3)]⟩), (62, ⟨[], [(0, 3)]⟩), (63, ⟨[], []⟩), (64, ⟨[], []⟩), (65, ⟨[], []⟩), (66, ⟨[], []⟩), (67, ⟨[], []⟩), (68, ⟨[], []⟩), (69, ⟨[], []⟩), (70, ⟨[], []⟩), (71, ⟨[], []⟩), (72, ⟨[], []⟩), (73, ⟨[], []⟩), (74, ⟨[], []⟩), (75, ⟨[], []⟩), (76, ⟨[], []⟩), (77, ⟨[], []⟩), (78, ⟨[], []⟩), (79, ⟨[], []⟩), (80, ⟨[], []⟩), (81, ⟨[], []⟩), (82, ⟨[], []⟩), (83, ⟨[], [(0, 3)]⟩), (84, ⟨[], [(2, 3)]⟩), (85, ⟨[], [(2, 3)]⟩), (86, ⟨[], [(0, 1)]⟩), (87, ⟨[], []⟩), (88, ⟨[], []⟩), (89, ⟨[], []⟩), (90, ⟨[], []⟩), (91, ⟨[], []⟩), (92, ⟨[], []⟩), (93, ⟨[], []⟩), (94, ⟨[], []⟩), (95, ⟨[], [(0, 1)]⟩), (96, ⟨[], []⟩), (97, ⟨[], [(0, 1)]⟩), (98, ⟨[], []⟩), (99, ⟨[], []⟩), (100, ⟨[], []⟩), (101, ⟨[], []⟩), (102, ⟨[], [(2, 3)]⟩), (103, ⟨[], []⟩), (104, ⟨[], []⟩), (105, ⟨[], []⟩), (106, ⟨[], []⟩), (107, ⟨[], []⟩), (108, ⟨[], [(0, 3)]⟩), (109, ⟨[], []⟩), (110, ⟨[], [(0, 1)]⟩), (111, ⟨[], []⟩), (112, ⟨[], []⟩), (113, ⟨[], [(0, 1)]⟩), (114, ⟨[], []⟩), (115, ⟨[], []⟩), (116, ⟨[], []⟩), (117, ⟨[], [(0, 1)]⟩), (118, ⟨[], []⟩)]
theorem orders_ok : Try.prog.follows .mixedOrders = true := by kernel_rfl
theorem fn_ok3 : fnOk drawn lay sig Try.f3 (sig.sg 3) = true := by kernel_rfl
theorem fn_ok4 : fnOk drawn lay sig Try.f4 (sig.sg 4) = true := by kernel_rfl
theorem fn_ok5 : fnOk drawn lay sig Try.f5 (sig.sg 5) = true := by kernel_rfl
theorem fn_ok6 : fnOk drawn lay sig Try.f6 (sig.sg 6) = true := by kernel_rfl
theorem fn_ok7 : fnOk drawn lay sig Try.f7 (sig.sg 7) = true := by kernel_rfl
theorem fn_ok8 : fnOk drawn lay sig Try.f8 (sig.sg 8) = true := by kernel_rfl
theorem fn_ok9 : fnOk drawn lay sig Try.f9 (sig.sg 9) = true := by kernel_rfl
theorem fn_ok10 : fnOk drawn lay sig Try.f10 (sig.sg 10) = true := by kernel_rfl
theorem fn_ok12 : fnOk drawn lay sig Try.f12 (sig.sg 12) = true := by kernel_rfl
theorem fn_ok13 : fnOk drawn lay sig Try.f13 (sig.sg 13) = true := by kernel_rfl
theorem fn_ok14 : fnOk drawn lay sig Try.f14 (sig.sg 14) = true := by kernel_rfl
theorem fn_ok15 : fnOk drawn lay sig Try.f15 (sig.sg 15) = true := by kernel_rfl
theorem fn_ok17 : fnOk drawn lay sig Try.f17 (sig.sg 17) = true := by kernel_rfl
theorem fn_ok18 : fnOk drawn lay sig Try.f18 (sig.sg 18) = true := by kernel_rfl
theorem fn_ok19 : fnOk drawn lay sig Try.f19 (sig.sg 19) = true := by kernel_rfl
theorem fn_ok20 : fnOk drawn lay sig Try.f20 (sig.sg 20) = true := by kernel_rfl
theorem fn_ok21 : fnOk drawn lay sig Try.f21 (sig.sg 21) = true := by kernel_rfl
theorem fn_ok22 : fnOk drawn lay sig Try.f22 (sig.sg 22) = true := by kernel_rfl
theorem fn_ok23 : fnOk drawn lay sig Try.f23 (sig.sg 23) = true := by kernel_rfl
theorem fn_ok24 : fnOk drawn lay sig Try.f24 (sig.sg 24) = true := by kernel_rfl
theorem fn_ok25 : fnOk drawn lay sig Try.f25 (sig.sg 25) = true := by kernel_rfl
theorem fn_ok26 : fnOk drawn lay sig Try.f26 (sig.sg 26) = true := by kernel_rfl
theorem fn_ok27 : fnOk drawn lay sig Try.f27 (sig.sg 27) = true := by kernel_rfl
theorem fn_ok28 : fnOk drawn lay sig Try.f28 (sig.sg 28) = true := by kernel_rfl
theorem fn_ok29 : fnOk drawn lay sig Try.f29 (sig.sg 29) = true := by kernel_rfl
theorem fn_ok30 : fnOk drawn lay sig Try.f30 (sig.sg 30) = true := by kernel_rfl
theorem fn_ok32 : fnOk drawn lay sig Try.f32 (sig.sg 32) = true := by kernel_rfl
theorem fn_ok33 : fnOk drawn lay sig Try.f33 (sig.sg 33) = true := by kernel_rfl
theorem fn_ok34 : fnOk drawn lay sig Try.f34 (sig.sg 34) = true := by kernel_rfl
theorem fn_ok35 : fnOk drawn lay sig Try.f35 (sig.sg 35) = true := by kernel_rfl
theorem fn_ok36 : fnOk drawn lay sig Try.f36 (sig.sg 36) = true := by kernel_rfl
theorem fn_ok37 : fnOk drawn lay sig Try.f37 (sig.sg 37) = true := by kernel_rfl
theorem fn_ok38 : fnOk drawn lay sig Try.f38 (sig.sg 38) = true := by kernel_rfl
theorem fn_ok39 : fnOk drawn lay sig Try.f39 (sig.sg 39) = true := by kernel_rfl
theorem fn_ok40 : fnOk drawn lay sig Try.f40 (sig.sg 40) = true := by kernel_rfl
theorem fn_ok43 : fnOk drawn lay sig Try.f43 (sig.sg 43) = true := by kernel_rfl
theorem fn_ok44 : fnOk drawn lay sig Try.f44 (sig.sg 44) = true := by kernel_rfl
theorem fn_ok45 : fnOk drawn lay sig Try.f45 (sig.sg 45) = true := by kernel_rfl
theorem fn_ok46 : fnOk drawn lay sig Try.f46 (sig.sg 46) = true := by kernel_rfl
theorem fn_ok47 : fnOk drawn lay sig Try.f47 (sig.sg 47) = true := by kernel_rfl
theorem fn_ok48 : fnOk drawn lay sig Try.f48 (sig.sg 48) = true := by kernel_rfl
theorem fn_ok49 : fnOk drawn lay sig Try.f49 (sig.sg 49) = true := by kernel_rfl
theorem fn_ok50 : fnOk drawn lay sig Try.f50 (sig.sg 50) = true := by kernel_rfl
theorem fn_ok51 : fnOk drawn lay sig Try.f51 (sig.sg 51) = true := by kernel_rfl
theorem fn_ok52 : fnOk drawn lay sig Try.f52 (sig.sg 52) = true := by kernel_rfl
theorem fn_ok53 : fnOk drawn lay sig Try.f53 (sig.sg 53) = true := by kernel_rfl
theorem fn_ok56 : fnOk drawn lay sig Try.f56 (sig.sg 56) = true := by kernel_rfl
theorem fn_ok57 : fnOk drawn lay sig Try.f57 (sig.sg 57) = true := by kernel_rfl
theorem fn_ok58 : fnOk drawn lay sig Try.f58 (sig.sg 58) = true := by kernel_rfl
theorem fn_ok59 : fnOk drawn lay sig Try.f59 (sig.sg 59) = true := by kernel_rfl
theorem fn_ok60 : fnOk drawn lay sig Try.f60 (sig.sg 60) = true := by kernel_rfl
theorem fn_ok61 : fnOk drawn lay sig Try.f61 (sig.sg 61) = true := by kernel_rfl
theorem fn_ok62 : fnOk drawn lay sig Try.f62 (sig.sg 62) = true := by kernel_rfl
theorem fn_ok63 : fnOk drawn lay sig Try.f63 (sig.sg 63) = true := by kernel_rfl
theorem fn_ok64 : fnOk drawn lay sig Try.f64 (sig.sg 64) = true := by kernel_rfl
theorem fn_ok65 : fnOk drawn lay sig Try.f65 (sig.sg 65) = true := by kernel_rfl
theorem fn_ok66 : fnOk drawn lay sig Try.f66 (sig.sg 66) = true := by kernel_rfl
theorem fn_ok67 : fnOk drawn lay sig Try.f67 (sig.sg 67) = true := by kernel_rfl
theorem fn_ok68 : fnOk drawn lay sig Try.f68 (sig.sg 68) = true := by kernel_rfl
theorem fn_ok69 : fnOk drawn lay sig Try.f69 (sig.sg 69) = true := by kernel_rfl
theorem fn_ok70 : fnOk drawn lay sig Try.f70 (sig.sg 70) = true := by kernel_rfl
theorem fn_ok71 : fnOk drawn lay sig Try.f71 (sig.sg 71) = true := by kernel_rfl
theorem fn_ok72 : fnOk drawn lay sig Try.f72 (sig.sg 72) = true := by kernel_rfl
theorem fn_ok73 : fnOk drawn lay sig Try.f73 (sig.sg 73) = true := by kernel_rfl
theorem fn_ok74 : fnOk drawn lay sig Try.f74 (sig.sg 74) = true := by kernel_rfl
theorem fn_ok75 : fnOk drawn lay sig Try.f75 (sig.sg 75) = true := by kernel_rfl
theorem fn_ok76 : fnOk drawn lay sig Try.f76 (sig.sg 76) = true := by kernel_rfl
theorem fn_ok77 : fnOk drawn lay sig Try.f77 (sig.sg 77) = true := by kernel_rfl
theorem fn_ok78 : fnOk drawn lay sig Try.f78 (sig.sg 78) = true := by kernel_rfl
theorem fn_ok79 : fnOk drawn lay sig Try.f79 (sig.sg 79) = true := by kernel_rfl
theorem fn_ok80 : fnOk drawn lay sig Try.f80 (sig.sg 80) = true := by kernel_rfl
theorem fn_ok81 : fnOk drawn lay sig Try.f81 (sig.sg 81) = true := by kernel_rfl
theorem fn_ok82 : fnOk drawn lay sig Try.f82 (sig.sg 82) = true := by kernel_rfl
theorem fn_ok83 : fnOk drawn lay sig Try.f83 (sig.sg 83) = true := by kernel_rfl
theorem fn_ok84 : fnOk drawn lay sig Try.f84 (sig.sg 84) = true := by kernel_rfl
theorem fn_ok85 : fnOk drawn lay sig Try.f85 (sig.sg 85) = true := by kernel_rfl
theorem fn_ok86 : fnOk drawn lay sig Try.f86 (sig.sg 86) = true := by kernel_rfl
theorem fn_ok87 : fnOk drawn lay sig Try.f87 (sig.sg 87) = true := by kernel_rfl
theorem fn_ok88 : fnOk drawn lay sig Try.f88 (sig.sg 88) = true := by kernel_rfl
theorem fn_ok89 : fnOk drawn lay sig Try.f89 (sig.sg 89) = true := by kernel_rfl
theorem fn_ok90 : fnOk drawn lay sig Try.f90 (sig.sg 90) = true := by kernel_rfl
theorem fn_ok91 : fnOk drawn lay sig Try.f91 (sig.sg 91) = true := by kernel_rfl
theorem fn_ok92 : fnOk drawn lay sig Try.f92 (sig.sg 92) = true := by kernel_rfl
theorem fn_ok93 : fnOk drawn lay sig Try.f93 (sig.sg 93) = true := by kernel_rfl
theorem fn_ok94 : fnOk drawn lay sig Try.f94 (sig.sg 94) = true := by kernel_rfl
theorem fn_ok95 : fnOk drawn lay sig Try.f95 (sig.sg 95) = true := by kernel_rfl
theorem fn_ok96 : fnOk drawn lay sig Try.f96 (sig.sg 96) = true := by kernel_rfl
theorem fn_ok97 : fnOk drawn lay sig Try.f97 (sig.sg 97) = true := by kernel_rfl
theorem fn_ok98 : fnOk drawn lay sig Try.f98 (sig.sg 98) = true := by kernel_rfl
theorem fn_ok99 : fnOk drawn lay sig Try.f99 (sig.sg 99) = true := by kernel_rfl
theorem fn_ok100 : fnOk drawn lay sig Try.f100 (sig.sg 100) = true := by kernel_rfl
theorem fn_ok101 : fnOk drawn lay sig Try.f101 (sig.sg 101) = true := by kernel_rfl
theorem fn_ok102 : fnOk drawn lay sig Try.f102 (sig.sg 102) = true := by kernel_rfl
theorem fn_ok103 : fnOk drawn lay sig Try.f103 (sig.sg 103) = true := by kernel_rfl
theorem fn_ok104 : fnOk drawn lay sig Try.f104 (sig.sg 104) = true := by kernel_rfl
theorem fn_ok105 : fnOk drawn lay sig Try.f105 (sig.sg 105) = true := by kernel_rfl
theorem fn_ok106 : fnOk drawn lay sig Try.f106 (sig.sg 106) = true := by kernel_rfl
theorem fn_ok107 : fnOk drawn lay sig Try.f107 (sig.sg 107) = true := by kernel_rfl
theorem fn_ok108 : fnOk drawn lay sig Try.f108 (sig.sg 108) = true := by kernel_rfl
theorem fn_ok109 : fnOk drawn lay sig Try.f109 (sig.sg 109) = true := by kernel_rfl
theorem fn_ok110 : fnOk drawn lay sig Try.f110 (sig.sg 110) = true := by kernel_rfl
theorem fn_ok111 : fnOk drawn lay sig Try.f111 (sig.sg 111) = true := by kernel_rfl
theorem fn_ok112 : fnOk drawn lay sig Try.f112 (sig.sg 112) = true := by kernel_rfl
theorem fn_ok113 : fnOk drawn lay sig Try.f113 (sig.sg 113) = true := by kernel_rfl
theorem fn_ok114 : fnOk drawn lay sig Try.f114 (sig.sg 114) = true := by kernel_rfl
theorem fn_ok115 : fnOk drawn lay sig Try.f115 (sig.sg 115) = true := by kernel_rfl
theorem fn_ok116 : fnOk drawn lay sig Try.f116 (sig.sg 116) = true := by kernel_rfl
theorem fn_ok117 : fnOk drawn lay sig Try.f117 (sig.sg 117) = true := by kernel_rfl
theorem fn_ok118 : fnOk drawn lay sig Try.f118 (sig.sg 118) = true := by kernel_rfl
theorem sig_ok : ∀ f, sig.has f = true → ∃ fn, Try.prog.funcs[f]? = some fn ∧ fnOk drawn lay sig fn (sig.sg f) = true := by
  intro f hf
  have hm : f ∈ [3, 4, 5, 6, 7, 8, 9, 10, 12, 13, 14, 15, 17, 18, 19, 20, 21, 22, 23, 24, 25, 26, 27, 28, 29, 30, 32, 33, 34, 35, 36, 37, 38, 39, 40, 43, 44, 45, 46, 47, 48, 49, 50, 51, 52, 53, 56, 57, 58, 59, 60, 61, 62, 63, 64, 65, 66, 67, 68, 69, 70, 71, 72, 73, 74, 75, 76, 77, 78, 79, 80, 81, 82, 83, 84, 85, 86, 87, 88, 89, 90, 91, 92, 93, 94, 95, 96, 97, 98, 99, 100, 101, 102, 103, 104, 105, 106, 107, 108, 109, 110, 111, 112, 113, 114, 115, 116, 117, 118] := by
    unfold Sig.has at hf
    obtain ⟨x, hx⟩ := Option.isSome_iff_exists.1 hf
    have := mem_of_lookup hx
    have h2 : f ∈ sig.map (·.1) := List.mem_map.2 ⟨_, this, rfl⟩
    exact h2
  simp only [List.mem_cons, List.not_mem_nil, or_false] at hm
  rcases hm with rfl | rfl | rfl | rfl | rfl | rfl | rfl | rfl | rfl | rfl | rfl | rfl | rfl | rfl | rfl | rfl | rfl | rfl | rfl | rfl | rfl | rfl | rfl | rfl | rfl | rfl | rfl | rfl | rfl | rfl | rfl | rfl | rfl | rfl | rfl | rfl | rfl | rfl | rfl | rfl | rfl | rfl | rfl | rfl | rfl | rfl | rfl | rfl | rfl | rfl | rfl | rfl | rfl | rfl | rfl | rfl | rfl | rfl | rfl | rfl | rfl | rfl | rfl | rfl | rfl | rfl | rfl | rfl | rfl | rfl | rfl | rfl | rfl | rfl | rfl | rfl | rfl | rfl | rfl | rfl | rfl | rfl | rfl | rfl | rfl | rfl | rfl | rfl | rfl | rfl | rfl | rfl | rfl | rfl | rfl | rfl | rfl | rfl | rfl | rfl | rfl | rfl | rfl | rfl | rfl | rfl | rfl | rfl | rfl
  · exact ⟨_, Try.func3, fn_ok3⟩
  · exact ⟨_, Try.func4, fn_ok4⟩
  · exact ⟨_, Try.func5, fn_ok5⟩
  · exact ⟨_, Try.func6, fn_ok6⟩
  · exact ⟨_, Try.func7, fn_ok7⟩
  · exact ⟨_, Try.func8, fn_ok8⟩
  · exact ⟨_, Try.func9, fn_ok9⟩
  · exact ⟨_, Try.func10, fn_ok10⟩
  · exact ⟨_, Try.func12, fn_ok12⟩
  · exact ⟨_, Try.func13, fn_ok13⟩
  · exact ⟨_, Try.func14, fn_ok14⟩
  · exact ⟨_, Try.func15, fn_ok15⟩
  · exact ⟨_, Try.func17, fn_ok17⟩
  · exact ⟨_, Try.func18, fn_ok18⟩
  · exact ⟨_, Try.func19, fn_ok19⟩
  · exact ⟨_, Try.func20, fn_ok20⟩
  · exact ⟨_, Try.func21, fn_ok21⟩
  · exact ⟨_, Try.func22, fn_ok22⟩
  · exact ⟨_, Try.func23, fn_ok23⟩
  · exact ⟨_, Try.func24, fn_ok24⟩
  · exact ⟨_, Try.func25, fn_ok25⟩
  · exact ⟨_, Try.func26, fn_ok26⟩
  · exact ⟨_, Try.func27, fn_ok27⟩
  · exact ⟨_, Try.func28, fn_ok28⟩
  · exact ⟨_, Try.func29, fn_ok29⟩
  · exact ⟨_, Try.func30, fn_ok30⟩
  · exact ⟨_, Try.func32, fn_ok32⟩
  · exact ⟨_, Try.func33, fn_ok33⟩
  · exact ⟨_, Try.func34, fn_ok34⟩
  · exact ⟨_, Try.func35, fn_ok35⟩
  · exact ⟨_, Try.func36, fn_ok36⟩
  · exact ⟨_, Try.func37, fn_ok37⟩
  · exact ⟨_, Try.func38, fn_ok38⟩
  · exact ⟨_, Try.func39, fn_ok39⟩
  · exact ⟨_, Try.func40, fn_ok40⟩
  · exact ⟨_, Try.func43, fn_ok43⟩
  · exact ⟨_, Try.func44, fn_ok44⟩
  · exact ⟨_, Try.func45, fn_ok45⟩
  · exact ⟨_, Try.func46, fn_ok46⟩
  · exact ⟨_, Try.func47, fn_ok47⟩
  · exact ⟨_, Try.func48, fn_ok48⟩
  · exact ⟨_, Try.func49, fn_ok49⟩
  · exact ⟨_, Try.func50, fn_ok50⟩
  · exact ⟨_, Try.func51, fn_ok51⟩
  · exact ⟨_, Try.func52, fn_ok52⟩
  · exact ⟨_, Try.func53, fn_ok53⟩
  · exact ⟨_, Try.func56, fn_ok56⟩
  · exact ⟨_, Try.func57, fn_ok57⟩
  · exact ⟨_, Try.func58, fn_ok58⟩
  · exact ⟨_, Try.func59, fn_ok59⟩
  · exact ⟨_, Try.func60, fn_ok60⟩
  · exact ⟨_, Try.func61, fn_ok61⟩
  · exact ⟨_, Try.func62, fn_ok62⟩
  · exact ⟨_, Try.func63, fn_ok63⟩
  · exact ⟨_, Try.func64, fn_ok64⟩
  · exact ⟨_, Try.func65, fn_ok65⟩
  · exact ⟨_, Try.func66, fn_ok66⟩
  · exact ⟨_, Try.func67, fn_ok67⟩
  · exact ⟨_, Try.func68, fn_ok68⟩
  · exact ⟨_, Try.func69, fn_ok69⟩
  · exact ⟨_, Try.func70, fn_ok70⟩
  · exact ⟨_, Try.func71, fn_ok71⟩
  · exact ⟨_, Try.func72, fn_ok72⟩
  · exact ⟨_, Try.func73, fn_ok73⟩
  · exact ⟨_, Try.func74, fn_ok74⟩
  · exact ⟨_, Try.func75, fn_ok75⟩
  · exact ⟨_, Try.func76, fn_ok76⟩
  · exact ⟨_, Try.func77, fn_ok77⟩
  · exact ⟨_, Try.func78, fn_ok78⟩
  · exact ⟨_, Try.func79, fn_ok79⟩
  · exact ⟨_, Try.func80, fn_ok80⟩
  · exact ⟨_, Try.func81, fn_ok81⟩
  · exact ⟨_, Try.func82, fn_ok82⟩
  · exact ⟨_, Try.func83, fn_ok83⟩
  · exact ⟨_, Try.func84, fn_ok84⟩
  · exact ⟨_, Try.func85, fn_ok85⟩
  · exact ⟨_, Try.func86, fn_ok86⟩
  · exact ⟨_, Try.func87, fn_ok87⟩
  · exact ⟨_, Try.func88, fn_ok88⟩
  · exact ⟨_, Try.func89, fn_ok89⟩
  · exact ⟨_, Try.func90, fn_ok90⟩
  · exact ⟨_, Try.func91, fn_ok91⟩
  · exact ⟨_, Try.func92, fn_ok92⟩
  · exact ⟨_, Try.func93, fn_ok93⟩
  · exact ⟨_, Try.func94, fn_ok94⟩
  · exact ⟨_, Try.func95, fn_ok95⟩
  · exact ⟨_, Try.func96, fn_ok96⟩
  · exact ⟨_, Try.func97, fn_ok97⟩
  · exact ⟨_, Try.func98, fn_ok98⟩
  · exact ⟨_, Try.func99, fn_ok99⟩
  · exact ⟨_, Try.func100, fn_ok100⟩
  · exact ⟨_, Try.func101, fn_ok101⟩
  · exact ⟨_, Try.func102, fn_ok102⟩
  · exact ⟨_, Try.func103, fn_ok103⟩
  · exact ⟨_, Try.func104, fn_ok104⟩
  · exact ⟨_, Try.func105, fn_ok105⟩
  · exact ⟨_, Try.func106, fn_ok106⟩
  · exact ⟨_, Try.func107, fn_ok107⟩
  · exact ⟨_, Try.func108, fn_ok108⟩
  · exact ⟨_, Try.func109, fn_ok109⟩
  · exact ⟨_, Try.func110, fn_ok110⟩
  · exact ⟨_, Try.func111, fn_ok111⟩
  · exact ⟨_, Try.func112, fn_ok112⟩
  · exact ⟨_, Try.func113, fn_ok113⟩
  · exact ⟨_, Try.func114, fn_ok114⟩
  · exact ⟨_, Try.func115, fn_ok115⟩
  · exact ⟨_, Try.func116, fn_ok116⟩
  · exact ⟨_, Try.func117, fn_ok117⟩
  · exact ⟨_, Try.func118, fn_ok118⟩
end Go.Proofs.Ytbodfaghedolbaa
set_option maxRecDepth 100000
namespace Go.Proofs.Ytbodfaghedolbaa
open Go Go.RowKit Go.BigFrame
def ext : ExtT := []
theorem ext_ok : ∀ f e, sig.has f = false → ext.lookup f = some e → ∀ call, CallOk Try.prog sig call → CallOk1 Try.prog sig f (extRun call e) := by
  intro f e _ he call hC
  cases he
end Go.Proofs.Ytbodfaghedolbaa
namespace Go.Proofs.Ytbodfaghedolbaa
open Go Go.RowKit
abbrev TOrc := FuncId → List AC → List SV → Option (AV × List AC)
structure TS where
  s : VS
  tk : List Nat
  q : List AC
def tokO (tk : List Nat) : Operand → Bool
  | .tmp i => tk.any fun t => Nat.beq t i
  | _ => false
def isTok (L : Lay) (tk : List Nat) (o : Oper) : Bool := match o.op with
  | .move x | .assign x => tokO tk x && (L.ti o.type).isNone
  | _ => false
def isTC (T : Nat → Bool) (o : Oper) : Bool := match o.op with
  | .call { callee := .value (.func f), .. } => T f
  | _ => false
def cutT (d : Option Nat) (tk : List Nat) : List Nat := match d with
  | some d => tk.filter fun t => !Nat.beq t d
  | none => tk
def callT (L : Lay) (ct : TOrc) (o : Oper) (t : TS) : Option (AV × List AC) := match o.op with
  | .call { callee := .value (.func f), args, argTypes } => match args.toList, argTypes.toList with
    | x :: xs, _ :: ts => if tokO t.tk x then (argsV L t.s xs ts).bind fun vs => ct f t.q vs else none
    | _, _ => none
  | _ => none
def vopT (b : Oper → VS → Option VS) (L : Lay) (T : Nat → Bool) (ct : TOrc) (o : Oper) (t : TS) : Option TS :=
  if isTC T o then (callT L ct o t).map fun r => ⟨t.s.put o.dst r.1, cutT o.dst t.tk, r.2⟩
  else if isTok L t.tk o then match o.dst with
    | some d => some ⟨t.s.put (some d) .und, d :: t.tk, t.q⟩
    | none => none
  else (b o t.s).map fun s' => ⟨s', cutT o.dst t.tk, t.q⟩
def vopGT (b : Oper → VS → Option VS) (L : Lay) (T : Nat → Bool) (ct : TOrc) (all : List Oper) (o : Oper) (t : TS) : Option TS := match o.guard with
  | none => vopT b L T ct o t
  | some g => (guardV all t.s g).bind fun u => if u then vopT b L T ct o t else some ⟨t.s.put o.dst .und, cutT o.dst t.tk, t.q⟩
def vopsT (b : Oper → VS → Option VS) (L : Lay) (T : Nat → Bool) (ct : TOrc) (all : List Oper) : List Oper → TS → Option TS
  | [], t => some t
  | o :: rest, t => (vopGT b L T ct all o t).bind (vopsT b L T ct all rest)
def has0 (tk : List Nat) : Bool := tk.any fun t => Nat.beq t 0
def vregT (L : Lay) (T : Nat → Bool) (call : Orc) (ct : TOrc) (ops : List Oper) (d : Bool) (x : List AV × List AC) : Option (List AV × List AC) :=
  (if d then vopsT (vopP L call) L T ct ops ops ⟨{ σ := mask x.1, pe := [] }, [0], x.2⟩ else vopsT (vop L call) L T ct ops ops ⟨{ σ := x.1, pe := [] }, [0], x.2⟩).bind fun t =>
    if has0 t.tk then some (t.s.σ, t.q) else none
def vcodeT (L : Lay) (T : Nat → Bool) (call : Orc) (ct : TOrc) : Nat → Code → List AV × List AC → Option (Xt × (List AV × List AC))
  | 0, _, _ => none
  | n + 1, c, s =>
    match c with
    | .skip => some (.norm, s)
    | .region _ ops d => (vregT L T call ct ops.toList d s).map fun s => (.norm, s)
    | .seq a b => (vcodeT L T call ct n a s).bind fun r => match r with
      | (.norm, s') => vcodeT L T call ct n b s'
      | r => some r
    | .cond x a b => (boolO L { σ := s.1, pe := [] } x).bind fun t => if t then vcodeT L T call ct n a s else vcodeT L T call ct n b s
    | .block id b => (vcodeT L T call ct n b s).map fun r => match r with
      | (.exit i, s') => if i = id then (.norm, s') else (.exit i, s')
      | r => r
    | .loop b => (vcodeT L T call ct n b s).bind fun r => match r with
      | (.norm, s') => vcodeT L T call ct n (.loop b) s'
      | r => some r
    | .exit id => some (.exit id, s)
    | .ret => some (.ret, s)
    | _ => none
def tbody (L : Lay) (T : Nat → Bool) (call : Orc) (ct : TOrc) (n : Nat) (fn : Func) (q : List AC) (args : List SV) : Option (AV × List AC) :=
  match fn.body with
  | none => none
  | some c => if args.length + 1 ≤ fn.ntmps then (vcodeT L T call ct n c (.und :: (args.map .v ++ List.replicate (fn.ntmps - (args.length + 1)) .und), q)).bind fun r => match r with
    | (.exit _, _) => none
    | (_, s) => (resVs L s.1 fn.results.toList).map fun vs => (match vs with
      | [v] => .v v
      | vs => .tup vs, s.2)
    else none
def TOrc.le (a b : TOrc) : Prop := ∀ f q x r, a f q x = some r → b f q x = some r
structure TExt where
  run : TOrc → List AC → List SV → Option (AV × List AC)
  mono : ∀ a b, TOrc.le a b → ∀ q x r, run a q x = some r → run b q x = some r
  cont : ∀ (c : TOrc) (cs : Nat → TOrc), (∀ n m, n ≤ m → TOrc.le (cs n) (cs m)) → (∀ f q x r, c f q x = some r → ∃ n, cs n f q x = some r) → ∀ q x r, run c q x = some r → ∃ n, run (cs n) q x = some r
abbrev TExtT := Nat → Option TExt
def tfun (P : Program) (L : Lay) (T : Nat → Bool) (call : Orc) (E : TExtT) : Nat → TOrc
  | 0, _, _, _ => none
  | n + 1, f, q, args => if T f then match E f with
    | some e => e.run (tfun P L T call E n) q args
    | none => match P.funcs[f]? with
      | some fn => tbody L T call (tfun P L T call E n) n fn q args
      | none => none
    else none
end Go.Proofs.Ytbodfaghedolbaa
namespace Go.Proofs.Ytbodfaghedolbaa
open Go Go.RowKit
def RepQ (p : Stb) (w : World) (v : Value) (c : AC) : Prop := Rep p w v c ∨ ∃ A n cap, v = .slice A n cap ∧ n ≤ cap ∧ ∃ ns : List Nat, ns.length = n ∧ c = .sl 1 (ns.map fun (u : Nat) => [.bool true, .int (u : Int)]) ∧ (0 < n → ∃ b o, A = some ⟨b, o, none⟩ ∧ b < w.heap.size ∧ o + n ≤ p b ∧ (∀ k, ¬ p.ok b k) ∧ ∀ (i u : Nat), ns[i]? = some u → u ≤ 255 ∧ w.cell? ⟨b, o + i, none⟩ = some (.int .u8 (u : Int)))
theorem RepQ.evo {B : Nat → Prop} {p p' : Stb} {w w' : World} (h : Evo B p w p' w') {v : Value} {c : AC} : RepQ p w v c → RepQ p' w' v c
  | .inl hr => .inl (hr.evo h)
  | .inr ⟨A, n, cap, e, hc, ns, hl, hq, hr⟩ => .inr ⟨A, n, cap, e, hc, ns, hl, hq, fun hn => by
      obtain ⟨b, o, hA, hb, hp, hok, hx⟩ := hr hn
      refine ⟨b, o, hA, Nat.lt_of_lt_of_le hb h.size, Nat.le_trans hp (h.keepP b hb), fun k hk => hok k (by rw [← h.okk b hb]; exact hk), fun i u hu => ?_⟩
      obtain ⟨h1, h2⟩ := hx i u hu
      have := (List.getElem?_eq_some_iff.1 hu).1
      exact ⟨h1, by rw [h.stable b _ hb (by omega)]; exact h2⟩⟩
def RepQs (p : Stb) (w : World) : List Value → List AC → Prop
  | [], [] => True
  | v :: vs, c :: cs => RepQ p w v c ∧ RepQs p w vs cs
  | _, _ => False
theorem RepQs.evo {B : Nat → Prop} {p p' : Stb} {w w' : World} (h : Evo B p w p' w') : ∀ {vs : List Value} {cs : List AC}, RepQs p w vs cs → RepQs p' w' vs cs
  | [], [], _ => trivial
  | _ :: _, _ :: _, ⟨a, b⟩ => ⟨a.evo h, RepQs.evo h b⟩
structure TK (p : Stb) (w : World) (Own : Nat → Prop) (b : Nat) (q : List AC) : Prop where
  not : ¬ Own b
  lt : b < w.heap.size
  pz : p b = 0
  cells : ∃ a T, w.heap[b]? = some (.cells a T (0, 0)) ∧ RepQs p w a.toList q
theorem TK.evo {p p' : Stb} {w w' : World} {Own : Nat → Prop} {b : Nat} {q : List AC} (h : TK p w Own b q) (he : Evo Own p w p' w') : TK p' w' Own b q := by
  obtain ⟨a, T, h1, h2⟩ := h.cells
  exact ⟨h.not, Nat.lt_of_lt_of_le h.lt he.size, by rw [he.same b h.lt h.not]; exact h.pz, a, T, by rw [he.block b h.lt h.not]; exact h1, h2.evo he⟩
theorem TK.own {p : Stb} {w : World} {Own Own' : Nat → Prop} {b : Nat} {q : List AC} (h : TK p w Own b q) (hn : ¬ Own' b) : TK p w Own' b q := ⟨hn, h.lt, h.pz, h.cells⟩
def ptrB (b : Nat) : Value := .pointer (some ⟨b, 0, none⟩)
def CallOkT1 (P : Program) (S : Sig) (f : FuncId) (run : List AC → List SV → Option (AV × List AC)) : Prop := ∀ q args r, run q args = some r → (isVal r.1 = true ∧ ∃ fn, P.funcs[f]? = some fn ∧ fn.body.isSome = true ∧ (fn.name == "runtime.NumGoroutine") = false) ∧
  ∀ p w b (vals : List Value), RepSs p w vals args → Zp p w → TK p w (fun _ => False) b q →
  Calls P f (ptrB b :: vals).toArray w fun e w' => ∃ v, e = .returned v ∧ ∃ p', SR p' w' v r.1 ∧ (∀ cs, r.1 ≠ .box cs) ∧ r.1 ≠ .und ∧ Evo (· = b) p w p' w' ∧ Zp p' w' ∧ TK p' w' (fun _ => False) b r.2 ∧
    (∀ e ∈ (S.sg f).gives, ∃ u, cellOf w' v e.1 = some u ∧ Rt p' w' u e.2 ∧ ∀ c, blkOf u = some c → w.heap.size ≤ c) ∧
    (∀ (e e' : Nat × Nat) (u u' : Value) (c : Nat), e ∈ (S.sg f).gives → e' ∈ (S.sg f).gives → e.1 ≠ e'.1 → cellOf w' v e.1 = some u → cellOf w' v e'.1 = some u' → blkOf u = some c → blkOf u' ≠ some c)
def CallOkT (P : Program) (S : Sig) (T : Nat → Bool) (ct : TOrc) : Prop := ∀ f, T f = true → (S.sg f).takes = [] ∧ CallOkT1 P S f (ct f)
def World.withBlock (w : World) (b : Nat) (o : Obj) : World := { w with heap := w.heap.setIfInBounds b o }
section
variable {P : Program} {L : Lay} {S : Sig} {T : Nat → Bool} {call : Orc} {ct : TOrc} {p p' : Stb} {w w' w1 : World} {a : Act} {s s' : VS} {q : SPe} {o : Oper} {st st' : Stt} {Own : Nat → Prop} {base b : Nat}
theorem withBlock_get (w : World) (b c : Nat) (x : Obj) : (World.withBlock w b x).heap[c]? = if b = c ∧ c < w.heap.size then some x else w.heap[c]? := by
  simp only [World.withBlock, Array.getElem?_setIfInBounds]
  by_cases h : b = c
  · subst h
    by_cases h2 : b < w.heap.size
    · simp [h2]
    · simp [h2]
  · simp [h]
theorem withBlock_size (w : World) (b : Nat) (x : Obj) : (World.withBlock w b x).heap.size = w.heap.size := by simp [World.withBlock]
theorem evo_with (x : Obj) (hp : p b = 0) : Evo (· = b) p w p (World.withBlock w b x) :=
  evo_block hp (withBlock_size w b x) (fun y hy => by rw [withBlock_get, if_neg (fun h => hy h.1.symm)]) rfl rfl rfl
theorem evo_off {x : Obj} (h : Evo (· = b) p w p' w') (hlt : b < w.heap.size) (hp : p b = 0) (hp' : p' b = 0) (hx : w'.heap[b]? = some x) : Evo (fun _ => False) p (World.withBlock w b x) p' w' := by
  have hs := withBlock_size w b x
  refine ⟨h.os, h.tape, h.output, by rw [hs]; exact h.size, fun c hc _ => ?_, fun c hc => h.keepP c (by rw [hs] at hc; exact hc), fun c hc _ => ?_, fun c o hc ho => ?_, fun c hc => h.okk c (by rw [hs] at hc; exact hc), fun c h1 h2 => h.uq c (by rw [hs] at h1; exact h1) h2⟩
  · rw [hs] at hc
    rw [withBlock_get]
    by_cases hb : b = c
    · subst hb; rw [if_pos ⟨rfl, hc⟩]; exact hx
    · rw [if_neg (fun e => hb e.1)]; exact h.block c hc (fun e => hb e.symm)
  · rw [hs] at hc
    by_cases hb : c = b
    · subst hb; rw [hp, hp']
    · exact h.same c hc hb
  · rw [hs] at hc
    have hb : c ≠ b := fun e => by subst e; rw [hp] at ho; omega
    rw [h.stable c o hc ho]
    exact (World.cell?_of_block (w := w) (by rw [withBlock_get, if_neg (fun e => hb e.1.symm)])).symm
theorem Inv.off {m : Array Value} (hI : Inv st p w m s Own) (he : Evo (· = b) p w p w1) (hs : w1.heap.size = w.heap.size) (hb : ¬ Own b) : Inv st p w1 m s Own := by
  obtain ⟨val, hR⟩ := hI.rooms
  have hbox : ∀ d cs, s.get d = .box cs → m.getD d undef ≠ .pointer (some ⟨b, 0, none⟩) := fun d cs hd e => by
    obtain ⟨c, e1, _, h1, _⟩ := hI.box d cs hd
    rw [e] at e1
    cases e1
    exact hb h1
  have harr : ∀ d k rows, s.get d = .arr k rows → blkOf (m.getD d undef) ≠ some b := fun d k rows hd e => hb (hI.arr d k rows b hd e).2.1
  have hzp : Zp p w1 := ⟨fun c hc => hI.zp.1 c (by rw [← hs]; exact hc), fun c hc => hI.zp.2 c (by rw [← hs]; exact hc)⟩
  refine ⟨hI.size, hI.len, hI.nbk, hI.sonce, fun t => ?_, hzp, hI.once, hI.spe, fun c hc => hI.own c (by rw [← hs]; exact hc), fun d cs hd => ?_, hI.boxd, fun d k rows c hd hc => ?_, hI.al, hI.mks, val, ⟨fun z id hm => ?_, fun id k hm => ?_, hR.own, hR.apart, hR.row⟩⟩
  · obtain ⟨g1, g2⟩ := hI.slots t
    refine ⟨sr_frame he (fun cs hcs c hc e => by subst e; exact hbox t cs hcs hc) (fun k rows hk c hc e => by subst e; exact harr t k rows hk hc) g1, fun r hr => ?_⟩
    have := g2 r hr
    cases r with
    | ref cs => exact PRef.evo he this
    | box d off => exact this
    | el d k n j => exact this
  · obtain ⟨c, h1, h2, h3, h4⟩ := hI.box d cs hd
    exact ⟨c, h1, h2, h3, by rw [hs]; exact h4⟩
  · obtain ⟨h1, h2, h3, h4⟩ := hI.arr d k rows c hd hc
    exact ⟨h1, h2, by rw [hs]; exact h3, h4⟩
  · obtain ⟨h1, h2⟩ := hR.place z id hm
    refine ⟨?_, h2⟩
    have hsl := (hI.slots z.1).1
    cases hx : s.get z.1 with
    | und => exact absurd hx h2
    | v x => rw [hx] at hsl; rw [cellOf_SV hsl] at h1 ⊢; exact h1
    | tup xs => rw [hx] at hsl; obtain ⟨arr, e, _⟩ := hsl; rw [e] at h1 ⊢; exact h1
    | al d => rw [hx] at hsl; obtain ⟨_, _, _, e⟩ := hsl; rw [e] at h1 ⊢; exact h1
    | arr k rows =>
      rw [hx] at hsl
      rcases hsl.2.2 with ⟨e, _⟩ | ⟨_, _, _, _, _, _, e, _⟩
      · rw [e] at h1 ⊢; exact h1
      · rw [e] at h1 ⊢; exact h1
    | box cs =>
      obtain ⟨c, e, _, h3, hlt⟩ := hI.box z.1 cs hx
      rw [e] at h1 ⊢
      show w1.cell? ⟨c, z.2, none⟩ = _
      rw [World.cell?_of_block (w := w) (he.block c hlt (fun e => hb (by rw [← e]; exact h3)))]
      exact h1
  · exact (hR.alive id k hm).evo he (fun c hc e => by subst e; exact hb (hR.own id k _ hm hc).1)
theorem tok_cut {d : Option Nat} {tk : List Nat} {t : Nat} (h : t ∈ cutT d tk) : t ∈ tk ∧ d ≠ some t := by
  unfold cutT at h
  split at h
  · rename_i d
    rw [List.mem_filter] at h
    simp only [Bool.not_eq_true'] at h
    exact ⟨h.1, fun e => by cases e; rw [Nat.beq_refl] at h; cases h.2⟩
  · exact ⟨h, by simp⟩
theorem tokO_mem {tk : List Nat} {x : Operand} (h : tokO tk x = true) : ∃ i, x = .tmp i ∧ i ∈ tk := by
  unfold tokO at h
  split at h
  · rename_i i
    simp only [List.any_eq_true] at h
    obtain ⟨t, ht, he⟩ := h
    exact ⟨i, rfl, by rw [← Nat.eq_of_beq_eq_true he]; exact ht⟩
  · cases h
theorem call_doesT (hC : CallOkT P S T ct) {f : FuncId} {xs : Array Operand} {ts : Array TypeId} (hop : o.op = .call { callee := .value (.func f), args := xs, argTypes := ts }) (hf : T f = true) {x : Operand} {xs' : List Operand} (hxs : xs.toList = x :: xs')
    (hx : a.eval x = ptrB b) {vs : List SV} (hreps : RepSs p w (xs'.map a.eval) vs) {q0 q1 : List AC} {r : AV} (hcall : ct f q0 vs = some (r, q1)) (htk : TK p w Own b q0) (hz : Zp p w) (hsz : a.tmps.size = s.σ.length) :
    Does P o a w fun v w' => ∃ p' w1, OpPost L S q o a p w1 (s.put o.dst r) v p' w' ∧ Evo (· = b) p w p w1 ∧ w1.heap.size = w.heap.size ∧ TK p' w' Own b q1 := by
  obtain ⟨htakes, hC1⟩ := hC f hf
  obtain ⟨⟨_, fn, f1, f2, f3⟩, hc⟩ := hC1 q0 vs (r, q1) hcall
  have hcalls := hc p w b (xs'.map a.eval) hreps hz (htk.own (fun h => h))
  have hargs : xs.map a.eval = (ptrB b :: xs'.map a.eval).toArray := by
    apply Array.ext'
    simp [hxs, hx]
  refine does_call (f := f) (args := xs.map a.eval) ?_ ?_
  · have f3' : ¬ fn.name = "runtime.NumGoroutine" := by simpa using f3
    have hne : fn.body ≠ none := by cases h : fn.body <;> simp [h] at f2 ⊢
    simp [execOp, hop, resolve, invoke, Act.eval, Deferred.ofValue, callFunc, f1, f3', hne]
  · rw [hargs]
    refine hcalls.mono ?_
    rintro e w' ⟨v, rfl, p', hsr, hnb, hnu, hev, hz', hT', hg1, hg2⟩
    obtain ⟨arr, ty, hx', _⟩ := hT'.cells
    have heats : eats L S o = [] := by simp [eats, hop, htakes]
    have hfr : fresh L S o = (S.sg f).gives := by simp [fresh, hop]
    have hmv : moved L q o = [] := by simp [moved, hop]
    have he1 := evo_off hev htk.lt htk.pz hT'.pz hx'
    have hs1 := withBlock_size w b (.cells arr ty (0, 0))
    refine ⟨v, rfl, p', World.withBlock w b (.cells arr ty (0, 0)), ⟨he1.weaken (fun _ _ h => h.elim), hz', slot_value hsz hsr, bx_put hnb, kind_put hnu, ?_, ?_, by rw [hmv]; simp⟩, evo_with _ htk.pz, hs1, hT'.own htk.not⟩
    · rw [hfr]
      intro e he
      obtain ⟨u, h1, h2, h3⟩ := hg1 e he
      exact ⟨u, h1, h2, fun c hc => .inl (by rw [hs1]; exact h3 c hc)⟩
    · rw [hfr]
      intro e e' u u' c he he' hne h1 h2 h3
      exact hg2 e e' u u' c he he' hne h1 h2 h3
end
end Go.Proofs.Ytbodfaghedolbaa

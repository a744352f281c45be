/- The seat's types and functions: what is laid, and that every function keeps to its room. MADE BY mkseat.py. -/
import Derived.Test.YthfihhejbplmfaaGreatNz
import Derived.Test.YthfihhejbplmfaaGreatProg
namespace Go.Proofs.YthfihhejbplmfaaGreat
open Go
def lay : Lay := ⟨[(3, ⟨0, 1, [.int 0], [], 0⟩), (4, ⟨1, 1, [.bool false], [], 0⟩), (22, ⟨2, 1, [.sl 3 []], [], 68⟩), (23, ⟨2, 1, [.sl 5 []], [], 72⟩), (25, ⟨3, 2, [.sl 3 [], .sl 5 []], [(0, 1), (1, 1)], 0⟩), (26, ⟨2, 1, [.sl 1 []], [], 3⟩), (27, ⟨2, 1, [.sl 3 []], [], 75⟩), (28, ⟨2, 1, [.sl 6 []], [], 78⟩), (30, ⟨3, 7, [.int 0, .int 0, .int 0, .int 0, .sl 1 [], .sl 3 [], .sl 6 []], [(0, 1), (1, 1), (2, 1), (3, 1), (4, 1), (5, 1), (6, 1)], 0⟩), (34, ⟨2, 1, [.sl 3 []], [], 84⟩), (35, ⟨2, 1, [.sl 5 []], [], 88⟩), (37, ⟨3, 2, [.sl 3 [], .sl 5 []], [(0, 1), (1, 1)], 0⟩), (39, ⟨2, 1, [.sl 3 []], [], 90⟩), (40, ⟨2, 1, [.sl 6 []], [], 92⟩), (42, ⟨3, 7, [.int 0, .int 0, .int 0, .int 0, .sl 1 [], .sl 3 [], .sl 6 []], [(0, 1), (1, 1), (2, 1), (3, 1), (4, 1), (5, 1), (6, 1)], 0⟩), (66, ⟨2, 1, [.sl 1 []], [], 140⟩), (68, ⟨3, 3, [.int 0, .int 0, .sl 1 []], [(0, 1), (1, 1), (2, 1)], 0⟩), (70, ⟨2, 1, [.sl 6 []], [], 142⟩), (72, ⟨3, 5, [.sl 1 [], .sl 1 [], .int 0, .int 0, .sl 6 []], [(0, 1), (1, 1), (2, 1), (3, 1), (4, 1)], 0⟩), (75, ⟨3, 3, [.int 0, .int 0, .sl 1 []], [(0, 1), (1, 1), (2, 1)], 0⟩), (78, ⟨3, 6, [.int 0, .int 0, .int 0, .sl 1 [], .sl 1 [], .sl 1 []], [(0, 1), (1, 1), (2, 1), (3, 1), (4, 1), (5, 1)], 0⟩), (82, ⟨2, 1, [.sl 1 []], [], 153⟩), (84, ⟨3, 3, [.int 0, .int 0, .sl 1 []], [(0, 1), (1, 1), (2, 1)], 0⟩), (86, ⟨2, 1, [.sl 6 []], [], 132⟩), (88, ⟨3, 5, [.sl 1 [], .sl 1 [], .int 0, .int 0, .sl 6 []], [(0, 1), (1, 1), (2, 1), (3, 1), (4, 1)], 0⟩), (90, ⟨3, 3, [.int 0, .int 0, .sl 1 []], [(0, 1), (1, 1), (2, 1)], 0⟩), (92, ⟨3, 6, [.int 0, .int 0, .int 0, .sl 1 [], .sl 1 [], .sl 1 []], [(0, 1), (1, 1), (2, 1), (3, 1), (4, 1), (5, 1)], 0⟩), (94, ⟨2, 1, [.sl 5 []], [], 127⟩), (96, ⟨3, 2, [.sl 3 [], .sl 5 []], [(0, 1), (1, 1)], 0⟩), (114, ⟨2, 1, [.sl 5 []], [], 148⟩), (116, ⟨3, 2, [.sl 3 [], .sl 5 []], [(0, 1), (1, 1)], 0⟩), (123, ⟨2, 1, [.sl 5 []], [], 190⟩), (125, ⟨3, 2, [.sl 5 [], .int 0], [(0, 1), (1, 1)], 0⟩), (127, ⟨3, 5, [.sl 1 [], .sl 1 [], .int 0, .sl 5 [], .int 0], [(0, 1), (1, 1), (2, 1), (3, 2)], 0⟩), (132, ⟨3, 6, [.int 0, .int 0, .int 0, .int 0, .sl 1 [], .sl 1 []], [(0, 1), (1, 1), (2, 1), (3, 1), (4, 1), (5, 1)], 0⟩), (140, ⟨3, 1, [.sl 1 []], [(0, 1)], 0⟩), (142, ⟨3, 6, [.int 0, .int 0, .int 0, .int 0, .sl 1 [], .sl 1 []], [(0, 1), (1, 1), (2, 1), (3, 1), (4, 1), (5, 1)], 0⟩), (144, ⟨2, 1, [.sl 3 []], [], 146⟩), (146, ⟨3, 3, [.int 0, .int 0, .sl 3 []], [(0, 1), (1, 1), (2, 1)], 0⟩), (148, ⟨3, 5, [.sl 1 [], .int 0, .int 0, .int 0, .sl 3 []], [(0, 1), (1, 1), (2, 3)], 0⟩), (151, ⟨2, 1, [.sl 1 []], [], 4⟩), (153, ⟨3, 1, [.sl 1 []], [(0, 1)], 0⟩), (188, ⟨2, 1, [.sl 2 []], [], 125⟩), (190, ⟨3, 5, [.int 0, .int 0, .int 0, .sl 1 [], .sl 2 []], [(0, 1), (1, 1), (2, 1), (3, 1), (4, 1)], 0⟩)], [(0, 9), (0, 10), (0, 11), (56, 12), (85, 14)], [12, 13, 14, 15, 16, 25, 28, 29, 30, 31, 32, 39, 40, 52, 54, 56, 57, 64, 65, 69, 71, 72, 82, 83, 86, 87, 88, 89, 90, 92, 93, 94, 96, 97, 98, 99, 102, 103, 109, 110, 111, 112, 114, 116, 120, 121, 122, 123, 124, 128, 132, 133, 134, 135, 136], [(34, 13, [3]), (73, 24, [3]), (36, 24, [3])]⟩
theorem lay_ok : LayOk Tryz.prog lay := layChk_ok (by kernel_rfl)
def sig : Sig := [(3, ⟨[], []⟩), (4, ⟨[], []⟩), (5, ⟨[], []⟩), (6, ⟨[], []⟩), (7, ⟨[], []⟩), (8, ⟨[], []⟩), (9, ⟨[], []⟩), (10, ⟨[], []⟩), (11, ⟨[], []⟩), (12, ⟨[], []⟩), (13, ⟨[], []⟩), (14, ⟨[], []⟩), (15, ⟨[], []⟩), (16, ⟨[], []⟩), (17, ⟨[], []⟩), (23, ⟨[], []⟩), (24, ⟨[], []⟩), (25, ⟨[], []⟩), (26, ⟨[], []⟩), (27, ⟨[], []⟩), (28, ⟨[], []⟩), (29, ⟨[], []⟩), (30, ⟨[], []⟩), (31, ⟨[], []⟩), (32, ⟨[], []⟩), (33, ⟨[], []⟩), (34, ⟨[], []⟩), (35, ⟨[], []⟩), (36, ⟨[], []⟩), (37, ⟨[], []⟩), (38, ⟨[], []⟩), (39, ⟨[], []⟩), (40, ⟨[], []⟩), (41, ⟨[], []⟩), (42, ⟨[], []⟩), (43, ⟨[], []⟩), (44, ⟨[], []⟩), (45, ⟨[], []⟩), (46, ⟨[], []⟩), (47, ⟨[], []⟩), (48, ⟨[], []⟩), (49, ⟨[], []⟩), (50, ⟨[], []⟩), (51, ⟨[], []⟩), (52, ⟨[], []⟩), (53, ⟨[], []⟩), (54, ⟨[], []⟩), (55, ⟨[], [(0, 1)]⟩), (56, ⟨[], []⟩), (57, ⟨[], []⟩), (58, ⟨[], []⟩), (59, ⟨[], []⟩), (60, ⟨[], []⟩), (61, ⟨[], []⟩), (62, ⟨[], []⟩), (63, ⟨[], []⟩), (64, ⟨[], []⟩), (65, ⟨[], []⟩), (66, ⟨[], []⟩), (67, ⟨[], []⟩), (68, ⟨[], []⟩), (69, ⟨[], []⟩), (70, ⟨[], [(0, 1)]⟩), (71, ⟨[], []⟩), (72, ⟨[], []⟩), (73, ⟨[], []⟩), (74, ⟨[], [(0, 1)]⟩), (77, ⟨[], []⟩), (78, ⟨[], []⟩), (79, ⟨[], []⟩), (80, ⟨[], []⟩), (81, ⟨[], []⟩), (82, ⟨[], []⟩), (83, ⟨[], []⟩), (84, ⟨[], [(0, 1)]⟩), (85, ⟨[], []⟩), (86, ⟨[], []⟩), (87, ⟨[], []⟩), (88, ⟨[], []⟩), (89, ⟨[], []⟩), (90, ⟨[], []⟩), (91, ⟨[], []⟩), (92, ⟨[], []⟩), (93, ⟨[], []⟩), (94, ⟨[], []⟩), (95, ⟨[], []⟩), (96, ⟨[], []⟩), (97, ⟨[], []⟩), (98, ⟨[], []⟩), (99, ⟨[], []⟩), (100, ⟨[], []⟩), (101, ⟨[], []⟩), (102, ⟨[], []⟩), (103, ⟨[], []⟩), (104, ⟨[], []⟩), (105, ⟨[], []⟩), (106, ⟨[], []⟩), (107, ⟨[], []⟩), (108, ⟨[], []⟩), (109, ⟨[], []⟩), (110, ⟨[], []⟩), (111, ⟨[], []⟩), (112, ⟨[], []⟩), (113, ⟨[], []⟩), (114, ⟨[], []⟩), (115, ⟨[], []⟩), (116, ⟨[], []⟩), (117, ⟨[], []⟩), (118, ⟨[], []⟩), (119, ⟨[], [(0, 1)]⟩), (120, ⟨[], []⟩), (121, ⟨[], []⟩), (122, ⟨[], []⟩), (123, ⟨[], []⟩), (124, ⟨[], []⟩), (125, ⟨[], []⟩), (126, ⟨[], []⟩), (127, ⟨[], []⟩), (128, ⟨[], []⟩), (129, ⟨[], []⟩), (130, ⟨[], []⟩), (131, ⟨[], []⟩), (132, ⟨[], []⟩), (133, ⟨[], []⟩), (134, ⟨[], []⟩), (135, ⟨[], []⟩), (136, ⟨[], []⟩)]
theorem orders_ok : Tryz.prog.follows .mixedOrders = true := by kernel_rfl
theorem fn_ok3 : fnOk drawn lay sig Tryz.f3 (sig.sg 3) = true := by kernel_rfl
theorem fn_ok4 : fnOk drawn lay sig Tryz.f4 (sig.sg 4) = true := by kernel_rfl
theorem fn_ok5 : fnOk drawn lay sig Tryz.f5 (sig.sg 5) = true := by kernel_rfl
theorem fn_ok6 : fnOk drawn lay sig Tryz.f6 (sig.sg 6) = true := by kernel_rfl
theorem fn_ok7 : fnOk drawn lay sig Tryz.f7 (sig.sg 7) = true := by kernel_rfl
theorem fn_ok8 : fnOk drawn lay sig Tryz.f8 (sig.sg 8) = true := by kernel_rfl
theorem fn_ok9 : fnOk drawn lay sig Tryz.f9 (sig.sg 9) = true := by kernel_rfl
theorem fn_ok10 : fnOk drawn lay sig Tryz.f10 (sig.sg 10) = true := by kernel_rfl
theorem fn_ok11 : fnOk drawn lay sig Tryz.f11 (sig.sg 11) = true := by kernel_rfl
theorem fn_ok12 : fnOk drawn lay sig Tryz.f12 (sig.sg 12) = true := by kernel_rfl
theorem fn_ok13 : fnOk drawn lay sig Tryz.f13 (sig.sg 13) = true := by kernel_rfl
theorem fn_ok14 : fnOk drawn lay sig Tryz.f14 (sig.sg 14) = true := by kernel_rfl
theorem fn_ok15 : fnOk drawn lay sig Tryz.f15 (sig.sg 15) = true := by kernel_rfl
theorem fn_ok16 : fnOk drawn lay sig Tryz.f16 (sig.sg 16) = true := by kernel_rfl
theorem fn_ok17 : fnOk drawn lay sig Tryz.f17 (sig.sg 17) = true := by kernel_rfl
theorem fn_ok23 : fnOk drawn lay sig Tryz.f23 (sig.sg 23) = true := by kernel_rfl
theorem fn_ok24 : fnOk drawn lay sig Tryz.f24 (sig.sg 24) = true := by kernel_rfl
theorem fn_ok25 : fnOk drawn lay sig Tryz.f25 (sig.sg 25) = true := by kernel_rfl
theorem fn_ok26 : fnOk drawn lay sig Tryz.f26 (sig.sg 26) = true := by kernel_rfl
theorem fn_ok27 : fnOk drawn lay sig Tryz.f27 (sig.sg 27) = true := by kernel_rfl
theorem fn_ok28 : fnOk drawn lay sig Tryz.f28 (sig.sg 28) = true := by kernel_rfl
theorem fn_ok29 : fnOk drawn lay sig Tryz.f29 (sig.sg 29) = true := by kernel_rfl
theorem fn_ok30 : fnOk drawn lay sig Tryz.f30 (sig.sg 30) = true := by kernel_rfl
theorem fn_ok31 : fnOk drawn lay sig Tryz.f31 (sig.sg 31) = true := by kernel_rfl
theorem fn_ok32 : fnOk drawn lay sig Tryz.f32 (sig.sg 32) = true := by kernel_rfl
theorem fn_ok33 : fnOk drawn lay sig Tryz.f33 (sig.sg 33) = true := by kernel_rfl
theorem fn_ok34 : fnOk drawn lay sig Tryz.f34 (sig.sg 34) = true := by kernel_rfl
theorem fn_ok35 : fnOk drawn lay sig Tryz.f35 (sig.sg 35) = true := by kernel_rfl
theorem fn_ok36 : fnOk drawn lay sig Tryz.f36 (sig.sg 36) = true := by kernel_rfl
theorem fn_ok37 : fnOk drawn lay sig Tryz.f37 (sig.sg 37) = true := by kernel_rfl
theorem fn_ok38 : fnOk drawn lay sig Tryz.f38 (sig.sg 38) = true := by kernel_rfl
theorem fn_ok39 : fnOk drawn lay sig Tryz.f39 (sig.sg 39) = true := by kernel_rfl
theorem fn_ok40 : fnOk drawn lay sig Tryz.f40 (sig.sg 40) = true := by kernel_rfl
theorem fn_ok41 : fnOk drawn lay sig Tryz.f41 (sig.sg 41) = true := by kernel_rfl
theorem fn_ok42 : fnOk drawn lay sig Tryz.f42 (sig.sg 42) = true := by kernel_rfl
theorem fn_ok43 : fnOk drawn lay sig Tryz.f43 (sig.sg 43) = true := by kernel_rfl
theorem fn_ok44 : fnOk drawn lay sig Tryz.f44 (sig.sg 44) = true := by kernel_rfl
theorem fn_ok45 : fnOk drawn lay sig Tryz.f45 (sig.sg 45) = true := by kernel_rfl
theorem fn_ok46 : fnOk drawn lay sig Tryz.f46 (sig.sg 46) = true := by kernel_rfl
theorem fn_ok47 : fnOk drawn lay sig Tryz.f47 (sig.sg 47) = true := by kernel_rfl
theorem fn_ok48 : fnOk drawn lay sig Tryz.f48 (sig.sg 48) = true := by kernel_rfl
theorem fn_ok49 : fnOk drawn lay sig Tryz.f49 (sig.sg 49) = true := by kernel_rfl
theorem fn_ok50 : fnOk drawn lay sig Tryz.f50 (sig.sg 50) = true := by kernel_rfl
theorem fn_ok51 : fnOk drawn lay sig Tryz.f51 (sig.sg 51) = true := by kernel_rfl
theorem fn_ok52 : fnOk drawn lay sig Tryz.f52 (sig.sg 52) = true := by kernel_rfl
theorem fn_ok53 : fnOk drawn lay sig Tryz.f53 (sig.sg 53) = true := by kernel_rfl
theorem fn_ok54 : fnOk drawn lay sig Tryz.f54 (sig.sg 54) = true := by kernel_rfl
theorem fn_ok55 : fnOk drawn lay sig Tryz.f55 (sig.sg 55) = true := by kernel_rfl
theorem fn_ok56 : fnOk drawn lay sig Tryz.f56 (sig.sg 56) = true := by kernel_rfl
theorem fn_ok57 : fnOk drawn lay sig Tryz.f57 (sig.sg 57) = true := by kernel_rfl
theorem fn_ok58 : fnOk drawn lay sig Tryz.f58 (sig.sg 58) = true := by kernel_rfl
theorem fn_ok59 : fnOk drawn lay sig Tryz.f59 (sig.sg 59) = true := by kernel_rfl
theorem fn_ok60 : fnOk drawn lay sig Tryz.f60 (sig.sg 60) = true := by kernel_rfl
theorem fn_ok61 : fnOk drawn lay sig Tryz.f61 (sig.sg 61) = true := by kernel_rfl
theorem fn_ok62 : fnOk drawn lay sig Tryz.f62 (sig.sg 62) = true := by kernel_rfl
theorem fn_ok63 : fnOk drawn lay sig Tryz.f63 (sig.sg 63) = true := by kernel_rfl
theorem fn_ok64 : fnOk drawn lay sig Tryz.f64 (sig.sg 64) = true := by kernel_rfl
theorem fn_ok65 : fnOk drawn lay sig Tryz.f65 (sig.sg 65) = true := by kernel_rfl
theorem fn_ok66 : fnOk drawn lay sig Tryz.f66 (sig.sg 66) = true := by kernel_rfl
theorem fn_ok67 : fnOk drawn lay sig Tryz.f67 (sig.sg 67) = true := by kernel_rfl
theorem fn_ok68 : fnOk drawn lay sig Tryz.f68 (sig.sg 68) = true := by kernel_rfl
theorem fn_ok69 : fnOk drawn lay sig Tryz.f69 (sig.sg 69) = true := by kernel_rfl
theorem fn_ok70 : fnOk drawn lay sig Tryz.f70 (sig.sg 70) = true := by kernel_rfl
theorem fn_ok71 : fnOk drawn lay sig Tryz.f71 (sig.sg 71) = true := by kernel_rfl
theorem fn_ok72 : fnOk drawn lay sig Tryz.f72 (sig.sg 72) = true := by kernel_rfl
theorem fn_ok73 : fnOk drawn lay sig Tryz.f73 (sig.sg 73) = true := by kernel_rfl
theorem fn_ok74 : fnOk drawn lay sig Tryz.f74 (sig.sg 74) = true := by kernel_rfl
theorem fn_ok77 : fnOk drawn lay sig Tryz.f77 (sig.sg 77) = true := by kernel_rfl
theorem fn_ok78 : fnOk drawn lay sig Tryz.f78 (sig.sg 78) = true := by kernel_rfl
theorem fn_ok79 : fnOk drawn lay sig Tryz.f79 (sig.sg 79) = true := by kernel_rfl
theorem fn_ok80 : fnOk drawn lay sig Tryz.f80 (sig.sg 80) = true := by kernel_rfl
theorem fn_ok81 : fnOk drawn lay sig Tryz.f81 (sig.sg 81) = true := by kernel_rfl
theorem fn_ok82 : fnOk drawn lay sig Tryz.f82 (sig.sg 82) = true := by kernel_rfl
theorem fn_ok83 : fnOk drawn lay sig Tryz.f83 (sig.sg 83) = true := by kernel_rfl
theorem fn_ok84 : fnOk drawn lay sig Tryz.f84 (sig.sg 84) = true := by kernel_rfl
theorem fn_ok85 : fnOk drawn lay sig Tryz.f85 (sig.sg 85) = true := by kernel_rfl
theorem fn_ok86 : fnOk drawn lay sig Tryz.f86 (sig.sg 86) = true := by kernel_rfl
theorem fn_ok87 : fnOk drawn lay sig Tryz.f87 (sig.sg 87) = true := by kernel_rfl
theorem fn_ok88 : fnOk drawn lay sig Tryz.f88 (sig.sg 88) = true := by kernel_rfl
theorem fn_ok89 : fnOk drawn lay sig Tryz.f89 (sig.sg 89) = true := by kernel_rfl
theorem fn_ok90 : fnOk drawn lay sig Tryz.f90 (sig.sg 90) = true := by kernel_rfl
theorem fn_ok91 : fnOk drawn lay sig Tryz.f91 (sig.sg 91) = true := by kernel_rfl
theorem fn_ok92 : fnOk drawn lay sig Tryz.f92 (sig.sg 92) = true := by kernel_rfl
theorem fn_ok93 : fnOk drawn lay sig Tryz.f93 (sig.sg 93) = true := by kernel_rfl
theorem fn_ok94 : fnOk drawn lay sig Tryz.f94 (sig.sg 94) = true := by kernel_rfl
theorem fn_ok95 : fnOk drawn lay sig Tryz.f95 (sig.sg 95) = true := by kernel_rfl
theorem fn_ok96 : fnOk drawn lay sig Tryz.f96 (sig.sg 96) = true := by kernel_rfl
theorem fn_ok97 : fnOk drawn lay sig Tryz.f97 (sig.sg 97) = true := by kernel_rfl
theorem fn_ok98 : fnOk drawn lay sig Tryz.f98 (sig.sg 98) = true := by kernel_rfl
theorem fn_ok99 : fnOk drawn lay sig Tryz.f99 (sig.sg 99) = true := by kernel_rfl
theorem fn_ok100 : fnOk drawn lay sig Tryz.f100 (sig.sg 100) = true := by kernel_rfl
theorem fn_ok101 : fnOk drawn lay sig Tryz.f101 (sig.sg 101) = true := by kernel_rfl
theorem fn_ok102 : fnOk drawn lay sig Tryz.f102 (sig.sg 102) = true := by kernel_rfl
theorem fn_ok103 : fnOk drawn lay sig Tryz.f103 (sig.sg 103) = true := by kernel_rfl
theorem fn_ok104 : fnOk drawn lay sig Tryz.f104 (sig.sg 104) = true := by kernel_rfl
theorem fn_ok105 : fnOk drawn lay sig Tryz.f105 (sig.sg 105) = true := by kernel_rfl
theorem fn_ok106 : fnOk drawn lay sig Tryz.f106 (sig.sg 106) = true := by kernel_rfl
theorem fn_ok107 : fnOk drawn lay sig Tryz.f107 (sig.sg 107) = true := by kernel_rfl
theorem fn_ok108 : fnOk drawn lay sig Tryz.f108 (sig.sg 108) = true := by kernel_rfl
theorem fn_ok109 : fnOk drawn lay sig Tryz.f109 (sig.sg 109) = true := by kernel_rfl
theorem fn_ok110 : fnOk drawn lay sig Tryz.f110 (sig.sg 110) = true := by kernel_rfl
theorem fn_ok111 : fnOk drawn lay sig Tryz.f111 (sig.sg 111) = true := by kernel_rfl
theorem fn_ok112 : fnOk drawn lay sig Tryz.f112 (sig.sg 112) = true := by kernel_rfl
theorem fn_ok113 : fnOk drawn lay sig Tryz.f113 (sig.sg 113) = true := by kernel_rfl
theorem fn_ok114 : fnOk drawn lay sig Tryz.f114 (sig.sg 114) = true := by kernel_rfl
theorem fn_ok115 : fnOk drawn lay sig Tryz.f115 (sig.sg 115) = true := by kernel_rfl
theorem fn_ok116 : fnOk drawn lay sig Tryz.f116 (sig.sg 116) = true := by kernel_rfl
theorem fn_ok117 : fnOk drawn lay sig Tryz.f117 (sig.sg 117) = true := by kernel_rfl
theorem fn_ok118 : fnOk drawn lay sig Tryz.f118 (sig.sg 118) = true := by kernel_rfl
theorem fn_ok119 : fnOk drawn lay sig Tryz.f119 (sig.sg 119) = true := by kernel_rfl
theorem fn_ok120 : fnOk drawn lay sig Tryz.f120 (sig.sg 120) = true := by kernel_rfl
theorem fn_ok121 : fnOk drawn lay sig Tryz.f121 (sig.sg 121) = true := by kernel_rfl
theorem fn_ok122 : fnOk drawn lay sig Tryz.f122 (sig.sg 122) = true := by kernel_rfl
theorem fn_ok123 : fnOk drawn lay sig Tryz.f123 (sig.sg 123) = true := by kernel_rfl
theorem fn_ok124 : fnOk drawn lay sig Tryz.f124 (sig.sg 124) = true := by kernel_rfl
theorem fn_ok125 : fnOk drawn lay sig Tryz.f125 (sig.sg 125) = true := by kernel_rfl
theorem fn_ok126 : fnOk drawn lay sig Tryz.f126 (sig.sg 126) = true := by kernel_rfl
theorem fn_ok127 : fnOk drawn lay sig Tryz.f127 (sig.sg 127) = true := by kernel_rfl
theorem fn_ok128 : fnOk drawn lay sig Tryz.f128 (sig.sg 128) = true := by kernel_rfl
theorem fn_ok129 : fnOk drawn lay sig Tryz.f129 (sig.sg 129) = true := by kernel_rfl
theorem fn_ok130 : fnOk drawn lay sig Tryz.f130 (sig.sg 130) = true := by kernel_rfl
theorem fn_ok131 : fnOk drawn lay sig Tryz.f131 (sig.sg 131) = true := by kernel_rfl
theorem fn_ok132 : fnOk drawn lay sig Tryz.f132 (sig.sg 132) = true := by kernel_rfl
theorem fn_ok133 : fnOk drawn lay sig Tryz.f133 (sig.sg 133) = true := by kernel_rfl
theorem fn_ok134 : fnOk drawn lay sig Tryz.f134 (sig.sg 134) = true := by kernel_rfl
theorem fn_ok135 : fnOk drawn lay sig Tryz.f135 (sig.sg 135) = true := by kernel_rfl
theorem fn_ok136 : fnOk drawn lay sig Tryz.f136 (sig.sg 136) = true := by kernel_rfl
theorem sig_ok : ∀ f, sig.has f = true → ∃ fn, Tryz.prog.funcs[f]? = some fn ∧ fnOk drawn lay sig fn (sig.sg f) = true := by
  intro f hf
  have hm : f ∈ [3, 4, 5, 6, 7, 8, 9, 10, 11, 12, 13, 14, 15, 16, 17, 23, 24, 25, 26, 27, 28, 29, 30, 31, 32, 33, 34, 35, 36, 37, 38, 39, 40, 41, 42, 43, 44, 45, 46, 47, 48, 49, 50, 51, 52, 53, 54, 55, 56, 57, 58, 59, 60, 61, 62, 63, 64, 65, 66, 67, 68, 69, 70, 71, 72, 73, 74, 77, 78, 79, 80, 81, 82, 83, 84, 85, 86, 87, 88, 89, 90, 91, 92, 93, 94, 95, 96, 97, 98, 99, 100, 101, 102, 103, 104, 105, 106, 107, 108, 109, 110, 111, 112, 113, 114, 115, 116, 117, 118, 119, 120, 121, 122, 123, 124, 125, 126, 127, 128, 129, 130, 131, 132, 133, 134, 135, 136] := by
    unfold Sig.has at hf
    obtain ⟨x, hx⟩ := Option.isSome_iff_exists.1 hf
    have := mem_of_lookup hx
    have h2 : f ∈ sig.map (·.1) := List.mem_map.2 ⟨_, this, rfl⟩
    exact h2
  simp only [List.mem_cons, List.not_mem_nil, or_false] at hm
  rcases hm with rfl | rfl | rfl | rfl | rfl | rfl | rfl | rfl | rfl | rfl | rfl | rfl | rfl | rfl | rfl | rfl | rfl | rfl | rfl | rfl | rfl | rfl | rfl | rfl | rfl | rfl | rfl | rfl | rfl | rfl | rfl | rfl | rfl | rfl | rfl | rfl | rfl | rfl | rfl | rfl | rfl | rfl | rfl | rfl | rfl | rfl | rfl | rfl | rfl | rfl | rfl | rfl | rfl | rfl | rfl | rfl | rfl | rfl | rfl | rfl | rfl | rfl | rfl | rfl | rfl | rfl | rfl | rfl | rfl | rfl | rfl | rfl | rfl | rfl | rfl | rfl | rfl | rfl | rfl | rfl | rfl | rfl | rfl | rfl | rfl | rfl | rfl | rfl | rfl | rfl | rfl | rfl | rfl | rfl | rfl | rfl | rfl | rfl | rfl | rfl | rfl | rfl | rfl | rfl | rfl | rfl | rfl | rfl | rfl | rfl | rfl | rfl | rfl | rfl | rfl | rfl | rfl | rfl | rfl | rfl | rfl | rfl | rfl | rfl | rfl | rfl | rfl
  · exact ⟨_, Tryz.func3, fn_ok3⟩
  · exact ⟨_, Tryz.func4, fn_ok4⟩
  · exact ⟨_, Tryz.func5, fn_ok5⟩
  · exact ⟨_, Tryz.func6, fn_ok6⟩
  · exact ⟨_, Tryz.func7, fn_ok7⟩
  · exact ⟨_, Tryz.func8, fn_ok8⟩
  · exact ⟨_, Tryz.func9, fn_ok9⟩
  · exact ⟨_, Tryz.func10, fn_ok10⟩
  · exact ⟨_, Tryz.func11, fn_ok11⟩
  · exact ⟨_, Tryz.func12, fn_ok12⟩
  · exact ⟨_, Tryz.func13, fn_ok13⟩
  · exact ⟨_, Tryz.func14, fn_ok14⟩
  · exact ⟨_, Tryz.func15, fn_ok15⟩
  · exact ⟨_, Tryz.func16, fn_ok16⟩
  · exact ⟨_, Tryz.func17, fn_ok17⟩
  · exact ⟨_, Tryz.func23, fn_ok23⟩
  · exact ⟨_, Tryz.func24, fn_ok24⟩
  · exact ⟨_, Tryz.func25, fn_ok25⟩
  · exact ⟨_, Tryz.func26, fn_ok26⟩
  · exact ⟨_, Tryz.func27, fn_ok27⟩
  · exact ⟨_, Tryz.func28, fn_ok28⟩
  · exact ⟨_, Tryz.func29, fn_ok29⟩
  · exact ⟨_, Tryz.func30, fn_ok30⟩
  · exact ⟨_, Tryz.func31, fn_ok31⟩
  · exact ⟨_, Tryz.func32, fn_ok32⟩
  · exact ⟨_, Tryz.func33, fn_ok33⟩
  · exact ⟨_, Tryz.func34, fn_ok34⟩
  · exact ⟨_, Tryz.func35, fn_ok35⟩
  · exact ⟨_, Tryz.func36, fn_ok36⟩
  · exact ⟨_, Tryz.func37, fn_ok37⟩
  · exact ⟨_, Tryz.func38, fn_ok38⟩
  · exact ⟨_, Tryz.func39, fn_ok39⟩
  · exact ⟨_, Tryz.func40, fn_ok40⟩
  · exact ⟨_, Tryz.func41, fn_ok41⟩
  · exact ⟨_, Tryz.func42, fn_ok42⟩
  · exact ⟨_, Tryz.func43, fn_ok43⟩
  · exact ⟨_, Tryz.func44, fn_ok44⟩
  · exact ⟨_, Tryz.func45, fn_ok45⟩
  · exact ⟨_, Tryz.func46, fn_ok46⟩
  · exact ⟨_, Tryz.func47, fn_ok47⟩
  · exact ⟨_, Tryz.func48, fn_ok48⟩
  · exact ⟨_, Tryz.func49, fn_ok49⟩
  · exact ⟨_, Tryz.func50, fn_ok50⟩
  · exact ⟨_, Tryz.func51, fn_ok51⟩
  · exact ⟨_, Tryz.func52, fn_ok52⟩
  · exact ⟨_, Tryz.func53, fn_ok53⟩
  · exact ⟨_, Tryz.func54, fn_ok54⟩
  · exact ⟨_, Tryz.func55, fn_ok55⟩
  · exact ⟨_, Tryz.func56, fn_ok56⟩
  · exact ⟨_, Tryz.func57, fn_ok57⟩
  · exact ⟨_, Tryz.func58, fn_ok58⟩
  · exact ⟨_, Tryz.func59, fn_ok59⟩
  · exact ⟨_, Tryz.func60, fn_ok60⟩
  · exact ⟨_, Tryz.func61, fn_ok61⟩
  · exact ⟨_, Tryz.func62, fn_ok62⟩
  · exact ⟨_, Tryz.func63, fn_ok63⟩
  · exact ⟨_, Tryz.func64, fn_ok64⟩
  · exact ⟨_, Tryz.func65, fn_ok65⟩
  · exact ⟨_, Tryz.func66, fn_ok66⟩
  · exact ⟨_, Tryz.func67, fn_ok67⟩
  · exact ⟨_, Tryz.func68, fn_ok68⟩
  · exact ⟨_, Tryz.func69, fn_ok69⟩
  · exact ⟨_, Tryz.func70, fn_ok70⟩
  · exact ⟨_, Tryz.func71, fn_ok71⟩
  · exact ⟨_, Tryz.func72, fn_ok72⟩
  · exact ⟨_, Tryz.func73, fn_ok73⟩
  · exact ⟨_, Tryz.func74, fn_ok74⟩
  · exact ⟨_, Tryz.func77, fn_ok77⟩
  · exact ⟨_, Tryz.func78, fn_ok78⟩
  · exact ⟨_, Tryz.func79, fn_ok79⟩
  · exact ⟨_, Tryz.func80, fn_ok80⟩
  · exact ⟨_, Tryz.func81, fn_ok81⟩
  · exact ⟨_, Tryz.func82, fn_ok82⟩
  · exact ⟨_, Tryz.func83, fn_ok83⟩
  · exact ⟨_, Tryz.func84, fn_ok84⟩
  · exact ⟨_, Tryz.func85, fn_ok85⟩
  · exact ⟨_, Tryz.func86, fn_ok86⟩
  · exact ⟨_, Tryz.func87, fn_ok87⟩
  · exact ⟨_, Tryz.func88, fn_ok88⟩
  · exact ⟨_, Tryz.func89, fn_ok89⟩
  · exact ⟨_, Tryz.func90, fn_ok90⟩
  · exact ⟨_, Tryz.func91, fn_ok91⟩
  · exact ⟨_, Tryz.func92, fn_ok92⟩
  · exact ⟨_, Tryz.func93, fn_ok93⟩
  · exact ⟨_, Tryz.func94, fn_ok94⟩
  · exact ⟨_, Tryz.func95, fn_ok95⟩
  · exact ⟨_, Tryz.func96, fn_ok96⟩
  · exact ⟨_, Tryz.func97, fn_ok97⟩
  · exact ⟨_, Tryz.func98, fn_ok98⟩
  · exact ⟨_, Tryz.func99, fn_ok99⟩
  · exact ⟨_, Tryz.func100, fn_ok100⟩
  · exact ⟨_, Tryz.func101, fn_ok101⟩
  · exact ⟨_, Tryz.func102, fn_ok102⟩
  · exact ⟨_, Tryz.func103, fn_ok103⟩
  · exact ⟨_, Tryz.func104, fn_ok104⟩
  · exact ⟨_, Tryz.func105, fn_ok105⟩
  · exact ⟨_, Tryz.func106, fn_ok106⟩
  · exact ⟨_, Tryz.func107, fn_ok107⟩
  · exact ⟨_, Tryz.func108, fn_ok108⟩
  · exact ⟨_, Tryz.func109, fn_ok109⟩
  · exact ⟨_, Tryz.func110, fn_ok110⟩
  · exact ⟨_, Tryz.func111, fn_ok111⟩
  · exact ⟨_, Tryz.func112, fn_ok112⟩
  · exact ⟨_, Tryz.func113, fn_ok113⟩
  · exact ⟨_, Tryz.func114, fn_ok114⟩
  · exact ⟨_, Tryz.func115, fn_ok115⟩
  · exact ⟨_, Tryz.func116, fn_ok116⟩
  · exact ⟨_, Tryz.func117, fn_ok117⟩
  · exact ⟨_, Tryz.func118, fn_ok118⟩
  · exact ⟨_, Tryz.func119, fn_ok119⟩
  · exact ⟨_, Tryz.func120, fn_ok120⟩
  · exact ⟨_, Tryz.func121, fn_ok121⟩
  · exact ⟨_, Tryz.func122, fn_ok122⟩
  · exact ⟨_, Tryz.func123, fn_ok123⟩
  · exact ⟨_, Tryz.func124, fn_ok124⟩
  · exact ⟨_, Tryz.func125, fn_ok125⟩
  · exact ⟨_, Tryz.func126, fn_ok126⟩
  · exact ⟨_, Tryz.func127, fn_ok127⟩
  · exact ⟨_, Tryz.func128, fn_ok128⟩
  · exact ⟨_, Tryz.func129, fn_ok129⟩
  · exact ⟨_, Tryz.func130, fn_ok130⟩
  · exact ⟨_, Tryz.func131, fn_ok131⟩
  · exact ⟨_, Tryz.func132, fn_ok132⟩
  · exact ⟨_, Tryz.func133, fn_ok133⟩
  · exact ⟨_, Tryz.func134, fn_ok134⟩
  · exact ⟨_, Tryz.func135, fn_ok135⟩
  · exact ⟨_, Tryz.func136, fn_ok136⟩
end Go.Proofs.YthfihhejbplmfaaGreat

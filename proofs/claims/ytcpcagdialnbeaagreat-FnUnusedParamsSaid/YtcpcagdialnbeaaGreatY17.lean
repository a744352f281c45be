/- Generic texts and models for the proofs of this seat: part 17. -/
import Derived.Test.YtcpcagdialnbeaaGreatY16
import Derived.Test.YtcpcagdialnbeaaGreatProg
set_option linter.unusedVariables false
set_option linter.unusedSimpArgs false
namespace Go.Proofs.YtcpcagdialnbeaaGreat
open Go
def lay:Lay:=⟨[(3,⟨0,1,[.int 0],[],0⟩),(4,⟨1,1,[.bool false],[],0⟩),(23,⟨2,1,[.sl 3 []],[],89⟩),(24,⟨2,1,[.sl 5 []],[],40⟩),(26,⟨3,2,[.sl 3 [],.sl 5 []],[(0,1),(1,1)],0⟩),(29,⟨2,1,[.sl 1 []],[],3⟩),(36,⟨2,1,[.sl 3 []],[],38⟩),(38,⟨3,3,[.int 0,.int 0,.sl 3 []],[(0,1),(1,1),(2,1)],0⟩),(40,⟨3,5,[.sl 1 [],.int 0,.int 0,.int 0,.sl 3 []],[(0,1),(1,1),(2,3)],0⟩),(67,⟨3,2,[.sl 1 [],.int 0],[(0,1),(1,1)],0⟩),(76,⟨3,2,[.sl 1 [],.sl 1 []],[(0,1),(1,1)],0⟩),(87,⟨2,1,[.sl 1 []],[],97⟩),(89,⟨3,3,[.int 0,.int 0,.sl 1 []],[(0,1),(1,1),(2,1)],0⟩),(97,⟨3,1,[.sl 1 []],[(0,1)],0⟩)],[(77,6),(98,18)],[12,14,15,19,51,53,66,68,69,70,71,79,80,82,83,84,86,87,88,89,90,95,103,109,110,112,113,114,116,118,119,120,121,122,128,130,131,138,140,142],[]⟩
theorem zfv:LayOk Tryz.prog lay:=zy1 (by kernel_rfl)
def sig:Sig:=[(3,⟨[],[]⟩),(4,⟨[],[]⟩),(5,⟨[],[]⟩),(6,⟨[],[]⟩),(7,⟨[],[]⟩),(8,⟨[],[]⟩),(11,⟨[],[(0,1)]⟩),(12,⟨[],[]⟩),(13,⟨[],[]⟩),(14,⟨[],[]⟩),(15,⟨[],[]⟩),(16,⟨[],[(0,1)]⟩),(17,⟨[],[]⟩),(18,⟨[],[]⟩),(19,⟨[],[]⟩),(20,⟨[],[]⟩),(21,⟨[],[(0,1)]⟩),(22,⟨[],[(0,1)]⟩),(23,⟨[],[]⟩),(24,⟨[],[]⟩),(26,⟨[],[]⟩),(27,⟨[],[]⟩),(28,⟨[],[]⟩),(29,⟨[],[]⟩),(30,⟨[],[]⟩),(31,⟨[],[]⟩),(32,⟨[],[]⟩),(33,⟨[],[]⟩),(34,⟨[],[(2,3)]⟩),(36,⟨[],[]⟩),(37,⟨[],[(2,3)]⟩),(38,⟨[],[]⟩),(39,⟨[],[]⟩),(41,⟨[],[]⟩),(42,⟨[some 1,none],[(0,1)]⟩),(43,⟨[],[]⟩),(44,⟨[],[]⟩),(45,⟨[],[]⟩),(46,⟨[none,some 1],[(0,1)]⟩),(47,⟨[],[]⟩),(48,⟨[],[]⟩),(49,⟨[],[]⟩),(50,⟨[],[]⟩),(51,⟨[],[]⟩),(52,⟨[],[]⟩),(53,⟨[],[]⟩),(54,⟨[],[]⟩),(55,⟨[],[]⟩),(56,⟨[],[]⟩),(57,⟨[],[]⟩),(58,⟨[],[]⟩),(59,⟨[],[(2,3)]⟩),(63,⟨[],[(0,1)]⟩),(64,⟨[],[]⟩),(65,⟨[],[]⟩),(66,⟨[],[]⟩),(67,⟨[],[(0,1)]⟩),(68,⟨[],[]⟩),(69,⟨[],[]⟩),(70,⟨[],[]⟩),(71,⟨[],[]⟩),(72,⟨[],[]⟩),(73,⟨[],[]⟩),(74,⟨[],[(0,1)]⟩),(75,⟨[],[(0,3)]⟩),(76,⟨[],[(0,3)]⟩),(77,⟨[],[]⟩),(78,⟨[],[]⟩),(79,⟨[],[]⟩),(80,⟨[],[]⟩),(81,⟨[],[]⟩),(82,⟨[],[]⟩),(83,⟨[],[]⟩),(84,⟨[],[]⟩),(85,⟨[],[]⟩),(86,⟨[],[]⟩),(87,⟨[],[]⟩),(88,⟨[],[]⟩),(89,⟨[],[]⟩),(90,⟨[],[]⟩),(91,⟨[],[]⟩),(92,⟨[],[]⟩),(93,⟨[],[]⟩),(94,⟨[],[]⟩),(95,⟨[],[]⟩),(96,⟨[],[(0,1)]⟩),(97,⟨[],[(0,3)]⟩),(98,⟨[],[]⟩),(99,⟨[],[(2,3)]⟩),(100,⟨[],[(2,3)]⟩),(101,⟨[],[(0,1)]⟩),(102,⟨[],[]⟩),(103,⟨[],[]⟩),(104,⟨[],[]⟩),(105,⟨[],[]⟩),(106,⟨[],[]⟩),(107,⟨[],[]⟩),(108,⟨[],[]⟩),(109,⟨[],[]⟩),(110,⟨[],[]⟩),(111,⟨[],[(0,1)]⟩),(112,⟨[],[]⟩),(113,⟨[],[]⟩),(114,⟨[],[]⟩),(115,⟨[],[]⟩),(116,⟨[],[]⟩),(117,⟨[],[]⟩),(118,⟨[],[]⟩),(119,⟨[],[]⟩),(120,⟨[],[]⟩),(121,⟨[],[]⟩),(122,⟨[],[]⟩),(123,⟨[],[(2,3)]⟩),(124,⟨[],[]⟩),(125,⟨[],[]⟩),(126,⟨[],[]⟩),(127,⟨[],[(0,1)]⟩),(128,⟨[],[]⟩),(129,⟨[],[]⟩),(130,⟨[],[]⟩),(131,⟨[],[]⟩),(132,⟨[],[(0,3)]⟩),(133,⟨[],[]⟩),(134,⟨[],[(0,1)]⟩),(135,⟨[],[]⟩),(136,⟨[],[]⟩),(137,⟨[],[(0,1)]⟩),(138,⟨[],[]⟩),(139,⟨[],[]⟩),(140,⟨[],[]⟩),(141,⟨[],[(0,1)]⟩),(142,⟨[],[]⟩)]
theorem zcZ:Tryz.prog.follows .mixedOrders = true:=by kernel_rfl
theorem zFi:zar zak lay sig Tryz.f3 (sig.sg 3) = true:=by kernel_rfl
theorem zFN:zar zak lay sig Tryz.f4 (sig.sg 4) = true:=by kernel_rfl
theorem zFm:zar zak lay sig Tryz.f5 (sig.sg 5) = true:=by kernel_rfl
theorem zGb:zar zak lay sig Tryz.f6 (sig.sg 6) = true:=by kernel_rfl
theorem zFP:zar zak lay sig Tryz.f7 (sig.sg 7) = true:=by kernel_rfl
theorem zFZ:zar zak lay sig Tryz.f8 (sig.sg 8) = true:=by kernel_rfl
theorem zEm:zar zak lay sig Tryz.f11 (sig.sg 11) = true:=by kernel_rfl
theorem zCp:zar zak lay sig Tryz.f12 (sig.sg 12) = true:=by kernel_rfl
theorem zC4:zar zak lay sig Tryz.f13 (sig.sg 13) = true:=by kernel_rfl
theorem zDp:zar zak lay sig Tryz.f14 (sig.sg 14) = true:=by kernel_rfl
theorem zDX:zar zak lay sig Tryz.f15 (sig.sg 15) = true:=by kernel_rfl
theorem zCM:zar zak lay sig Tryz.f16 (sig.sg 16) = true:=by kernel_rfl
theorem zDq:zar zak lay sig Tryz.f17 (sig.sg 17) = true:=by kernel_rfl
theorem zDr:zar zak lay sig Tryz.f18 (sig.sg 18) = true:=by kernel_rfl
theorem zDJ:zar zak lay sig Tryz.f19 (sig.sg 19) = true:=by kernel_rfl
theorem zCC:zar zak lay sig Tryz.f20 (sig.sg 20) = true:=by kernel_rfl
theorem zDg:zar zak lay sig Tryz.f21 (sig.sg 21) = true:=by kernel_rfl
theorem zEF:zar zak lay sig Tryz.f22 (sig.sg 22) = true:=by kernel_rfl
theorem zCf:zar zak lay sig Tryz.f23 (sig.sg 23) = true:=by kernel_rfl
theorem zCA:zar zak lay sig Tryz.f24 (sig.sg 24) = true:=by kernel_rfl
theorem zCN:zar zak lay sig Tryz.f26 (sig.sg 26) = true:=by kernel_rfl
theorem zEl:zar zak lay sig Tryz.f27 (sig.sg 27) = true:=by kernel_rfl
theorem zDs:zar zak lay sig Tryz.f28 (sig.sg 28) = true:=by kernel_rfl
theorem zCL:zar zak lay sig Tryz.f29 (sig.sg 29) = true:=by kernel_rfl
theorem zDB:zar zak lay sig Tryz.f30 (sig.sg 30) = true:=by kernel_rfl
theorem zEs:zar zak lay sig Tryz.f31 (sig.sg 31) = true:=by kernel_rfl
theorem zEI:zar zak lay sig Tryz.f32 (sig.sg 32) = true:=by kernel_rfl
theorem zDZ:zar zak lay sig Tryz.f33 (sig.sg 33) = true:=by kernel_rfl
theorem zCO:zar zak lay sig Tryz.f34 (sig.sg 34) = true:=by kernel_rfl
theorem zCI:zar zak lay sig Tryz.f36 (sig.sg 36) = true:=by kernel_rfl
theorem zEx:zar zak lay sig Tryz.f37 (sig.sg 37) = true:=by kernel_rfl
theorem zCs:zar zak lay sig Tryz.f38 (sig.sg 38) = true:=by kernel_rfl
theorem zDY:zar zak lay sig Tryz.f39 (sig.sg 39) = true:=by kernel_rfl
theorem zCU:zar zak lay sig Tryz.f41 (sig.sg 41) = true:=by kernel_rfl
theorem zD1:zar zak lay sig Tryz.f42 (sig.sg 42) = true:=by kernel_rfl
theorem zEN:zar zak lay sig Tryz.f43 (sig.sg 43) = true:=by kernel_rfl
theorem zEe:zar zak lay sig Tryz.f44 (sig.sg 44) = true:=by kernel_rfl
theorem zC0:zar zak lay sig Tryz.f45 (sig.sg 45) = true:=by kernel_rfl
theorem zC6:zar zak lay sig Tryz.f46 (sig.sg 46) = true:=by kernel_rfl
theorem zEi:zar zak lay sig Tryz.f47 (sig.sg 47) = true:=by kernel_rfl
theorem zDK:zar zak lay sig Tryz.f48 (sig.sg 48) = true:=by kernel_rfl
theorem zCx:zar zak lay sig Tryz.f49 (sig.sg 49) = true:=by kernel_rfl
theorem zCQ:zar zak lay sig Tryz.f50 (sig.sg 50) = true:=by kernel_rfl
theorem zCP:zar zak lay sig Tryz.f51 (sig.sg 51) = true:=by kernel_rfl
theorem zEa:zar zak lay sig Tryz.f52 (sig.sg 52) = true:=by kernel_rfl
theorem zD0:zar zak lay sig Tryz.f53 (sig.sg 53) = true:=by kernel_rfl
theorem zC3:zar zak lay sig Tryz.f54 (sig.sg 54) = true:=by kernel_rfl
theorem zDv:zar zak lay sig Tryz.f55 (sig.sg 55) = true:=by kernel_rfl
theorem zEz:zar zak lay sig Tryz.f56 (sig.sg 56) = true:=by kernel_rfl
theorem zEo:zar zak lay sig Tryz.f57 (sig.sg 57) = true:=by kernel_rfl
theorem zCW:zar zak lay sig Tryz.f58 (sig.sg 58) = true:=by kernel_rfl
theorem zDS:zar zak lay sig Tryz.f59 (sig.sg 59) = true:=by kernel_rfl
theorem zDC:zar zak lay sig Tryz.f63 (sig.sg 63) = true:=by kernel_rfl
theorem zDF:zar zak lay sig Tryz.f64 (sig.sg 64) = true:=by kernel_rfl
theorem zDO:zar zak lay sig Tryz.f65 (sig.sg 65) = true:=by kernel_rfl
theorem zDj:zar zak lay sig Tryz.f66 (sig.sg 66) = true:=by kernel_rfl
theorem zC1:zar zak lay sig Tryz.f67 (sig.sg 67) = true:=by kernel_rfl
theorem zDh:zar zak lay sig Tryz.f68 (sig.sg 68) = true:=by kernel_rfl
theorem zDx:zar zak lay sig Tryz.f69 (sig.sg 69) = true:=by kernel_rfl
theorem zEp:zar zak lay sig Tryz.f70 (sig.sg 70) = true:=by kernel_rfl
theorem zEA:zar zak lay sig Tryz.f71 (sig.sg 71) = true:=by kernel_rfl
theorem zEn:zar zak lay sig Tryz.f72 (sig.sg 72) = true:=by kernel_rfl
theorem zEd:zar zak lay sig Tryz.f73 (sig.sg 73) = true:=by kernel_rfl
theorem zC5:zar zak lay sig Tryz.f74 (sig.sg 74) = true:=by kernel_rfl
theorem zDE:zar zak lay sig Tryz.f75 (sig.sg 75) = true:=by kernel_rfl
theorem zCE:zar zak lay sig Tryz.f76 (sig.sg 76) = true:=by kernel_rfl
theorem zEf:zar zak lay sig Tryz.f77 (sig.sg 77) = true:=by kernel_rfl
theorem zCi:zar zak lay sig Tryz.f78 (sig.sg 78) = true:=by kernel_rfl
theorem zCg:zar zak lay sig Tryz.f79 (sig.sg 79) = true:=by kernel_rfl
theorem zEE:zar zak lay sig Tryz.f80 (sig.sg 80) = true:=by kernel_rfl
theorem zDb:zar zak lay sig Tryz.f81 (sig.sg 81) = true:=by kernel_rfl
theorem zCo:zar zak lay sig Tryz.f82 (sig.sg 82) = true:=by kernel_rfl
theorem zCn:zar zak lay sig Tryz.f83 (sig.sg 83) = true:=by kernel_rfl
theorem zCX:zar zak lay sig Tryz.f84 (sig.sg 84) = true:=by kernel_rfl
theorem zDA:zar zak lay sig Tryz.f85 (sig.sg 85) = true:=by kernel_rfl
theorem zCv:zar zak lay sig Tryz.f86 (sig.sg 86) = true:=by kernel_rfl
theorem zDy:zar zak lay sig Tryz.f87 (sig.sg 87) = true:=by kernel_rfl
theorem zCu:zar zak lay sig Tryz.f88 (sig.sg 88) = true:=by kernel_rfl
theorem zDU:zar zak lay sig Tryz.f89 (sig.sg 89) = true:=by kernel_rfl
theorem zDa:zar zak lay sig Tryz.f90 (sig.sg 90) = true:=by kernel_rfl
theorem zCm:zar zak lay sig Tryz.f91 (sig.sg 91) = true:=by kernel_rfl
theorem zEv:zar zak lay sig Tryz.f92 (sig.sg 92) = true:=by kernel_rfl
theorem zEC:zar zak lay sig Tryz.f93 (sig.sg 93) = true:=by kernel_rfl
theorem zDz:zar zak lay sig Tryz.f94 (sig.sg 94) = true:=by kernel_rfl
theorem zDQ:zar zak lay sig Tryz.f95 (sig.sg 95) = true:=by kernel_rfl
theorem zEM:zar zak lay sig Tryz.f96 (sig.sg 96) = true:=by kernel_rfl
theorem zED:zar zak lay sig Tryz.f97 (sig.sg 97) = true:=by kernel_rfl
theorem zEB:zar zak lay sig Tryz.f98 (sig.sg 98) = true:=by kernel_rfl
theorem zEg:zar zak lay sig Tryz.f99 (sig.sg 99) = true:=by kernel_rfl
theorem zA1:zar zak lay sig Tryz.f100 (sig.sg 100) = true:=by kernel_rfl
theorem zAh:zar zak lay sig Tryz.f101 (sig.sg 101) = true:=by kernel_rfl
theorem zA4:zar zak lay sig Tryz.f102 (sig.sg 102) = true:=by kernel_rfl
theorem zAN:zar zak lay sig Tryz.f103 (sig.sg 103) = true:=by kernel_rfl
theorem zBM:zar zak lay sig Tryz.f104 (sig.sg 104) = true:=by kernel_rfl
theorem zz9:zar zak lay sig Tryz.f105 (sig.sg 105) = true:=by kernel_rfl
theorem zB2:zar zak lay sig Tryz.f106 (sig.sg 106) = true:=by kernel_rfl
theorem zA8:zar zak lay sig Tryz.f107 (sig.sg 107) = true:=by kernel_rfl
theorem zAZ:zar zak lay sig Tryz.f108 (sig.sg 108) = true:=by kernel_rfl
theorem zBL:zar zak lay sig Tryz.f109 (sig.sg 109) = true:=by kernel_rfl
theorem zAT:zar zak lay sig Tryz.f110 (sig.sg 110) = true:=by kernel_rfl
theorem zBm:zar zak lay sig Tryz.f111 (sig.sg 111) = true:=by kernel_rfl
theorem zBV:zar zak lay sig Tryz.f112 (sig.sg 112) = true:=by kernel_rfl
theorem zBh:zar zak lay sig Tryz.f113 (sig.sg 113) = true:=by kernel_rfl
theorem zBS:zar zak lay sig Tryz.f114 (sig.sg 114) = true:=by kernel_rfl
theorem zAe:zar zak lay sig Tryz.f115 (sig.sg 115) = true:=by kernel_rfl
theorem zAP:zar zak lay sig Tryz.f116 (sig.sg 116) = true:=by kernel_rfl
theorem zBj:zar zak lay sig Tryz.f117 (sig.sg 117) = true:=by kernel_rfl
theorem zBZ:zar zak lay sig Tryz.f118 (sig.sg 118) = true:=by kernel_rfl
theorem zzE:zar zak lay sig Tryz.f119 (sig.sg 119) = true:=by kernel_rfl
theorem zBv:zar zak lay sig Tryz.f120 (sig.sg 120) = true:=by kernel_rfl
theorem zBG:zar zak lay sig Tryz.f121 (sig.sg 121) = true:=by kernel_rfl
theorem zAG:zar zak lay sig Tryz.f122 (sig.sg 122) = true:=by kernel_rfl
theorem zAA:zar zak lay sig Tryz.f123 (sig.sg 123) = true:=by kernel_rfl
theorem zzW:zar zak lay sig Tryz.f124 (sig.sg 124) = true:=by kernel_rfl
theorem zAW:zar zak lay sig Tryz.f125 (sig.sg 125) = true:=by kernel_rfl
theorem zBz:zar zak lay sig Tryz.f126 (sig.sg 126) = true:=by kernel_rfl
theorem zzZ:zar zak lay sig Tryz.f127 (sig.sg 127) = true:=by kernel_rfl
theorem zB6:zar zak lay sig Tryz.f128 (sig.sg 128) = true:=by kernel_rfl
theorem zz7:zar zak lay sig Tryz.f129 (sig.sg 129) = true:=by kernel_rfl
theorem zAc:zar zak lay sig Tryz.f130 (sig.sg 130) = true:=by kernel_rfl
theorem zBC:zar zak lay sig Tryz.f131 (sig.sg 131) = true:=by kernel_rfl
theorem zAK:zar zak lay sig Tryz.f132 (sig.sg 132) = true:=by kernel_rfl
theorem zzC:zar zak lay sig Tryz.f133 (sig.sg 133) = true:=by kernel_rfl
theorem zAt:zar zak lay sig Tryz.f134 (sig.sg 134) = true:=by kernel_rfl
theorem zBa:zar zak lay sig Tryz.f135 (sig.sg 135) = true:=by kernel_rfl
theorem zAz:zar zak lay sig Tryz.f136 (sig.sg 136) = true:=by kernel_rfl
theorem zAE:zar zak lay sig Tryz.f137 (sig.sg 137) = true:=by kernel_rfl
theorem zz1:zar zak lay sig Tryz.f138 (sig.sg 138) = true:=by kernel_rfl
theorem zzT:zar zak lay sig Tryz.f139 (sig.sg 139) = true:=by kernel_rfl
theorem zAq:zar zak lay sig Tryz.f140 (sig.sg 140) = true:=by kernel_rfl
theorem zBs:zar zak lay sig Tryz.f141 (sig.sg 141) = true:=by kernel_rfl
theorem zz4:zar zak lay sig Tryz.f142 (sig.sg 142) = true:=by kernel_rfl
theorem zu8:∀ f,sig.has f = true → ∃ fn,Tryz.prog.funcs[f]? = some fn ∧ zar zak lay sig fn (sig.sg f) = true:=by
 intro f hf
 have hm:f ∈ [3,4,5,6,7,8,11,12,13,14,15,16,17,18,19,20,21,22,23,24,26,27,28,29,30,31,32,33,34,36,37,38,39,41,42,43,44,45,46,47,48,49,50,51,52,53,54,55,56,57,58,59,63,64,65,66,67,68,69,70,71,72,73,74,75,76,77,78,79,80,81,82,83,84,85,86,87,88,89,90,91,92,93,94,95,96,97,98,99,100,101,102,103,104,105,106,107,108,109,110,111,112,113,114,115,116,117,118,119,120,121,122,123,124,125,126,127,128,129,130,131,132,133,134,135,136,137,138,139,140,141,142]:=by
  unfold Sig.has at hf
  obtain ⟨x,hx⟩:=Option.isSome_iff_exists.1 hf
  have:=zbg hx
  have h2:f ∈ sig.map (·.1):=List.mem_map.2 ⟨_,this,rfl⟩
  exact h2
 simp only [List.mem_cons,List.not_mem_nil,or_false] at hm
 rcases hm with rfl | rfl | rfl | rfl | rfl | rfl | rfl | rfl | rfl | rfl | rfl | rfl | rfl | rfl | rfl | rfl | rfl | rfl | rfl | rfl | rfl | rfl | rfl | rfl | rfl | rfl | rfl | rfl | rfl | rfl | rfl | rfl | rfl | rfl | rfl | rfl | rfl | rfl | rfl | rfl | rfl | rfl | rfl | rfl | rfl | rfl | rfl | rfl | rfl | rfl | rfl | rfl | rfl | rfl | rfl | rfl | rfl | rfl | rfl | rfl | rfl | rfl | rfl | rfl | rfl | rfl | rfl | rfl | rfl | rfl | rfl | rfl | rfl | rfl | rfl | rfl | rfl | rfl | rfl | rfl | rfl | rfl | rfl | rfl | rfl | rfl | rfl | rfl | rfl | rfl | rfl | rfl | rfl | rfl | rfl | rfl | rfl | rfl | rfl | rfl | rfl | rfl | rfl | rfl | rfl | rfl | rfl | rfl | rfl | rfl | rfl | rfl | rfl | rfl | rfl | rfl | rfl | rfl | rfl | rfl | rfl | rfl | rfl | rfl | rfl | rfl | rfl | rfl | rfl | rfl | rfl | rfl
 ·exact ⟨_,Tryz.func3,zFi⟩
 ·exact ⟨_,Tryz.func4,zFN⟩
 ·exact ⟨_,Tryz.func5,zFm⟩
 ·exact ⟨_,Tryz.func6,zGb⟩
 ·exact ⟨_,Tryz.func7,zFP⟩
 ·exact ⟨_,Tryz.func8,zFZ⟩
 ·exact ⟨_,Tryz.func11,zEm⟩
 ·exact ⟨_,Tryz.func12,zCp⟩
 ·exact ⟨_,Tryz.func13,zC4⟩
 ·exact ⟨_,Tryz.func14,zDp⟩
 ·exact ⟨_,Tryz.func15,zDX⟩
 ·exact ⟨_,Tryz.func16,zCM⟩
 ·exact ⟨_,Tryz.func17,zDq⟩
 ·exact ⟨_,Tryz.func18,zDr⟩
 ·exact ⟨_,Tryz.func19,zDJ⟩
 ·exact ⟨_,Tryz.func20,zCC⟩
 ·exact ⟨_,Tryz.func21,zDg⟩
 ·exact ⟨_,Tryz.func22,zEF⟩
 ·exact ⟨_,Tryz.func23,zCf⟩
 ·exact ⟨_,Tryz.func24,zCA⟩
 ·exact ⟨_,Tryz.func26,zCN⟩
 ·exact ⟨_,Tryz.func27,zEl⟩
 ·exact ⟨_,Tryz.func28,zDs⟩
 ·exact ⟨_,Tryz.func29,zCL⟩
 ·exact ⟨_,Tryz.func30,zDB⟩
 ·exact ⟨_,Tryz.func31,zEs⟩
 ·exact ⟨_,Tryz.func32,zEI⟩
 ·exact ⟨_,Tryz.func33,zDZ⟩
 ·exact ⟨_,Tryz.func34,zCO⟩
 ·exact ⟨_,Tryz.func36,zCI⟩
 ·exact ⟨_,Tryz.func37,zEx⟩
 ·exact ⟨_,Tryz.func38,zCs⟩
 ·exact ⟨_,Tryz.func39,zDY⟩
 ·exact ⟨_,Tryz.func41,zCU⟩
 ·exact ⟨_,Tryz.func42,zD1⟩
 ·exact ⟨_,Tryz.func43,zEN⟩
 ·exact ⟨_,Tryz.func44,zEe⟩
 ·exact ⟨_,Tryz.func45,zC0⟩
 ·exact ⟨_,Tryz.func46,zC6⟩
 ·exact ⟨_,Tryz.func47,zEi⟩
 ·exact ⟨_,Tryz.func48,zDK⟩
 ·exact ⟨_,Tryz.func49,zCx⟩
 ·exact ⟨_,Tryz.func50,zCQ⟩
 ·exact ⟨_,Tryz.func51,zCP⟩
 ·exact ⟨_,Tryz.func52,zEa⟩
 ·exact ⟨_,Tryz.func53,zD0⟩
 ·exact ⟨_,Tryz.func54,zC3⟩
 ·exact ⟨_,Tryz.func55,zDv⟩
 ·exact ⟨_,Tryz.func56,zEz⟩
 ·exact ⟨_,Tryz.func57,zEo⟩
 ·exact ⟨_,Tryz.func58,zCW⟩
 ·exact ⟨_,Tryz.func59,zDS⟩
 ·exact ⟨_,Tryz.func63,zDC⟩
 ·exact ⟨_,Tryz.func64,zDF⟩
 ·exact ⟨_,Tryz.func65,zDO⟩
 ·exact ⟨_,Tryz.func66,zDj⟩
 ·exact ⟨_,Tryz.func67,zC1⟩
 ·exact ⟨_,Tryz.func68,zDh⟩
 ·exact ⟨_,Tryz.func69,zDx⟩
 ·exact ⟨_,Tryz.func70,zEp⟩
 ·exact ⟨_,Tryz.func71,zEA⟩
 ·exact ⟨_,Tryz.func72,zEn⟩
 ·exact ⟨_,Tryz.func73,zEd⟩
 ·exact ⟨_,Tryz.func74,zC5⟩
 ·exact ⟨_,Tryz.func75,zDE⟩
 ·exact ⟨_,Tryz.func76,zCE⟩
 ·exact ⟨_,Tryz.func77,zEf⟩
 ·exact ⟨_,Tryz.func78,zCi⟩
 ·exact ⟨_,Tryz.func79,zCg⟩
 ·exact ⟨_,Tryz.func80,zEE⟩
 ·exact ⟨_,Tryz.func81,zDb⟩
 ·exact ⟨_,Tryz.func82,zCo⟩
 ·exact ⟨_,Tryz.func83,zCn⟩
 ·exact ⟨_,Tryz.func84,zCX⟩
 ·exact ⟨_,Tryz.func85,zDA⟩
 ·exact ⟨_,Tryz.func86,zCv⟩
 ·exact ⟨_,Tryz.func87,zDy⟩
 ·exact ⟨_,Tryz.func88,zCu⟩
 ·exact ⟨_,Tryz.func89,zDU⟩
 ·exact ⟨_,Tryz.func90,zDa⟩
 ·exact ⟨_,Tryz.func91,zCm⟩
 ·exact ⟨_,Tryz.func92,zEv⟩
 ·exact ⟨_,Tryz.func93,zEC⟩
 ·exact ⟨_,Tryz.func94,zDz⟩
 ·exact ⟨_,Tryz.func95,zDQ⟩
 ·exact ⟨_,Tryz.func96,zEM⟩
 ·exact ⟨_,Tryz.func97,zED⟩
 ·exact ⟨_,Tryz.func98,zEB⟩
 ·exact ⟨_,Tryz.func99,zEg⟩
 ·exact ⟨_,Tryz.func100,zA1⟩
 ·exact ⟨_,Tryz.func101,zAh⟩
 ·exact ⟨_,Tryz.func102,zA4⟩
 ·exact ⟨_,Tryz.func103,zAN⟩
 ·exact ⟨_,Tryz.func104,zBM⟩
 ·exact ⟨_,Tryz.func105,zz9⟩
 ·exact ⟨_,Tryz.func106,zB2⟩
 ·exact ⟨_,Tryz.func107,zA8⟩
 ·exact ⟨_,Tryz.func108,zAZ⟩
 ·exact ⟨_,Tryz.func109,zBL⟩
 ·exact ⟨_,Tryz.func110,zAT⟩
 ·exact ⟨_,Tryz.func111,zBm⟩
 ·exact ⟨_,Tryz.func112,zBV⟩
 ·exact ⟨_,Tryz.func113,zBh⟩
 ·exact ⟨_,Tryz.func114,zBS⟩
 ·exact ⟨_,Tryz.func115,zAe⟩
 ·exact ⟨_,Tryz.func116,zAP⟩
 ·exact ⟨_,Tryz.func117,zBj⟩
 ·exact ⟨_,Tryz.func118,zBZ⟩
 ·exact ⟨_,Tryz.func119,zzE⟩
 ·exact ⟨_,Tryz.func120,zBv⟩
 ·exact ⟨_,Tryz.func121,zBG⟩
 ·exact ⟨_,Tryz.func122,zAG⟩
 ·exact ⟨_,Tryz.func123,zAA⟩
 ·exact ⟨_,Tryz.func124,zzW⟩
 ·exact ⟨_,Tryz.func125,zAW⟩
 ·exact ⟨_,Tryz.func126,zBz⟩
 ·exact ⟨_,Tryz.func127,zzZ⟩
 ·exact ⟨_,Tryz.func128,zB6⟩
 ·exact ⟨_,Tryz.func129,zz7⟩
 ·exact ⟨_,Tryz.func130,zAc⟩
 ·exact ⟨_,Tryz.func131,zBC⟩
 ·exact ⟨_,Tryz.func132,zAK⟩
 ·exact ⟨_,Tryz.func133,zzC⟩
 ·exact ⟨_,Tryz.func134,zAt⟩
 ·exact ⟨_,Tryz.func135,zBa⟩
 ·exact ⟨_,Tryz.func136,zAz⟩
 ·exact ⟨_,Tryz.func137,zAE⟩
 ·exact ⟨_,Tryz.func138,zz1⟩
 ·exact ⟨_,Tryz.func139,zzT⟩
 ·exact ⟨_,Tryz.func140,zAq⟩
 ·exact ⟨_,Tryz.func141,zBs⟩
 ·exact ⟨_,Tryz.func142,zz4⟩
end Go.Proofs.YtcpcagdialnbeaaGreat
set_option maxRecDepth 100000
namespace Go.Proofs.YtcpcagdialnbeaaGreat
open Go Go.RowKit Go.BigFrame
def ext:ztr:=[]
theorem zvp:∀ f e,sig.has f = false → ext.lookup f = some e → ∀ call,zba Tryz.prog sig call → znk Tryz.prog sig f (zlU call e):=by
 intro f e _ he call hC
 cases he
end Go.Proofs.YtcpcagdialnbeaaGreat
namespace Go.Proofs.YtcpcagdialnbeaaGreat
open Go Go.RowKit
abbrev TOrc:=FuncId → List AC → List SV → Option (AV × List AC)
structure TS where
 s:VS
 tk:List Nat
 q:List AC
def zBd (tk:List Nat):Operand → Bool
 | .tmp i => tk.any fun t => Nat.beq t i
 | _ => false
def znW (L:Lay) (tk:List Nat) (o:Oper):Bool:=match o.op with
 | .move x | .assign x => zBd tk x && (L.ti o.type).isNone
 | _ => false
def zh1 (T:Nat → Bool) (o:Oper):Bool:=match o.op with
 | .call { callee:=.value (.func f),.. } => T f
 | _ => false
def ziM (d:Option Nat) (tk:List Nat):List Nat:=match d with
 | some d => tk.filter fun t => !Nat.beq t d
 | none => tk
def zn0 (L:Lay) (ct:TOrc) (o:Oper) (t:TS):Option (AV × List AC):=match o.op with
 | .call { callee:=.value (.func f),args,argTypes } => match args.toList,argTypes.toList with
  | x :: xs,_ :: ts => if zBd t.tk x then (zgc L t.s xs ts).bind fun vs => ct f t.q vs else none
  | _,_ => none
 | _ => none
def zgv (b:Oper → VS → Option VS) (L:Lay) (T:Nat → Bool) (ct:TOrc) (o:Oper) (t:TS):Option TS :=
 if zh1 T o then (zn0 L ct o t).map fun r => ⟨t.s.put o.dst r.1,ziM o.dst t.tk,r.2⟩
 else if znW L t.tk o then match o.dst with
  | some d => some ⟨t.s.put (some d) .und,d :: t.tk,t.q⟩
  | none => none
 else (b o t.s).map fun s' => ⟨s',ziM o.dst t.tk,t.q⟩
def zdG (b:Oper → VS → Option VS) (L:Lay) (T:Nat → Bool) (ct:TOrc) (all:List Oper) (o:Oper) (t:TS):Option TS:=match o.guard with
 | none => zgv b L T ct o t
 | some g => (zcP all t.s g).bind fun u => if u then zgv b L T ct o t else some ⟨t.s.put o.dst .und,ziM o.dst t.tk,t.q⟩
def zdP (b:Oper → VS → Option VS) (L:Lay) (T:Nat → Bool) (ct:TOrc) (all:List Oper):List Oper → TS → Option TS
 | [],t => some t
 | o :: rest,t => (zdG b L T ct all o t).bind (zdP b L T ct all rest)
def zDm (tk:List Nat):Bool:=tk.any fun t => Nat.beq t 0
def zmC (L:Lay) (T:Nat → Bool) (call:Orc) (ct:TOrc) (ops:List Oper) (d:Bool) (x:List AV × List AC):Option (List AV × List AC) :=
 (if d then zdP (zaP L call) L T ct ops ops ⟨{ σ:=zkx x.1,pe:=[] },[0],x.2⟩ else zdP (vop L call) L T ct ops ops ⟨{ σ:=x.1,pe:=[] },[0],x.2⟩).bind fun t =>
  if zDm t.tk then some (t.s.σ,t.q) else none
def zaY (L:Lay) (T:Nat → Bool) (call:Orc) (ct:TOrc):Nat → Code → List AV × List AC → Option (Xt × (List AV × List AC))
 | 0,_,_ => none
 | n + 1,c,s =>
  match c with
  | .skip => some (.norm,s)
  | .region _ ops d => (zmC L T call ct ops.toList d s).map fun s => (.norm,s)
  | .seq a b => (zaY L T call ct n a s).bind fun r => match r with
   | (.norm,s') => zaY L T call ct n b s'
   | r => some r
  | .cond x a b => (zgR L { σ:=s.1,pe:=[] } x).bind fun t => if t then zaY L T call ct n a s else zaY L T call ct n b s
  | .block id b => (zaY L T call ct n b s).map fun r => match r with
   | (.exit i,s') => if i = id then (.norm,s') else (.exit i,s')
   | r => r
  | .loop b => (zaY L T call ct n b s).bind fun r => match r with
   | (.norm,s') => zaY L T call ct n (.loop b) s'
   | r => some r
  | .exit id => some (.exit id,s)
  | .ret => some (.ret,s)
  | _ => none
def znR (L:Lay) (T:Nat → Bool) (call:Orc) (ct:TOrc) (n:Nat) (fn:Func) (q:List AC) (args:List SV):Option (AV × List AC) :=
 match fn.body with
 | none => none
 | some c => if args.length + 1 ≤ fn.ntmps then (zaY L T call ct n c (.und :: (args.map .v ++ List.replicate (fn.ntmps - (args.length + 1)) .und),q)).bind fun r => match r with
  | (.exit _,_) => none
  | (_,s) => (zfk L s.1 fn.results.toList).map fun vs => (match vs with
   | [v] => .v v
   | vs => .tup vs,s.2)
  else none
def TOrc.le (a b:TOrc):Prop:=∀ f q x r,a f q x = some r → b f q x = some r
structure zDN where
 run:TOrc → List AC → List SV → Option (AV × List AC)
 mono:∀ a b,TOrc.le a b → ∀ q x r,run a q x = some r → run b q x = some r
 cont:∀ (c:TOrc) (cs:Nat → TOrc),(∀ n m,n ≤ m → TOrc.le (cs n) (cs m)) → (∀ f q x r,c f q x = some r → ∃ n,cs n f q x = some r) → ∀ q x r,run c q x = some r → ∃ n,run (cs n) q x = some r
abbrev zpo:=Nat → Option zDN
def zfi (P:Program) (L:Lay) (T:Nat → Bool) (call:Orc) (E:zpo):Nat → TOrc
 | 0,_,_,_ => none
 | n + 1,f,q,args => if T f then match E f with
  | some e => e.run (zfi P L T call E n) q args
  | none => match P.funcs[f]? with
   | some fn => znR L T call (zfi P L T call E n) n fn q args
   | none => none
  else none
end Go.Proofs.YtcpcagdialnbeaaGreat
namespace Go.Proofs.YtcpcagdialnbeaaGreat
open Go Go.RowKit
def RepQ (p:Stb) (w:World) (v:Value) (c:AC):Prop:=Rep p w v c ∨ ∃ A n cap,v = .slice A n cap ∧ n ≤ cap ∧ ∃ ns:List Nat,ns.length = n ∧ c = .sl 1 (ns.map fun (u:Nat) => [.bool true,.int (u:Int)]) ∧ (0 < n → ∃ b o,A = some ⟨b,o,none⟩ ∧ b < w.heap.size ∧ o + n ≤ p b ∧ (∀ k,¬ p.ok b k) ∧ ∀ (i u:Nat),ns[i]? = some u → u ≤ 255 ∧ w.cell? ⟨b,o + i,none⟩ = some (.int .u8 (u:Int)))
theorem RepQ.evo {B:Nat → Prop} {p p':Stb} {w w':World} (h:Evo B p w p' w') {v:Value} {c:AC}:RepQ p w v c → RepQ p' w' v c
 | .inl hr => .inl (hr.evo h)
 | .inr ⟨A,n,cap,e,hc,ns,hl,hq,hr⟩ => .inr ⟨A,n,cap,e,hc,ns,hl,hq,fun hn => by
   obtain ⟨b,o,hA,hb,hp,hok,hx⟩:=hr hn
   refine ⟨b,o,hA,Nat.lt_of_lt_of_le hb h.size,Nat.le_trans hp (h.keepP b hb),fun k hk => hok k (by rw [← h.okk b hb]; exact hk),fun i u hu => ?_⟩
   obtain ⟨h1,h2⟩:=hx i u hu
   have:=(List.getElem?_eq_some_iff.1 hu).1
   exact ⟨h1,by rw [h.stable b _ hb (by omega)]; exact h2⟩⟩
def RepQs (p:Stb) (w:World):List Value → List AC → Prop
 | [],[] => True
 | v :: vs,c :: cs => RepQ p w v c ∧ RepQs p w vs cs
 | _,_ => False
theorem RepQs.evo {B:Nat → Prop} {p p':Stb} {w w':World} (h:Evo B p w p' w'):∀ {vs:List Value} {cs:List AC},RepQs p w vs cs → RepQs p' w' vs cs
 | [],[],_ => trivial
 | _ :: _,_ :: _,⟨a,b⟩ => ⟨a.evo h,RepQs.evo h b⟩
structure TK (p:Stb) (w:World) (Own:Nat → Prop) (b:Nat) (q:List AC):Prop where
 not:¬ Own b
 lt:b < w.heap.size
 pz:p b = 0
 cells:∃ a T,w.heap[b]? = some (.cells a T (0,0)) ∧ RepQs p w a.toList q
theorem TK.evo {p p':Stb} {w w':World} {Own:Nat → Prop} {b:Nat} {q:List AC} (h:TK p w Own b q) (he:Evo Own p w p' w'):TK p' w' Own b q:=by
 obtain ⟨a,T,h1,h2⟩:=h.cells
 exact ⟨h.not,Nat.lt_of_lt_of_le h.lt he.size,by rw [he.same b h.lt h.not]; exact h.pz,a,T,by rw [he.block b h.lt h.not]; exact h1,h2.evo he⟩
theorem TK.own {p:Stb} {w:World} {Own Own':Nat → Prop} {b:Nat} {q:List AC} (h:TK p w Own b q) (hn:¬ Own' b):TK p w Own' b q:=⟨hn,h.lt,h.pz,h.cells⟩
def zbi (b:Nat):Value:=.pointer (some ⟨b,0,none⟩)
def ztm (P:Program) (S:Sig) (f:FuncId) (run:List AC → List SV → Option (AV × List AC)):Prop:=∀ q args r,run q args = some r → (zky r.1 = true ∧ ∃ fn,P.funcs[f]? = some fn ∧ fn.body.isSome = true ∧ (fn.name == "runtime.NumGoroutine") = false) ∧
 ∀ p w b (vals:List Value),RepSs p w vals args → Zp p w → TK p w (fun _ => False) b q →
 Calls P f (zbi b :: vals).toArray w fun e w' => ∃ v,e = .returned v ∧ ∃ p',SR p' w' v r.1 ∧ (∀ cs,r.1 ≠ .box cs) ∧ r.1 ≠ .und ∧ Evo (· = b) p w p' w' ∧ Zp p' w' ∧ TK p' w' (fun _ => False) b r.2 ∧
  (∀ e ∈ (S.sg f).gives,∃ u,zaB w' v e.1 = some u ∧ Rt p' w' u e.2 ∧ ∀ c,zax u = some c → w.heap.size ≤ c) ∧
  (∀ (e e':Nat × Nat) (u u':Value) (c:Nat),e ∈ (S.sg f).gives → e' ∈ (S.sg f).gives → e.1 ≠ e'.1 → zaB w' v e.1 = some u → zaB w' v e'.1 = some u' → zax u = some c → zax u' ≠ some c)
def zdA (P:Program) (S:Sig) (T:Nat → Bool) (ct:TOrc):Prop:=∀ f,T f = true → (S.sg f).takes = [] ∧ ztm P S f (ct f)
def World.withBlock (w:World) (b:Nat) (o:Obj):World:={ w with heap:=w.heap.setIfInBounds b o }
section
variable {P:Program} {L:Lay} {S:Sig} {T:Nat → Bool} {call:Orc} {ct:TOrc} {p p':Stb} {w w' w1:World} {a:Act} {s s':VS} {q:SPe} {o:Oper} {st st':Stt} {Own:Nat → Prop} {base b:Nat}
theorem zk6 (w:World) (b c:Nat) (x:Obj):(World.withBlock w b x).heap[c]? = if b = c ∧ c < w.heap.size then some x else w.heap[c]?:=by
 simp only [World.withBlock,Array.getElem?_setIfInBounds]
 by_cases h:b = c
 ·subst h
  by_cases h2:b < w.heap.size
  ·simp [h2]
  ·simp [h2]
 ·simp [h]
theorem zjL (w:World) (b:Nat) (x:Obj):(World.withBlock w b x).heap.size = w.heap.size:=by simp [World.withBlock]
theorem zz0 (x:Obj) (hp:p b = 0):Evo (· = b) p w p (World.withBlock w b x) :=
 zcX hp (zjL w b x) (fun y hy => by rw [zk6,if_neg (fun h => hy h.1.symm)]) rfl rfl rfl
theorem zDR {x:Obj} (h:Evo (· = b) p w p' w') (hlt:b < w.heap.size) (hp:p b = 0) (hp':p' b = 0) (hx:w'.heap[b]? = some x):Evo (fun _ => False) p (World.withBlock w b x) p' w':=by
 have hs:=zjL w b x
 refine ⟨h.os,h.tape,h.output,by rw [hs]; exact h.size,fun c hc _ => ?_,fun c hc => h.keepP c (by rw [hs] at hc; exact hc),fun c hc _ => ?_,fun c o hc ho => ?_,fun c hc => h.okk c (by rw [hs] at hc; exact hc),fun c h1 h2 => h.uq c (by rw [hs] at h1; exact h1) h2⟩
 ·rw [hs] at hc
  rw [zk6]
  by_cases hb:b = c
  ·subst hb; rw [if_pos ⟨rfl,hc⟩]; exact hx
  ·rw [if_neg (fun e => hb e.1)]; exact h.block c hc (fun e => hb e.symm)
 ·rw [hs] at hc
  by_cases hb:c = b
  ·subst hb; rw [hp,hp']
  ·exact h.same c hc hb
 ·rw [hs] at hc
  have hb:c ≠ b:=fun e => by subst e; rw [hp] at ho; omega
  rw [h.stable c o hc ho]
  exact (World.cell?_of_block (w:=w) (by rw [zk6,if_neg (fun e => hb e.1.symm)])).symm
theorem Inv.off {m:Array Value} (hI:Inv st p w m s Own) (he:Evo (· = b) p w p w1) (hs:w1.heap.size = w.heap.size) (hb:¬ Own b):Inv st p w1 m s Own:=by
 obtain ⟨val,hR⟩:=hI.rooms
 have hbox:∀ d cs,s.get d = .box cs → m.getD d undef ≠ .pointer (some ⟨b,0,none⟩):=fun d cs hd e => by
  obtain ⟨c,e1,_,h1,_⟩:=hI.box d cs hd
  rw [e] at e1
  cases e1
  exact hb h1
 have harr:∀ d k rows,s.get d = .arr k rows → zax (m.getD d undef) ≠ some b:=fun d k rows hd e => hb (hI.arr d k rows b hd e).2.1
 have hzp:Zp p w1:=⟨fun c hc => hI.zp.1 c (by rw [← hs]; exact hc),fun c hc => hI.zp.2 c (by rw [← hs]; exact hc)⟩
 refine ⟨hI.size,hI.len,hI.nbk,hI.sonce,fun t => ?_,hzp,hI.once,hI.spe,fun c hc => hI.own c (by rw [← hs]; exact hc),fun d cs hd => ?_,hI.boxd,fun d k rows c hd hc => ?_,hI.al,hI.mks,val,⟨fun z id hm => ?_,fun id k hm => ?_,hR.own,hR.apart,hR.row⟩⟩
 ·obtain ⟨g1,g2⟩:=hI.slots t
  refine ⟨zfL he (fun cs hcs c hc e => by subst e; exact hbox t cs hcs hc) (fun k rows hk c hc e => by subst e; exact harr t k rows hk hc) g1,fun r hr => ?_⟩
  have:=g2 r hr
  cases r with
  | ref cs => exact PRef.evo he this
  | box d off => exact this
  | el d k n j => exact this
 ·obtain ⟨c,h1,h2,h3,h4⟩:=hI.box d cs hd
  exact ⟨c,h1,h2,h3,by rw [hs]; exact h4⟩
 ·obtain ⟨h1,h2,h3,h4⟩:=hI.arr d k rows c hd hc
  exact ⟨h1,h2,by rw [hs]; exact h3,h4⟩
 ·obtain ⟨h1,h2⟩:=hR.place z id hm
  refine ⟨?_,h2⟩
  have hsl:=(hI.slots z.1).1
  cases hx:s.get z.1 with
  | und => exact absurd hx h2
  | v x => rw [hx] at hsl; rw [zbv hsl] at h1 ⊢; exact h1
  | tup xs => rw [hx] at hsl; obtain ⟨arr,e,_⟩:=hsl; rw [e] at h1 ⊢; exact h1
  | al d => rw [hx] at hsl; obtain ⟨_,_,_,e⟩:=hsl; rw [e] at h1 ⊢; exact h1
  | arr k rows =>
   rw [hx] at hsl
   rcases hsl.2.2 with ⟨e,_⟩ | ⟨_,_,_,_,_,_,e,_⟩
   ·rw [e] at h1 ⊢; exact h1
   ·rw [e] at h1 ⊢; exact h1
  | box cs =>
   obtain ⟨c,e,_,h3,hlt⟩:=hI.box z.1 cs hx
   rw [e] at h1 ⊢
   show w1.cell? ⟨c,z.2,none⟩ = _
   rw [World.cell?_of_block (w:=w) (he.block c hlt (fun e => hb (by rw [← e]; exact h3)))]
   exact h1
 ·exact (hR.alive id k hm).evo he (fun c hc e => by subst e; exact hb (hR.own id k _ hm hc).1)
theorem zlK {d:Option Nat} {tk:List Nat} {t:Nat} (h:t ∈ ziM d tk):t ∈ tk ∧ d ≠ some t:=by
 unfold ziM at h
 split at h
 ·rename_i d
  rw [List.mem_filter] at h
  simp only [Bool.not_eq_true'] at h
  exact ⟨h.1,fun e => by cases e; rw [Nat.beq_refl] at h; cases h.2⟩
 ·exact ⟨h,by simp⟩
theorem zsn {tk:List Nat} {x:Operand} (h:zBd tk x = true):∃ i,x = .tmp i ∧ i ∈ tk:=by
 unfold zBd at h
 split at h
 ·rename_i i
  simp only [List.any_eq_true] at h
  obtain ⟨t,ht,he⟩:=h
  exact ⟨i,rfl,by rw [← Nat.eq_of_beq_eq_true he]; exact ht⟩
 ·cases h
theorem zsN (hC:zdA P S T ct) {f:FuncId} {xs:Array Operand} {ts:Array TypeId} (hop:o.op = .call { callee:=.value (.func f),args:=xs,argTypes:=ts }) (hf:T f = true) {x:Operand} {xs':List Operand} (hxs:xs.toList = x :: xs')
  (hx:a.eval x = zbi b) {vs:List SV} (hreps:RepSs p w (xs'.map a.eval) vs) {q0 q1:List AC} {r:AV} (hcall:ct f q0 vs = some (r,q1)) (htk:TK p w Own b q0) (hz:Zp p w) (hsz:a.tmps.size = s.σ.length) :
  Does P o a w fun v w' => ∃ p' w1,zjH L S q o a p w1 (s.put o.dst r) v p' w' ∧ Evo (· = b) p w p w1 ∧ w1.heap.size = w.heap.size ∧ TK p' w' Own b q1:=by
 obtain ⟨htakes,hC1⟩:=hC f hf
 obtain ⟨⟨_,fn,f1,f2,f3⟩,hc⟩:=hC1 q0 vs (r,q1) hcall
 have hcalls:=hc p w b (xs'.map a.eval) hreps hz (htk.own (fun h => h))
 have hargs:xs.map a.eval = (zbi b :: xs'.map a.eval).toArray:=by
  apply Array.ext'
  simp [hxs,hx]
 refine zpU (f:=f) (args:=xs.map a.eval) ?_ ?_
 ·have f3':¬ fn.name = "runtime.NumGoroutine":=by simpa using f3
  have hne:fn.body ≠ none:=by cases h:fn.body <;> simp [h] at f2 ⊢
  simp [execOp,hop,resolve,invoke,Act.eval,Deferred.ofValue,callFunc,f1,f3',hne]
 ·rw [hargs]
  refine hcalls.mono ?_
  rintro e w' ⟨v,rfl,p',hsr,hnb,hnu,hev,hz',hT',hg1,hg2⟩
  obtain ⟨arr,ty,hx',_⟩:=hT'.cells
  have heats:zce L S o = []:=by simp [zce,hop,htakes]
  have hfr:zaM L S o = (S.sg f).gives:=by simp [zaM,hop]
  have hmv:zaQ L q o = []:=by simp [zaQ,hop]
  have he1:=zDR hev htk.lt htk.pz hT'.pz hx'
  have hs1:=zjL w b (.cells arr ty (0,0))
  refine ⟨v,rfl,p',World.withBlock w b (.cells arr ty (0,0)),⟨he1.weaken (fun _ _ h => h.elim),hz',zb6 hsz hsr,zkn hnb,zdT hnu,?_,?_,by rw [hmv]; simp⟩,zz0 _ htk.pz,hs1,hT'.own htk.not⟩
  ·rw [hfr]
   intro e he
   obtain ⟨u,h1,h2,h3⟩:=hg1 e he
   exact ⟨u,h1,h2,fun c hc => .inl (by rw [hs1]; exact h3 c hc)⟩
  ·rw [hfr]
   intro e e' u u' c he he' hne h1 h2 h3
   exact hg2 e e' u u' c he he' hne h1 h2 h3
end
end Go.Proofs.YtcpcagdialnbeaaGreat

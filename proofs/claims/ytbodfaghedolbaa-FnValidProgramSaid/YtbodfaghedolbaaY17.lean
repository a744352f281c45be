/- Generic texts and models for the proofs of this seat: part 17. -/
import Derived.Test.YtbodfaghedolbaaY16
import Derived.Test.YtbodfaghedolbaaProg
set_option linter.unusedVariables false
set_option linter.unusedSimpArgs false
namespace Go.Proofs.Ytbodfaghedolbaa
open Go
def lay:Lay:=⟨[(3,⟨0,1,[.int 0],[],0⟩),(4,⟨1,1,[.bool false],[],0⟩),(23,⟨2,1,[.sl 3 []],[],80⟩),(24,⟨2,1,[.sl 5 []],[],35⟩),(26,⟨3,2,[.sl 3 [],.sl 5 []],[(0,1),(1,1)],0⟩),(30,⟨2,1,[.sl 3 []],[],32⟩),(32,⟨3,3,[.int 0,.int 0,.sl 3 []],[(0,1),(1,1),(2,1)],0⟩),(33,⟨2,1,[.sl 1 []],[],3⟩),(35,⟨3,5,[.sl 1 [],.int 0,.int 0,.int 0,.sl 3 []],[(0,1),(1,1),(2,3)],0⟩),(53,⟨3,2,[.sl 1 [],.sl 1 []],[(0,1),(1,1)],0⟩),(63,⟨3,2,[.sl 1 [],.int 0],[(0,1),(1,1)],0⟩),(78,⟨2,1,[.sl 1 []],[],89⟩),(80,⟨3,3,[.int 0,.int 0,.sl 1 []],[(0,1),(1,1),(2,1)],0⟩),(89,⟨3,1,[.sl 1 []],[(0,1)],0⟩)],[(63,6),(84,18)],[15,24,25,28,43,44,45,46,47,52,65,66,67,68,69,70,72,73,74,76,78,79,80,81,82,88,94,96,98,101,106,107,114,116,118],[]⟩
theorem zhi:LayOk Try.prog lay:=ztI (by kernel_rfl)
def sig:Sig:=[(3,⟨[],[]⟩),(4,⟨[],[]⟩),(5,⟨[],[]⟩),(6,⟨[],[]⟩),(7,⟨[],[]⟩),(8,⟨[],[]⟩),(9,⟨[],[]⟩),(10,⟨[],[]⟩),(12,⟨[],[]⟩),(13,⟨[],[]⟩),(14,⟨[],[]⟩),(15,⟨[],[]⟩),(17,⟨[],[(2,3)]⟩),(18,⟨[],[(2,3)]⟩),(19,⟨[],[]⟩),(20,⟨[],[]⟩),(21,⟨[],[]⟩),(22,⟨[],[]⟩),(23,⟨[],[]⟩),(24,⟨[],[]⟩),(25,⟨[],[]⟩),(26,⟨[],[]⟩),(27,⟨[],[]⟩),(28,⟨[],[]⟩),(29,⟨[],[]⟩),(30,⟨[],[]⟩),(32,⟨[],[]⟩),(33,⟨[],[]⟩),(34,⟨[],[(2,3)]⟩),(35,⟨[],[]⟩),(36,⟨[],[]⟩),(37,⟨[],[]⟩),(38,⟨[],[(2,3)]⟩),(39,⟨[],[]⟩),(40,⟨[],[]⟩),(43,⟨[],[]⟩),(44,⟨[],[]⟩),(45,⟨[],[]⟩),(46,⟨[],[]⟩),(47,⟨[],[]⟩),(48,⟨[],[]⟩),(49,⟨[],[]⟩),(50,⟨[],[]⟩),(51,⟨[],[]⟩),(52,⟨[],[]⟩),(53,⟨[],[(0,1)]⟩),(56,⟨[],[]⟩),(57,⟨[],[]⟩),(58,⟨[],[]⟩),(59,⟨[],[(0,3)]⟩),(60,⟨[],[(0,1)]⟩),(61,⟨[],[(0,3)]⟩),(62,⟨[],[(0,3)]⟩),(63,⟨[],[]⟩),(64,⟨[],[]⟩),(65,⟨[],[]⟩),(66,⟨[],[]⟩),(67,⟨[],[]⟩),(68,⟨[],[]⟩),(69,⟨[],[]⟩),(70,⟨[],[]⟩),(71,⟨[],[]⟩),(72,⟨[],[]⟩),(73,⟨[],[]⟩),(74,⟨[],[]⟩),(75,⟨[],[]⟩),(76,⟨[],[]⟩),(77,⟨[],[]⟩),(78,⟨[],[]⟩),(79,⟨[],[]⟩),(80,⟨[],[]⟩),(81,⟨[],[]⟩),(82,⟨[],[]⟩),(83,⟨[],[(0,3)]⟩),(84,⟨[],[(2,3)]⟩),(85,⟨[],[(2,3)]⟩),(86,⟨[],[(0,1)]⟩),(87,⟨[],[]⟩),(88,⟨[],[]⟩),(89,⟨[],[]⟩),(90,⟨[],[]⟩),(91,⟨[],[]⟩),(92,⟨[],[]⟩),(93,⟨[],[]⟩),(94,⟨[],[]⟩),(95,⟨[],[(0,1)]⟩),(96,⟨[],[]⟩),(97,⟨[],[(0,1)]⟩),(98,⟨[],[]⟩),(99,⟨[],[]⟩),(100,⟨[],[]⟩),(101,⟨[],[]⟩),(102,⟨[],[(2,3)]⟩),(103,⟨[],[]⟩),(104,⟨[],[]⟩),(105,⟨[],[]⟩),(106,⟨[],[]⟩),(107,⟨[],[]⟩),(108,⟨[],[(0,3)]⟩),(109,⟨[],[]⟩),(110,⟨[],[(0,1)]⟩),(111,⟨[],[]⟩),(112,⟨[],[]⟩),(113,⟨[],[(0,1)]⟩),(114,⟨[],[]⟩),(115,⟨[],[]⟩),(116,⟨[],[]⟩),(117,⟨[],[(0,1)]⟩),(118,⟨[],[]⟩)]
theorem zeE:Try.prog.follows .mixedOrders = true:=by kernel_rfl
theorem zyV:zav zao lay sig Try.f3 (sig.sg 3) = true:=by kernel_rfl
theorem zzB:zav zao lay sig Try.f4 (sig.sg 4) = true:=by kernel_rfl
theorem zyM:zav zao lay sig Try.f5 (sig.sg 5) = true:=by kernel_rfl
theorem zzc:zav zao lay sig Try.f6 (sig.sg 6) = true:=by kernel_rfl
theorem zzf:zav zao lay sig Try.f7 (sig.sg 7) = true:=by kernel_rfl
theorem zzs:zav zao lay sig Try.f8 (sig.sg 8) = true:=by kernel_rfl
theorem zzj:zav zao lay sig Try.f9 (sig.sg 9) = true:=by kernel_rfl
theorem zwJ:zav zao lay sig Try.f10 (sig.sg 10) = true:=by kernel_rfl
theorem zxZ:zav zao lay sig Try.f12 (sig.sg 12) = true:=by kernel_rfl
theorem zxr:zav zao lay sig Try.f13 (sig.sg 13) = true:=by kernel_rfl
theorem zwP:zav zao lay sig Try.f14 (sig.sg 14) = true:=by kernel_rfl
theorem zwC:zav zao lay sig Try.f15 (sig.sg 15) = true:=by kernel_rfl
theorem zyD:zav zao lay sig Try.f17 (sig.sg 17) = true:=by kernel_rfl
theorem zxD:zav zao lay sig Try.f18 (sig.sg 18) = true:=by kernel_rfl
theorem zwr:zav zao lay sig Try.f19 (sig.sg 19) = true:=by kernel_rfl
theorem zxE:zav zao lay sig Try.f20 (sig.sg 20) = true:=by kernel_rfl
theorem zxe:zav zao lay sig Try.f21 (sig.sg 21) = true:=by kernel_rfl
theorem zyj:zav zao lay sig Try.f22 (sig.sg 22) = true:=by kernel_rfl
theorem zwx:zav zao lay sig Try.f23 (sig.sg 23) = true:=by kernel_rfl
theorem zxM:zav zao lay sig Try.f24 (sig.sg 24) = true:=by kernel_rfl
theorem zw9:zav zao lay sig Try.f25 (sig.sg 25) = true:=by kernel_rfl
theorem zwH:zav zao lay sig Try.f26 (sig.sg 26) = true:=by kernel_rfl
theorem zxy:zav zao lay sig Try.f27 (sig.sg 27) = true:=by kernel_rfl
theorem zyh:zav zao lay sig Try.f28 (sig.sg 28) = true:=by kernel_rfl
theorem zxj:zav zao lay sig Try.f29 (sig.sg 29) = true:=by kernel_rfl
theorem zxl:zav zao lay sig Try.f30 (sig.sg 30) = true:=by kernel_rfl
theorem zxI:zav zao lay sig Try.f32 (sig.sg 32) = true:=by kernel_rfl
theorem zxv:zav zao lay sig Try.f33 (sig.sg 33) = true:=by kernel_rfl
theorem zxT:zav zao lay sig Try.f34 (sig.sg 34) = true:=by kernel_rfl
theorem zxi:zav zao lay sig Try.f35 (sig.sg 35) = true:=by kernel_rfl
theorem zya:zav zao lay sig Try.f36 (sig.sg 36) = true:=by kernel_rfl
theorem zxb:zav zao lay sig Try.f37 (sig.sg 37) = true:=by kernel_rfl
theorem zxg:zav zao lay sig Try.f38 (sig.sg 38) = true:=by kernel_rfl
theorem zyu:zav zao lay sig Try.f39 (sig.sg 39) = true:=by kernel_rfl
theorem zxK:zav zao lay sig Try.f40 (sig.sg 40) = true:=by kernel_rfl
theorem zyn:zav zao lay sig Try.f43 (sig.sg 43) = true:=by kernel_rfl
theorem zwF:zav zao lay sig Try.f44 (sig.sg 44) = true:=by kernel_rfl
theorem zw3:zav zao lay sig Try.f45 (sig.sg 45) = true:=by kernel_rfl
theorem zyl:zav zao lay sig Try.f46 (sig.sg 46) = true:=by kernel_rfl
theorem zwS:zav zao lay sig Try.f47 (sig.sg 47) = true:=by kernel_rfl
theorem zwG:zav zao lay sig Try.f48 (sig.sg 48) = true:=by kernel_rfl
theorem zxF:zav zao lay sig Try.f49 (sig.sg 49) = true:=by kernel_rfl
theorem zyy:zav zao lay sig Try.f50 (sig.sg 50) = true:=by kernel_rfl
theorem zym:zav zao lay sig Try.f51 (sig.sg 51) = true:=by kernel_rfl
theorem zxm:zav zao lay sig Try.f52 (sig.sg 52) = true:=by kernel_rfl
theorem zw0:zav zao lay sig Try.f53 (sig.sg 53) = true:=by kernel_rfl
theorem zw1:zav zao lay sig Try.f56 (sig.sg 56) = true:=by kernel_rfl
theorem zwz:zav zao lay sig Try.f57 (sig.sg 57) = true:=by kernel_rfl
theorem zx7:zav zao lay sig Try.f58 (sig.sg 58) = true:=by kernel_rfl
theorem zxU:zav zao lay sig Try.f59 (sig.sg 59) = true:=by kernel_rfl
theorem zwL:zav zao lay sig Try.f60 (sig.sg 60) = true:=by kernel_rfl
theorem zx8:zav zao lay sig Try.f61 (sig.sg 61) = true:=by kernel_rfl
theorem zw2:zav zao lay sig Try.f62 (sig.sg 62) = true:=by kernel_rfl
theorem zx0:zav zao lay sig Try.f63 (sig.sg 63) = true:=by kernel_rfl
theorem zwT:zav zao lay sig Try.f64 (sig.sg 64) = true:=by kernel_rfl
theorem zwk:zav zao lay sig Try.f65 (sig.sg 65) = true:=by kernel_rfl
theorem zwo:zav zao lay sig Try.f66 (sig.sg 66) = true:=by kernel_rfl
theorem zyw:zav zao lay sig Try.f67 (sig.sg 67) = true:=by kernel_rfl
theorem zxq:zav zao lay sig Try.f68 (sig.sg 68) = true:=by kernel_rfl
theorem zxV:zav zao lay sig Try.f69 (sig.sg 69) = true:=by kernel_rfl
theorem zyp:zav zao lay sig Try.f70 (sig.sg 70) = true:=by kernel_rfl
theorem zwM:zav zao lay sig Try.f71 (sig.sg 71) = true:=by kernel_rfl
theorem zxR:zav zao lay sig Try.f72 (sig.sg 72) = true:=by kernel_rfl
theorem zwD:zav zao lay sig Try.f73 (sig.sg 73) = true:=by kernel_rfl
theorem zx9:zav zao lay sig Try.f74 (sig.sg 74) = true:=by kernel_rfl
theorem zyc:zav zao lay sig Try.f75 (sig.sg 75) = true:=by kernel_rfl
theorem zys:zav zao lay sig Try.f76 (sig.sg 76) = true:=by kernel_rfl
theorem zwE:zav zao lay sig Try.f77 (sig.sg 77) = true:=by kernel_rfl
theorem zwR:zav zao lay sig Try.f78 (sig.sg 78) = true:=by kernel_rfl
theorem zwQ:zav zao lay sig Try.f79 (sig.sg 79) = true:=by kernel_rfl
theorem zwV:zav zao lay sig Try.f80 (sig.sg 80) = true:=by kernel_rfl
theorem zwX:zav zao lay sig Try.f81 (sig.sg 81) = true:=by kernel_rfl
theorem zxu:zav zao lay sig Try.f82 (sig.sg 82) = true:=by kernel_rfl
theorem zwN:zav zao lay sig Try.f83 (sig.sg 83) = true:=by kernel_rfl
theorem zwu:zav zao lay sig Try.f84 (sig.sg 84) = true:=by kernel_rfl
theorem zxB:zav zao lay sig Try.f85 (sig.sg 85) = true:=by kernel_rfl
theorem zyk:zav zao lay sig Try.f86 (sig.sg 86) = true:=by kernel_rfl
theorem zyb:zav zao lay sig Try.f87 (sig.sg 87) = true:=by kernel_rfl
theorem zwU:zav zao lay sig Try.f88 (sig.sg 88) = true:=by kernel_rfl
theorem zxd:zav zao lay sig Try.f89 (sig.sg 89) = true:=by kernel_rfl
theorem zye:zav zao lay sig Try.f90 (sig.sg 90) = true:=by kernel_rfl
theorem zyr:zav zao lay sig Try.f91 (sig.sg 91) = true:=by kernel_rfl
theorem zwW:zav zao lay sig Try.f92 (sig.sg 92) = true:=by kernel_rfl
theorem zwt:zav zao lay sig Try.f93 (sig.sg 93) = true:=by kernel_rfl
theorem zwi:zav zao lay sig Try.f94 (sig.sg 94) = true:=by kernel_rfl
theorem zyA:zav zao lay sig Try.f95 (sig.sg 95) = true:=by kernel_rfl
theorem zwv:zav zao lay sig Try.f96 (sig.sg 96) = true:=by kernel_rfl
theorem zxG:zav zao lay sig Try.f97 (sig.sg 97) = true:=by kernel_rfl
theorem zwn:zav zao lay sig Try.f98 (sig.sg 98) = true:=by kernel_rfl
theorem zxt:zav zao lay sig Try.f99 (sig.sg 99) = true:=by kernel_rfl
theorem zuV:zav zao lay sig Try.f100 (sig.sg 100) = true:=by kernel_rfl
theorem zva:zav zao lay sig Try.f101 (sig.sg 101) = true:=by kernel_rfl
theorem zvC:zav zao lay sig Try.f102 (sig.sg 102) = true:=by kernel_rfl
theorem zt6:zav zao lay sig Try.f103 (sig.sg 103) = true:=by kernel_rfl
theorem zt9:zav zao lay sig Try.f104 (sig.sg 104) = true:=by kernel_rfl
theorem zvQ:zav zao lay sig Try.f105 (sig.sg 105) = true:=by kernel_rfl
theorem zu4:zav zao lay sig Try.f106 (sig.sg 106) = true:=by kernel_rfl
theorem zu8:zav zao lay sig Try.f107 (sig.sg 107) = true:=by kernel_rfl
theorem zuG:zav zao lay sig Try.f108 (sig.sg 108) = true:=by kernel_rfl
theorem zuK:zav zao lay sig Try.f109 (sig.sg 109) = true:=by kernel_rfl
theorem zuQ:zav zao lay sig Try.f110 (sig.sg 110) = true:=by kernel_rfl
theorem zv3:zav zao lay sig Try.f111 (sig.sg 111) = true:=by kernel_rfl
theorem zt7:zav zao lay sig Try.f112 (sig.sg 112) = true:=by kernel_rfl
theorem zuA:zav zao lay sig Try.f113 (sig.sg 113) = true:=by kernel_rfl
theorem zuP:zav zao lay sig Try.f114 (sig.sg 114) = true:=by kernel_rfl
theorem zvt:zav zao lay sig Try.f115 (sig.sg 115) = true:=by kernel_rfl
theorem zvx:zav zao lay sig Try.f116 (sig.sg 116) = true:=by kernel_rfl
theorem zwc:zav zao lay sig Try.f117 (sig.sg 117) = true:=by kernel_rfl
theorem zuU:zav zao lay sig Try.f118 (sig.sg 118) = true:=by kernel_rfl
theorem zqc:∀ f,sig.has f = true → ∃ fn,Try.prog.funcs[f]? = some fn ∧ zav zao lay sig fn (sig.sg f) = true:=by
 intro f hf
 have hm:f ∈ [3,4,5,6,7,8,9,10,12,13,14,15,17,18,19,20,21,22,23,24,25,26,27,28,29,30,32,33,34,35,36,37,38,39,40,43,44,45,46,47,48,49,50,51,52,53,56,57,58,59,60,61,62,63,64,65,66,67,68,69,70,71,72,73,74,75,76,77,78,79,80,81,82,83,84,85,86,87,88,89,90,91,92,93,94,95,96,97,98,99,100,101,102,103,104,105,106,107,108,109,110,111,112,113,114,115,116,117,118]:=by
  unfold Sig.has at hf
  obtain ⟨x,hx⟩:=Option.isSome_iff_exists.1 hf
  have:=za3 hx
  have h2:f ∈ sig.map (·.1):=List.mem_map.2 ⟨_,this,rfl⟩
  exact h2
 simp only [List.mem_cons,List.not_mem_nil,or_false] at hm
 rcases hm with rfl | rfl | rfl | rfl | rfl | rfl | rfl | rfl | rfl | rfl | rfl | rfl | rfl | rfl | rfl | rfl | rfl | rfl | rfl | rfl | rfl | rfl | rfl | rfl | rfl | rfl | rfl | rfl | rfl | rfl | rfl | rfl | rfl | rfl | rfl | rfl | rfl | rfl | rfl | rfl | rfl | rfl | rfl | rfl | rfl | rfl | rfl | rfl | rfl | rfl | rfl | rfl | rfl | rfl | rfl | rfl | rfl | rfl | rfl | rfl | rfl | rfl | rfl | rfl | rfl | rfl | rfl | rfl | rfl | rfl | rfl | rfl | rfl | rfl | rfl | rfl | rfl | rfl | rfl | rfl | rfl | rfl | rfl | rfl | rfl | rfl | rfl | rfl | rfl | rfl | rfl | rfl | rfl | rfl | rfl | rfl | rfl | rfl | rfl | rfl | rfl | rfl | rfl | rfl | rfl | rfl | rfl | rfl | rfl
 ·exact ⟨_,Try.func3,zyV⟩
 ·exact ⟨_,Try.func4,zzB⟩
 ·exact ⟨_,Try.func5,zyM⟩
 ·exact ⟨_,Try.func6,zzc⟩
 ·exact ⟨_,Try.func7,zzf⟩
 ·exact ⟨_,Try.func8,zzs⟩
 ·exact ⟨_,Try.func9,zzj⟩
 ·exact ⟨_,Try.func10,zwJ⟩
 ·exact ⟨_,Try.func12,zxZ⟩
 ·exact ⟨_,Try.func13,zxr⟩
 ·exact ⟨_,Try.func14,zwP⟩
 ·exact ⟨_,Try.func15,zwC⟩
 ·exact ⟨_,Try.func17,zyD⟩
 ·exact ⟨_,Try.func18,zxD⟩
 ·exact ⟨_,Try.func19,zwr⟩
 ·exact ⟨_,Try.func20,zxE⟩
 ·exact ⟨_,Try.func21,zxe⟩
 ·exact ⟨_,Try.func22,zyj⟩
 ·exact ⟨_,Try.func23,zwx⟩
 ·exact ⟨_,Try.func24,zxM⟩
 ·exact ⟨_,Try.func25,zw9⟩
 ·exact ⟨_,Try.func26,zwH⟩
 ·exact ⟨_,Try.func27,zxy⟩
 ·exact ⟨_,Try.func28,zyh⟩
 ·exact ⟨_,Try.func29,zxj⟩
 ·exact ⟨_,Try.func30,zxl⟩
 ·exact ⟨_,Try.func32,zxI⟩
 ·exact ⟨_,Try.func33,zxv⟩
 ·exact ⟨_,Try.func34,zxT⟩
 ·exact ⟨_,Try.func35,zxi⟩
 ·exact ⟨_,Try.func36,zya⟩
 ·exact ⟨_,Try.func37,zxb⟩
 ·exact ⟨_,Try.func38,zxg⟩
 ·exact ⟨_,Try.func39,zyu⟩
 ·exact ⟨_,Try.func40,zxK⟩
 ·exact ⟨_,Try.func43,zyn⟩
 ·exact ⟨_,Try.func44,zwF⟩
 ·exact ⟨_,Try.func45,zw3⟩
 ·exact ⟨_,Try.func46,zyl⟩
 ·exact ⟨_,Try.func47,zwS⟩
 ·exact ⟨_,Try.func48,zwG⟩
 ·exact ⟨_,Try.func49,zxF⟩
 ·exact ⟨_,Try.func50,zyy⟩
 ·exact ⟨_,Try.func51,zym⟩
 ·exact ⟨_,Try.func52,zxm⟩
 ·exact ⟨_,Try.func53,zw0⟩
 ·exact ⟨_,Try.func56,zw1⟩
 ·exact ⟨_,Try.func57,zwz⟩
 ·exact ⟨_,Try.func58,zx7⟩
 ·exact ⟨_,Try.func59,zxU⟩
 ·exact ⟨_,Try.func60,zwL⟩
 ·exact ⟨_,Try.func61,zx8⟩
 ·exact ⟨_,Try.func62,zw2⟩
 ·exact ⟨_,Try.func63,zx0⟩
 ·exact ⟨_,Try.func64,zwT⟩
 ·exact ⟨_,Try.func65,zwk⟩
 ·exact ⟨_,Try.func66,zwo⟩
 ·exact ⟨_,Try.func67,zyw⟩
 ·exact ⟨_,Try.func68,zxq⟩
 ·exact ⟨_,Try.func69,zxV⟩
 ·exact ⟨_,Try.func70,zyp⟩
 ·exact ⟨_,Try.func71,zwM⟩
 ·exact ⟨_,Try.func72,zxR⟩
 ·exact ⟨_,Try.func73,zwD⟩
 ·exact ⟨_,Try.func74,zx9⟩
 ·exact ⟨_,Try.func75,zyc⟩
 ·exact ⟨_,Try.func76,zys⟩
 ·exact ⟨_,Try.func77,zwE⟩
 ·exact ⟨_,Try.func78,zwR⟩
 ·exact ⟨_,Try.func79,zwQ⟩
 ·exact ⟨_,Try.func80,zwV⟩
 ·exact ⟨_,Try.func81,zwX⟩
 ·exact ⟨_,Try.func82,zxu⟩
 ·exact ⟨_,Try.func83,zwN⟩
 ·exact ⟨_,Try.func84,zwu⟩
 ·exact ⟨_,Try.func85,zxB⟩
 ·exact ⟨_,Try.func86,zyk⟩
 ·exact ⟨_,Try.func87,zyb⟩
 ·exact ⟨_,Try.func88,zwU⟩
 ·exact ⟨_,Try.func89,zxd⟩
 ·exact ⟨_,Try.func90,zye⟩
 ·exact ⟨_,Try.func91,zyr⟩
 ·exact ⟨_,Try.func92,zwW⟩
 ·exact ⟨_,Try.func93,zwt⟩
 ·exact ⟨_,Try.func94,zwi⟩
 ·exact ⟨_,Try.func95,zyA⟩
 ·exact ⟨_,Try.func96,zwv⟩
 ·exact ⟨_,Try.func97,zxG⟩
 ·exact ⟨_,Try.func98,zwn⟩
 ·exact ⟨_,Try.func99,zxt⟩
 ·exact ⟨_,Try.func100,zuV⟩
 ·exact ⟨_,Try.func101,zva⟩
 ·exact ⟨_,Try.func102,zvC⟩
 ·exact ⟨_,Try.func103,zt6⟩
 ·exact ⟨_,Try.func104,zt9⟩
 ·exact ⟨_,Try.func105,zvQ⟩
 ·exact ⟨_,Try.func106,zu4⟩
 ·exact ⟨_,Try.func107,zu8⟩
 ·exact ⟨_,Try.func108,zuG⟩
 ·exact ⟨_,Try.func109,zuK⟩
 ·exact ⟨_,Try.func110,zuQ⟩
 ·exact ⟨_,Try.func111,zv3⟩
 ·exact ⟨_,Try.func112,zt7⟩
 ·exact ⟨_,Try.func113,zuA⟩
 ·exact ⟨_,Try.func114,zuP⟩
 ·exact ⟨_,Try.func115,zvt⟩
 ·exact ⟨_,Try.func116,zvx⟩
 ·exact ⟨_,Try.func117,zwc⟩
 ·exact ⟨_,Try.func118,zuU⟩
end Go.Proofs.Ytbodfaghedolbaa
set_option maxRecDepth 100000
namespace Go.Proofs.Ytbodfaghedolbaa
open Go Go.RowKit Go.BigFrame
def ext:znO:=[]
theorem zp2:∀ f e,sig.has f = false → ext.lookup f = some e → ∀ call,za0 Try.prog sig call → zjM Try.prog sig f (zig call e):=by
 intro f e _ he call hC
 cases he
end Go.Proofs.Ytbodfaghedolbaa
namespace Go.Proofs.Ytbodfaghedolbaa
open Go Go.RowKit
abbrev TOrc:=FuncId → List AC → List SV → Option (AV × List AC)
structure TS where
 s:VS
 tk:List Nat
 q:List AC
def zub (tk:List Nat):Operand → Bool
 | .tmp i => tk.any fun t => Nat.beq t i
 | _ => false
def zjY (L:Lay) (tk:List Nat) (o:Oper):Bool:=match o.op with
 | .move x | .assign x => zub tk x && (L.ti o.type).isNone
 | _ => false
def zfG (T:Nat → Bool) (o:Oper):Bool:=match o.op with
 | .call { callee:=.value (.func f),.. } => T f
 | _ => false
def zfZ (d:Option Nat) (tk:List Nat):List Nat:=match d with
 | some d => tk.filter fun t => !Nat.beq t d
 | none => tk
def zj0 (L:Lay) (ct:TOrc) (o:Oper) (t:TS):Option (AV × List AC):=match o.op with
 | .call { callee:=.value (.func f),args,argTypes } => match args.toList,argTypes.toList with
  | x :: xs,_ :: ts => if zub t.tk x then (zeG L t.s xs ts).bind fun vs => ct f t.q vs else none
  | _,_ => none
 | _ => none
def zeJ (b:Oper → VS → Option VS) (L:Lay) (T:Nat → Bool) (ct:TOrc) (o:Oper) (t:TS):Option TS :=
 if zfG T o then (zj0 L ct o t).map fun r => ⟨t.s.put o.dst r.1,zfZ o.dst t.tk,r.2⟩
 else if zjY L t.tk o then match o.dst with
  | some d => some ⟨t.s.put (some d) .und,d :: t.tk,t.q⟩
  | none => none
 else (b o t.s).map fun s' => ⟨s',zfZ o.dst t.tk,t.q⟩
def zcQ (b:Oper → VS → Option VS) (L:Lay) (T:Nat → Bool) (ct:TOrc) (all:List Oper) (o:Oper) (t:TS):Option TS:=match o.guard with
 | none => zeJ b L T ct o t
 | some g => (zcb all t.s g).bind fun u => if u then zeJ b L T ct o t else some ⟨t.s.put o.dst .und,zfZ o.dst t.tk,t.q⟩
def zcW (b:Oper → VS → Option VS) (L:Lay) (T:Nat → Bool) (ct:TOrc) (all:List Oper):List Oper → TS → Option TS
 | [],t => some t
 | o :: rest,t => (zcQ b L T ct all o t).bind (zcW b L T ct all rest)
def zyq (tk:List Nat):Bool:=tk.any fun t => Nat.beq t 0
def zjz (L:Lay) (T:Nat → Bool) (call:Orc) (ct:TOrc) (ops:List Oper) (d:Bool) (x:List AV × List AC):Option (List AV × List AC) :=
 (if d then zcW (zaJ L call) L T ct ops ops ⟨{ σ:=zhm x.1,pe:=[] },[0],x.2⟩ else zcW (vop L call) L T ct ops ops ⟨{ σ:=x.1,pe:=[] },[0],x.2⟩).bind fun t =>
  if zyq t.tk then some (t.s.σ,t.q) else none
def zaS (L:Lay) (T:Nat → Bool) (call:Orc) (ct:TOrc):Nat → Code → List AV × List AC → Option (Xt × (List AV × List AC))
 | 0,_,_ => none
 | n + 1,c,s =>
  match c with
  | .skip => some (.norm,s)
  | .region _ ops d => (zjz L T call ct ops.toList d s).map fun s => (.norm,s)
  | .seq a b => (zaS L T call ct n a s).bind fun r => match r with
   | (.norm,s') => zaS L T call ct n b s'
   | r => some r
  | .cond x a b => (zeO L { σ:=s.1,pe:=[] } x).bind fun t => if t then zaS L T call ct n a s else zaS L T call ct n b s
  | .block id b => (zaS L T call ct n b s).map fun r => match r with
   | (.exit i,s') => if i = id then (.norm,s') else (.exit i,s')
   | r => r
  | .loop b => (zaS L T call ct n b s).bind fun r => match r with
   | (.norm,s') => zaS L T call ct n (.loop b) s'
   | r => some r
  | .exit id => some (.exit id,s)
  | .ret => some (.ret,s)
  | _ => none
def zj2 (L:Lay) (T:Nat → Bool) (call:Orc) (ct:TOrc) (n:Nat) (fn:Func) (q:List AC) (args:List SV):Option (AV × List AC) :=
 match fn.body with
 | none => none
 | some c => if args.length + 1 ≤ fn.ntmps then (zaS L T call ct n c (.und :: (args.map .v ++ List.replicate (fn.ntmps - (args.length + 1)) .und),q)).bind fun r => match r with
  | (.exit _,_) => none
  | (_,s) => (zd1 L s.1 fn.results.toList).map fun vs => (match vs with
   | [v] => .v v
   | vs => .tup vs,s.2)
  else none
def TOrc.le (a b:TOrc):Prop:=∀ f q x r,a f q x = some r → b f q x = some r
structure zxY where
 run:TOrc → List AC → List SV → Option (AV × List AC)
 mono:∀ a b,TOrc.le a b → ∀ q x r,run a q x = some r → run b q x = some r
 cont:∀ (c:TOrc) (cs:Nat → TOrc),(∀ n m,n ≤ m → TOrc.le (cs n) (cs m)) → (∀ f q x r,c f q x = some r → ∃ n,cs n f q x = some r) → ∀ q x r,run c q x = some r → ∃ n,run (cs n) q x = some r
abbrev zkU:=Nat → Option zxY
def zdX (P:Program) (L:Lay) (T:Nat → Bool) (call:Orc) (E:zkU):Nat → TOrc
 | 0,_,_,_ => none
 | n + 1,f,q,args => if T f then match E f with
  | some e => e.run (zdX P L T call E n) q args
  | none => match P.funcs[f]? with
   | some fn => zj2 L T call (zdX P L T call E n) n fn q args
   | none => none
  else none
end Go.Proofs.Ytbodfaghedolbaa
namespace Go.Proofs.Ytbodfaghedolbaa
open Go Go.RowKit
def RepQ (p:Stb) (w:World) (v:Value) (c:AC):Prop:=Rep p w v c ∨ ∃ A n cap,v = .slice A n cap ∧ n ≤ cap ∧ ∃ ns:List Nat,ns.length = n ∧ c = .sl 1 (ns.map fun (u:Nat) => [.bool true,.int (u:Int)]) ∧ (0 < n → ∃ b o,A = some ⟨b,o,none⟩ ∧ b < w.heap.size ∧ o + n ≤ p b ∧ (∀ k,¬ p.ok b k) ∧ ∀ (i u:Nat),ns[i]? = some u → u ≤ 255 ∧ w.cell? ⟨b,o + i,none⟩ = some (.int .u8 (u:Int)))
theorem RepQ.evo {B:Nat → Prop} {p p':Stb} {w w':World} (h:Evo B p w p' w') {v:Value} {c:AC}:RepQ p w v c → RepQ p' w' v c
 | .inl hr => .inl (hr.evo h)
 | .inr ⟨A,n,cap,e,hc,ns,hl,hq,hr⟩ => .inr ⟨A,n,cap,e,hc,ns,hl,hq,fun hn => by
   obtain ⟨b,o,hA,hb,hp,hok,hx⟩:=hr hn
   refine ⟨b,o,hA,Nat.lt_of_lt_of_le hb h.size,Nat.le_trans hp (h.keepP b hb),fun k hk => hok k (by rw [← h.okk b hb]; exact hk),fun i u hu => ?_⟩
   obtain ⟨h1,h2⟩:=hx i u hu
   have:=(List.getElem?_eq_some_iff.1 hu).1
   exact ⟨h1,by rw [h.stable b _ hb (by omega)]; exact h2⟩⟩
def RepQs (p:Stb) (w:World):List Value → List AC → Prop
 | [],[] => True
 | v :: vs,c :: cs => RepQ p w v c ∧ RepQs p w vs cs
 | _,_ => False
theorem RepQs.evo {B:Nat → Prop} {p p':Stb} {w w':World} (h:Evo B p w p' w'):∀ {vs:List Value} {cs:List AC},RepQs p w vs cs → RepQs p' w' vs cs
 | [],[],_ => trivial
 | _ :: _,_ :: _,⟨a,b⟩ => ⟨a.evo h,RepQs.evo h b⟩
structure TK (p:Stb) (w:World) (Own:Nat → Prop) (b:Nat) (q:List AC):Prop where
 not:¬ Own b
 lt:b < w.heap.size
 pz:p b = 0
 cells:∃ a T,w.heap[b]? = some (.cells a T (0,0)) ∧ RepQs p w a.toList q
theorem TK.evo {p p':Stb} {w w':World} {Own:Nat → Prop} {b:Nat} {q:List AC} (h:TK p w Own b q) (he:Evo Own p w p' w'):TK p' w' Own b q:=by
 obtain ⟨a,T,h1,h2⟩:=h.cells
 exact ⟨h.not,Nat.lt_of_lt_of_le h.lt he.size,by rw [he.same b h.lt h.not]; exact h.pz,a,T,by rw [he.block b h.lt h.not]; exact h1,h2.evo he⟩
theorem TK.own {p:Stb} {w:World} {Own Own':Nat → Prop} {b:Nat} {q:List AC} (h:TK p w Own b q) (hn:¬ Own' b):TK p w Own' b q:=⟨hn,h.lt,h.pz,h.cells⟩
def za6 (b:Nat):Value:=.pointer (some ⟨b,0,none⟩)
def zoi (P:Program) (S:Sig) (f:FuncId) (run:List AC → List SV → Option (AV × List AC)):Prop:=∀ q args r,run q args = some r → (zht r.1 = true ∧ ∃ fn,P.funcs[f]? = some fn ∧ fn.body.isSome = true ∧ (fn.name == "runtime.NumGoroutine") = false) ∧
 ∀ p w b (vals:List Value),RepSs p w vals args → Zp p w → TK p w (fun _ => False) b q →
 Calls P f (za6 b :: vals).toArray w fun e w' => ∃ v,e = .returned v ∧ ∃ p',SR p' w' v r.1 ∧ (∀ cs,r.1 ≠ .box cs) ∧ r.1 ≠ .und ∧ Evo (· = b) p w p' w' ∧ Zp p' w' ∧ TK p' w' (fun _ => False) b r.2 ∧
  (∀ e ∈ (S.sg f).gives,∃ u,zay w' v e.1 = some u ∧ Rt p' w' u e.2 ∧ ∀ c,zau u = some c → w.heap.size ≤ c) ∧
  (∀ (e e':Nat × Nat) (u u':Value) (c:Nat),e ∈ (S.sg f).gives → e' ∈ (S.sg f).gives → e.1 ≠ e'.1 → zay w' v e.1 = some u → zay w' v e'.1 = some u' → zau u = some c → zau u' ≠ some c)
def zcM (P:Program) (S:Sig) (T:Nat → Bool) (ct:TOrc):Prop:=∀ f,T f = true → (S.sg f).takes = [] ∧ zoi P S f (ct f)
def World.withBlock (w:World) (b:Nat) (o:Obj):World:={ w with heap:=w.heap.setIfInBounds b o }
section
variable {P:Program} {L:Lay} {S:Sig} {T:Nat → Bool} {call:Orc} {ct:TOrc} {p p':Stb} {w w' w1:World} {a:Act} {s s':VS} {q:SPe} {o:Oper} {st st':Stt} {Own:Nat → Prop} {base b:Nat}
theorem zhI (w:World) (b c:Nat) (x:Obj):(World.withBlock w b x).heap[c]? = if b = c ∧ c < w.heap.size then some x else w.heap[c]?:=by
 simp only [World.withBlock,Array.getElem?_setIfInBounds]
 by_cases h:b = c
 ·subst h
  by_cases h2:b < w.heap.size
  ·simp [h2]
  ·simp [h2]
 ·simp [h]
theorem zgN (w:World) (b:Nat) (x:Obj):(World.withBlock w b x).heap.size = w.heap.size:=by simp [World.withBlock]
theorem zuF (x:Obj) (hp:p b = 0):Evo (· = b) p w p (World.withBlock w b x) :=
 zch hp (zgN w b x) (fun y hy => by rw [zhI,if_neg (fun h => hy h.1.symm)]) rfl rfl rfl
theorem zxS {x:Obj} (h:Evo (· = b) p w p' w') (hlt:b < w.heap.size) (hp:p b = 0) (hp':p' b = 0) (hx:w'.heap[b]? = some x):Evo (fun _ => False) p (World.withBlock w b x) p' w':=by
 have hs:=zgN w b x
 refine ⟨h.os,h.tape,h.output,by rw [hs]; exact h.size,fun c hc _ => ?_,fun c hc => h.keepP c (by rw [hs] at hc; exact hc),fun c hc _ => ?_,fun c o hc ho => ?_,fun c hc => h.okk c (by rw [hs] at hc; exact hc),fun c h1 h2 => h.uq c (by rw [hs] at h1; exact h1) h2⟩
 ·rw [hs] at hc
  rw [zhI]
  by_cases hb:b = c
  ·subst hb; rw [if_pos ⟨rfl,hc⟩]; exact hx
  ·rw [if_neg (fun e => hb e.1)]; exact h.block c hc (fun e => hb e.symm)
 ·rw [hs] at hc
  by_cases hb:c = b
  ·subst hb; rw [hp,hp']
  ·exact h.same c hc hb
 ·rw [hs] at hc
  have hb:c ≠ b:=fun e => by subst e; rw [hp] at ho; omega
  rw [h.stable c o hc ho]
  exact (World.cell?_of_block (w:=w) (by rw [zhI,if_neg (fun e => hb e.1.symm)])).symm
theorem Inv.off {m:Array Value} (hI:Inv st p w m s Own) (he:Evo (· = b) p w p w1) (hs:w1.heap.size = w.heap.size) (hb:¬ Own b):Inv st p w1 m s Own:=by
 obtain ⟨val,hR⟩:=hI.rooms
 have hbox:∀ d cs,s.get d = .box cs → m.getD d undef ≠ .pointer (some ⟨b,0,none⟩):=fun d cs hd e => by
  obtain ⟨c,e1,_,h1,_⟩:=hI.box d cs hd
  rw [e] at e1
  cases e1
  exact hb h1
 have harr:∀ d k rows,s.get d = .arr k rows → zau (m.getD d undef) ≠ some b:=fun d k rows hd e => hb (hI.arr d k rows b hd e).2.1
 have hzp:Zp p w1:=⟨fun c hc => hI.zp.1 c (by rw [← hs]; exact hc),fun c hc => hI.zp.2 c (by rw [← hs]; exact hc)⟩
 refine ⟨hI.size,hI.len,hI.nbk,hI.sonce,fun t => ?_,hzp,hI.once,hI.spe,fun c hc => hI.own c (by rw [← hs]; exact hc),fun d cs hd => ?_,hI.boxd,fun d k rows c hd hc => ?_,hI.al,hI.mks,val,⟨fun z id hm => ?_,fun id k hm => ?_,hR.own,hR.apart,hR.row⟩⟩
 ·obtain ⟨g1,g2⟩:=hI.slots t
  refine ⟨zec he (fun cs hcs c hc e => by subst e; exact hbox t cs hcs hc) (fun k rows hk c hc e => by subst e; exact harr t k rows hk hc) g1,fun r hr => ?_⟩
  have:=g2 r hr
  cases r with
  | ref cs => exact PRef.evo he this
  | box d off => exact this
  | el d k n j => exact this
 ·obtain ⟨c,h1,h2,h3,h4⟩:=hI.box d cs hd
  exact ⟨c,h1,h2,h3,by rw [hs]; exact h4⟩
 ·obtain ⟨h1,h2,h3,h4⟩:=hI.arr d k rows c hd hc
  exact ⟨h1,h2,by rw [hs]; exact h3,h4⟩
 ·obtain ⟨h1,h2⟩:=hR.place z id hm
  refine ⟨?_,h2⟩
  have hsl:=(hI.slots z.1).1
  cases hx:s.get z.1 with
  | und => exact absurd hx h2
  | v x => rw [hx] at hsl; rw [zbh hsl] at h1 ⊢; exact h1
  | tup xs => rw [hx] at hsl; obtain ⟨arr,e,_⟩:=hsl; rw [e] at h1 ⊢; exact h1
  | al d => rw [hx] at hsl; obtain ⟨_,_,_,e⟩:=hsl; rw [e] at h1 ⊢; exact h1
  | arr k rows =>
   rw [hx] at hsl
   rcases hsl.2.2 with ⟨e,_⟩ | ⟨_,_,_,_,_,_,e,_⟩
   ·rw [e] at h1 ⊢; exact h1
   ·rw [e] at h1 ⊢; exact h1
  | box cs =>
   obtain ⟨c,e,_,h3,hlt⟩:=hI.box z.1 cs hx
   rw [e] at h1 ⊢
   show w1.cell? ⟨c,z.2,none⟩ = _
   rw [World.cell?_of_block (w:=w) (he.block c hlt (fun e => hb (by rw [← e]; exact h3)))]
   exact h1
 ·exact (hR.alive id k hm).evo he (fun c hc e => by subst e; exact hb (hR.own id k _ hm hc).1)
theorem ziH {d:Option Nat} {tk:List Nat} {t:Nat} (h:t ∈ zfZ d tk):t ∈ tk ∧ d ≠ some t:=by
 unfold zfZ at h
 split at h
 ·rename_i d
  rw [List.mem_filter] at h
  simp only [Bool.not_eq_true'] at h
  exact ⟨h.1,fun e => by cases e; rw [Nat.beq_refl] at h; cases h.2⟩
 ·exact ⟨h,by simp⟩
theorem znK {tk:List Nat} {x:Operand} (h:zub tk x = true):∃ i,x = .tmp i ∧ i ∈ tk:=by
 unfold zub at h
 split at h
 ·rename_i i
  simp only [List.any_eq_true] at h
  obtain ⟨t,ht,he⟩:=h
  exact ⟨i,rfl,by rw [← Nat.eq_of_beq_eq_true he]; exact ht⟩
 ·cases h
theorem znu (hC:zcM P S T ct) {f:FuncId} {xs:Array Operand} {ts:Array TypeId} (hop:o.op = .call { callee:=.value (.func f),args:=xs,argTypes:=ts }) (hf:T f = true) {x:Operand} {xs':List Operand} (hxs:xs.toList = x :: xs')
  (hx:a.eval x = za6 b) {vs:List SV} (hreps:RepSs p w (xs'.map a.eval) vs) {q0 q1:List AC} {r:AV} (hcall:ct f q0 vs = some (r,q1)) (htk:TK p w Own b q0) (hz:Zp p w) (hsz:a.tmps.size = s.σ.length) :
  Does P o a w fun v w' => ∃ p' w1,zg4 L S q o a p w1 (s.put o.dst r) v p' w' ∧ Evo (· = b) p w p w1 ∧ w1.heap.size = w.heap.size ∧ TK p' w' Own b q1:=by
 obtain ⟨htakes,hC1⟩:=hC f hf
 obtain ⟨⟨_,fn,f1,f2,f3⟩,hc⟩:=hC1 q0 vs (r,q1) hcall
 have hcalls:=hc p w b (xs'.map a.eval) hreps hz (htk.own (fun h => h))
 have hargs:xs.map a.eval = (za6 b :: xs'.map a.eval).toArray:=by
  apply Array.ext'
  simp [hxs,hx]
 refine zl8 (f:=f) (args:=xs.map a.eval) ?_ ?_
 ·have f3':¬ fn.name = "runtime.NumGoroutine":=by simpa using f3
  have hne:fn.body ≠ none:=by cases h:fn.body <;> simp [h] at f2 ⊢
  simp [execOp,hop,resolve,invoke,Act.eval,Deferred.ofValue,callFunc,f1,f3',hne]
 ·rw [hargs]
  refine hcalls.mono ?_
  rintro e w' ⟨v,rfl,p',hsr,hnb,hnu,hev,hz',hT',hg1,hg2⟩
  obtain ⟨arr,ty,hx',_⟩:=hT'.cells
  have heats:zbM L S o = []:=by simp [zbM,hop,htakes]
  have hfr:zaI L S o = (S.sg f).gives:=by simp [zaI,hop]
  have hmv:zaK L q o = []:=by simp [zaK,hop]
  have he1:=zxS hev htk.lt htk.pz hT'.pz hx'
  have hs1:=zgN w b (.cells arr ty (0,0))
  refine ⟨v,rfl,p',World.withBlock w b (.cells arr ty (0,0)),⟨he1.weaken (fun _ _ h => h.elim),hz',zbI hsz hsr,zgL hnb,zcV hnu,?_,?_,by rw [hmv]; simp⟩,zuF _ htk.pz,hs1,hT'.own htk.not⟩
  ·rw [hfr]
   intro e he
   obtain ⟨u,h1,h2,h3⟩:=hg1 e he
   exact ⟨u,h1,h2,fun c hc => .inl (by rw [hs1]; exact h3 c hc)⟩
  ·rw [hfr]
   intro e e' u u' c he he' hne h1 h2 h3
   exact hg2 e e' u u' c he he' hne h1 h2 h3
end
end Go.Proofs.Ytbodfaghedolbaa
namespace Go.Proofs.Ytbodfaghedolbaa
open Go Go.RowKit
def zk7 (b:Nat) (m:Array Value) (tk:List Nat):Prop:=∀ t ∈ tk,m.getD t undef = za6 b
section
variable {P:Program} {L:Lay} {S:Sig} {T:Nat → Bool} {call:Orc} {ct:TOrc} {p p':Stb} {w w' w1:World} {a:Act} {s s':VS} {t t':TS} {o:Oper} {st st':Stt} {Own:Nat → Prop} {base b:Nat}
theorem zfq (h:zfG T o = true):∃ f xs ts,o.op = .call { callee:=.value (.func f),args:=xs,argTypes:=ts } ∧ T f = true:=by
 unfold zfG at h
 split at h
 ·rename_i f xs ts hop
  exact ⟨f,xs,ts,hop,h⟩
 ·cases h
theorem zjb {r:AV × List AC} (h:zj0 L ct o t = some r):∃ f xs ts x xs' t0 ts' vs i,o.op = .call { callee:=.value (.func f),args:=xs,argTypes:=ts } ∧ xs.toList = x :: xs' ∧ ts.toList = t0 :: ts' ∧ x = .tmp i ∧ i ∈ t.tk ∧ zeG L t.s xs' ts' = some vs ∧ ct f t.q vs = some r:=by
 unfold zj0 at h
 split at h
 ·rename_i f xs ts hop
  split at h
  ·rename_i x xs' t0 ts' h1 h2
   split at h
   ·rename_i hx
    simp only [Option.bind_eq_some_iff] at h
    obtain ⟨vs,hvs,h⟩:=h
    obtain ⟨i,hi,him⟩:=znK hx
    exact ⟨f,xs,ts,x,xs',t0,ts',vs,i,hop,h1,h2,hi,him,hvs,h⟩
   ·cases h
  ·cases h
 ·cases h
theorem zfk {tk:List Nat} (h:zjY L tk o = true):∃ i,(o.op = .move (.tmp i) ∨ o.op = .assign (.tmp i)) ∧ i ∈ tk ∧ L.ti o.type = none:=by
 unfold zjY at h
 split at h
 ·rename_i x hop
  simp only [Bool.and_eq_true,Option.isNone_iff_eq_none] at h
  obtain ⟨i,rfl,hi⟩:=znK h.1
  exact ⟨i,.inl hop,hi,h.2⟩
 ·rename_i x hop
  simp only [Bool.and_eq_true,Option.isNone_iff_eq_none] at h
  obtain ⟨i,rfl,hi⟩:=znK h.1
  exact ⟨i,.inr hop,hi,h.2⟩
 ·cases h
theorem zrb {q:SPe} {i d:Nat} (hop:o.op = .move (.tmp i) ∨ o.op = .assign (.tmp i)) (hti:L.ti o.type = none) (hv:a.tmps.getD i undef = za6 b) (hz:Zp p w) (hsz:a.tmps.size = s.σ.length) (hd:o.dst = some d) :
  Does P o a w fun v w' => v = za6 b ∧ w' = w ∧ zg4 L S q o a p w (s.put (some d) .und) v p w:=by
 have hfr:zaI L S o = []:=by
  rcases hop with hop | hop <;> simp [zaI,hop]
 have hmv:zaK L q o = []:=by
  rcases hop with hop | hop <;> simp [zaK,hop,hti]
 have hev:(execOp a.eval o).run P w = .ok (.value (za6 b)) w:=by
  have:a.eval (.tmp i) = za6 b:=hv
  rcases hop with hop | hop <;> simp [execOp,hop,this]
 refine zaM hev ⟨rfl,rfl,.refl _ _ _,hz,?_,?_,fun _ _ _ => .inr ⟨hfr,hmv⟩,by rw [hfr]; simp,by rw [hfr]; simp,by rw [hmv]; simp⟩
 ·have:=zbI (o:=o) (w:=w) (p:=p) (a:=a) (s:=s) (x:=.und) (v:=za6 b) hsz (by intro c h; cases h)
  intro d' hd'
  have h1:=this d' hd'
  rw [hd] at hd'
  cases hd'
  rw [hd] at h1 ⊢
  exact h1
 ·intro d' cs hd' h
  rw [hd] at hd'
  cases hd'
  rw [zbW] at h
  split at h <;> cases h
theorem zvj (hC:zcM P S T ct) (hI:Inv st p w a.tmps t.s Own) (htk:zk7 b a.tmps t.tk) (hK:TK p w Own b t.q) (hk:zfG T o = true ∨ zjY L t.tk o = true) {bop:Oper → VS → Option VS} (hs:zeJ bop L T ct o t = some t') (hstep:zdh L S base o st = some st')
  (hb1:∀ q id,(q,id) ∈ st.pid → id < base) (hb2:∀ id k,(id,k) ∈ st.alive → id < base) :
  Does P o a w fun v w' => ∃ p',Inv st' p' w' (a.put o.dst v).tmps t'.s Own ∧ Evo (fun c => Own c ∨ c = b) p w p' w' ∧ TK p' w' Own b t'.q ∧ zk7 b (a.put o.dst v).tmps t'.tk:=by
 have hkeep:∀ v,zk7 b (a.put o.dst v).tmps (zfZ o.dst t.tk):=fun v x hx => by
  obtain ⟨h1,h2⟩:=ziH hx
  rw [zaL h2]
  exact htk x h1
 unfold zeJ at hs
 split at hs
 ·rename_i hT
  simp only [Option.map_eq_some_iff] at hs
  obtain ⟨r,hcall,rfl⟩:=hs
  obtain ⟨f,xs,ts,x,xs',t0,ts',vs,i,hop,hxs,hts,hx,him,hvs,hct⟩:=zjb hcall
  obtain ⟨f',xs2,ts2,hop',hTf⟩:=zfq hT
  rw [hop] at hop'
  cases hop'
  have hreps:=zjt (p:=p) (w:=w) (a:=a) _ _ _ hvs (fun x _ t _ => hI.slots t)
  have htakes:=(hC f hTf).1
  have heats:zbM L S o = []:=by simp [zbM,hop,htakes]
  have hmv:zaK L st.spe o = []:=by simp [zaK,hop]
  refine (znu (L:=L) (q:=st.spe) (s:=t.s) hC hop hTf hxs (by rw [hx]; exact htk i him) hreps hct hK hI.zp hI.size).mono ?_
  rintro v w' ⟨p',w1,hp,he1,hs1,hT'⟩
  obtain ⟨hF,ho⟩:=zaq (o:=o) hI.once r.1
  have hsp:zbN (zbD L o st.spe) (t.s.put o.dst r.1):=zgm hI.spe hI.sonce hI.once r.1 (by simp [hop]) (by simp [hop])
  have hval:zbB r.1 = false:=by
   have:=((hC f hTf).2 _ _ _ hct).1.1
   cases hr:r.1 <;> simp_all [zht,zbB]
  obtain ⟨g1,g2⟩:=zlQ (hI.off he1 hs1 hK.not) hF ho hsp hstep (by rw [heats]; intro x hx; cases hx) (by rw [heats]; intro x hx; cases hx) hb1 hb2 hp (.plain (za1 hval) (by rw [hmv]; intro e he; cases he))
  exact ⟨p',g1,he1.trans g2 (fun _ _ h => .inr h) (fun _ _ h => .inl h),hT',hkeep v⟩
 ·rename_i hnT
  split at hs
  case isFalse h => rcases hk with hk | hk <;> contradiction
  rename_i hto
  split at hs
  case h_2 => cases hs
  rename_i d hd
  cases hs
  obtain ⟨i,hop,him,hti⟩:=zfk hto
  refine (zrb (S:=S) (q:=st.spe) (s:=t.s) hop hti (htk i him) hI.zp hI.size hd).mono ?_
  rintro v w' ⟨hv,rfl,hp⟩
  have heats:zbM L S o = []:=by rcases hop with hop | hop <;> simp [zbM,hop]
  have hmv:zaK L st.spe o = []:=by rcases hop with hop | hop <;> simp [zaK,hop,hti]
  obtain ⟨hF,ho⟩:=zaq (o:=o) hI.once .und
  have hsp:zbN (zbD L o st.spe) (t.s.put o.dst .und):=zgm hI.spe hI.sonce hI.once .und (by rcases hop with hop | hop <;> simp [hop]) (by rcases hop with hop | hop <;> simp [hop])
  rw [hd] at hF ho hsp
  obtain ⟨g1,g2⟩:=zlQ hI hF ho hsp hstep (by rw [heats]; intro x hx; cases hx) (by rw [heats]; intro x hx; cases hx) hb1 hb2 hp (.plain (by
   intro d' hd'
   rw [hd] at hd'
   cases hd'
   rw [zbW]
   split <;> rfl) (by rw [hmv]; intro e he; cases he))
  refine ⟨p,g1,g2.weaken (fun _ _ h => .inl h),hK,fun x hx => ?_⟩
  by_cases hxd:o.dst = some x
  ·rw [hxd,zeM]
   ·exact hv
   ·have:=(zl5 hI hstep).2 x hxd
    rw [hI.size]
    exact this
  ·rw [zaL hxd]
   rcases List.mem_cons.1 hx with rfl | hx
   ·exact absurd hd hxd
   ·exact htk x hx
theorem zuO (hL:LayOk P L) (hC:za0 P S call) (hT:zcM P S T ct) {ops:Array Oper} {i:Nat} (hi:ops[i]? = some o) (hI:Inv st p w a.tmps t.s Own) (hids:zcv st base) (htk:zk7 b a.tmps t.tk) (hK0:TK p w Own b t.q)
  (hs:zcQ (vop L call) L T ct ops.toList o t = some t') (hstep:zma L S base o st = some st')
  {Q:Exit → Act → World → Prop} {K:Act → World → Prop} (hK:∀ a' w' p',Inv st' p' w' a'.tmps t'.s Own → zk7 b a'.tmps t'.tk → TK p' w' Own b t'.q → Evo (fun c => Own c ∨ c = b) p w p' w' → a'.defers = a.defers → K a' w'):wpOp P ops Q i K a w:=by
 have hkeep:∀ (m:Array Value),(∀ t,o.dst ≠ some t → m.getD t undef = a.tmps.getD t undef) → zk7 b m (zfZ o.dst t.tk):=fun m hm x hx => by
  obtain ⟨h1,h2⟩:=ziH hx
  rw [hm x h2]
  exact htk x h1
 by_cases hk:zfG T o = true ∨ zjY L t.tk o = true
 ·have hst:zaA o = false:=by
   rcases hk with hk | hk
   ·obtain ⟨f,xs,ts,hop,_⟩:=zfq hk
    simp [zaA,hop]
   ·obtain ⟨j,hop,_⟩:=zfk hk
    rcases hop with hop | hop <;> simp [zaA,hop]
  have hel:zld o st = false:=by
   unfold zld
   split
   ·rename_i hop
    simp [zaA,hop] at hst
   ·rfl
  have hstep0:=hstep
  unfold zma at hstep0
  rw [if_neg (by rw [hel]; simp)] at hstep0
  simp only [Option.map_eq_some_iff] at hstep0
  obtain ⟨st1,hstep1,rfl⟩:=hstep0
  have hstep':=zbm hst hstep1
  have hni:∀ x y z,o.op ≠ .indexAddr x y z:=fun x y z e => by
   rcases hk with hk | hk
   ·obtain ⟨f,xs,ts,hop,_⟩:=zfq hk
    rw [hop] at e; cases e
   ·obtain ⟨j,hop,_⟩:=zfk hk
    rcases hop with hop | hop <;> (rw [hop] at e; cases e)
  have hnbF:∀ s',zev o t.s s' → zry (zjm o st.nb) s':=fun s' hF => zlW hF hI.nbk fun d _ ⟨x,y,z,e⟩ => absurd e (hni x y z)
  have hsF:∀ t',zeJ (vop L call) L T ct o t = some t' → zev o t.s t'.s:=fun t' h => by
   unfold zeJ at h
   split at h
   ·simp only [Option.map_eq_some_iff] at h
    obtain ⟨r,_,rfl⟩:=h
    exact (zaq hI.once _).1
   ·split at h
    ·split at h
     ·rename_i d hd
      cases h
      have:=(zaq (o:=o) hI.once .und).1
      rw [hd] at this
      exact this
     ·cases h
    ·rename_i h1 h2
     rcases hk with hk | hk <;> contradiction
  unfold wpOp
  rw [hi]
  simp only
  have hdef:∀ v,(a.put o.dst v).defers = a.defers:=fun v => by cases o.dst <;> rfl
  have hdo:zeJ (vop L call) L T ct o t = some t' → o.wp P a w K Q:=by
   intro hs
   exact zvj hT hI htk hK0 hk hs hstep' hids.1 hids.2 K Q fun v w' ⟨p',h1,h2,h3,h4⟩ => hK _ _ p' (Inv.withNb (a:=a.put o.dst v) h1 (hnbF _ (hsF _ hs))) h4 h3 h2 (hdef v)
  unfold zcQ at hs
  split at hs
  ·rename_i hg
   have hw:Region.wanted o (yielded ops a.tmps) = true:=by unfold Region.wanted; rw [hg]
   rw [if_pos hw]
   exact .inl (hdo hs)
  ·rename_i g hg
   simp only [Option.bind_eq_some_iff] at hs
   obtain ⟨u,hu,hs⟩:=hs
   have hw:=zi0 hI.size (fun d _ => hI.slots d) hg hu
   cases u with
   | true =>
    rw [if_pos hw]
    exact .inl (hdo hs)
   | false =>
    rw [if_neg (by rw [hw]; simp)]
    simp only [Bool.false_eq_true,if_false,Option.some.injEq] at hs
    subst hs
    exact hK _ _ p (Inv.withNb (a:=a.put o.dst undef) (step_skip hI hg hstep') (hnbF _ (zaq hI.once .und).1)) (hkeep _ fun t ht => zaL ht) hK0 (.refl _ _ _) (hdef _)
 ·have hs':ztH L call ops.toList o t.s = some t'.s ∧ t'.tk = zfZ o.dst t.tk ∧ t'.q = t.q:=by
   have hv:∀ t',zeJ (vop L call) L T ct o t = some t' → vop L call o t.s = some t'.s ∧ t'.tk = zfZ o.dst t.tk ∧ t'.q = t.q:=fun t' h => by
    unfold zeJ at h
    rw [if_neg (fun e => hk (.inl e)),if_neg (fun e => hk (.inr e))] at h
    simp only [Option.map_eq_some_iff] at h
    obtain ⟨s',h1,rfl⟩:=h
    exact ⟨h1,rfl,rfl⟩
   unfold zcQ at hs
   unfold ztH
   split at hs
   ·rename_i hg
    rw [hg]
    exact hv t' hs
   ·rename_i g hg
    rw [hg]
    simp only [Option.bind_eq_some_iff] at hs ⊢
    obtain ⟨u,hu,hs⟩:=hs
    cases u with
    | true => obtain ⟨h1,h2⟩:=hv t' hs; exact ⟨⟨true,hu,h1⟩,h2⟩
    | false =>
     simp only [Bool.false_eq_true,if_false,Option.some.injEq] at hs
     subst hs
     exact ⟨⟨false,hu,rfl⟩,rfl,rfl⟩
  obtain ⟨hs1,hs2,hs3⟩:=hs'
  refine zpP hL hC hi hI hids hs1 hstep fun a' w' p' g1 g2 g3 g4 => ?_
  exact hK a' w' p' g1 (by rw [hs2]; exact hkeep _ g4) (by rw [hs3]; exact hK0.evo g2) (g2.weaken fun _ _ h => .inl h) g3
theorem ztN (hL:LayOk P L) (hC:za0 P S call) (hT:zcM P S T ct) {ops:Array Oper} {i:Nat} (hi:ops[i]? = some o) (hI:Inv st p w a.tmps t.s Own) (hids:zcv st base) (htk:zk7 b a.tmps t.tk) (hK0:TK p w Own b t.q)
  (hs:zcQ (zaJ L call) L T ct ops.toList o t = some t') (hstep:zcO L S base o st = some st')
  {Q:Exit → Act → World → Prop} {K:Act → World → Prop} (hK:∀ a' w' p',Inv st' p' w' a'.tmps t'.s Own → zk7 b a'.tmps t'.tk → TK p' w' Own b t'.q → Evo (fun c => Own c ∨ c = b) p w p' w' → a'.defers = a.defers → K a' w'):wpOp P ops Q i K a w:=by
 have hkeep:∀ (m:Array Value),(∀ t,o.dst ≠ some t → m.getD t undef = a.tmps.getD t undef) → zk7 b m (zfZ o.dst t.tk):=fun m hm x hx => by
  obtain ⟨h1,h2⟩:=ziH hx
  rw [hm x h2]
  exact htk x h1
 by_cases hk:zfG T o = true ∨ zjY L t.tk o = true
 ·have hst:zaA o = false:=by
   rcases hk with hk | hk
   ·obtain ⟨f,xs,ts,hop,_⟩:=zfq hk
    simp [zaA,hop]
   ·obtain ⟨j,hop,_⟩:=zfk hk
    rcases hop with hop | hop <;> simp [zaA,hop]
  have hstep':=zbm hst hstep
  unfold wpOp
  rw [hi]
  simp only
  have hdef:∀ v,(a.put o.dst v).defers = a.defers:=fun v => by cases o.dst <;> rfl
  have hdo:zeJ (zaJ L call) L T ct o t = some t' → o.wp P a w K Q:=by
   intro hs
   exact zvj hT hI htk hK0 hk hs hstep' hids.1 hids.2 K Q fun v w' ⟨p',h1,h2,h3,h4⟩ => hK _ _ p' h1 h4 h3 h2 (hdef v)
  unfold zcQ at hs
  split at hs
  ·rename_i hg
   have hw:Region.wanted o (yielded ops a.tmps) = true:=by unfold Region.wanted; rw [hg]
   rw [if_pos hw]
   exact .inl (hdo hs)
  ·rename_i g hg
   simp only [Option.bind_eq_some_iff] at hs
   obtain ⟨u,hu,hs⟩:=hs
   have hw:=zi0 hI.size (fun d _ => hI.slots d) hg hu
   cases u with
   | true =>
    rw [if_pos hw]
    exact .inl (hdo hs)
   | false =>
    rw [if_neg (by rw [hw]; simp)]
    simp only [Bool.false_eq_true,if_false,Option.some.injEq] at hs
    subst hs
    exact hK _ _ p (step_skip hI hg hstep') (hkeep _ fun t ht => zaL ht) hK0 (.refl _ _ _) (hdef _)
 ·have hs':zcZ L call ops.toList o t.s = some t'.s ∧ t'.tk = zfZ o.dst t.tk ∧ t'.q = t.q:=by
   have hv:∀ t',zeJ (zaJ L call) L T ct o t = some t' → zaJ L call o t.s = some t'.s ∧ t'.tk = zfZ o.dst t.tk ∧ t'.q = t.q:=fun t' h => by
    unfold zeJ at h
    rw [if_neg (fun e => hk (.inl e)),if_neg (fun e => hk (.inr e))] at h
    simp only [Option.map_eq_some_iff] at h
    obtain ⟨s',h1,rfl⟩:=h
    exact ⟨h1,rfl,rfl⟩
   unfold zcQ at hs
   unfold zcZ
   split at hs
   ·rename_i hg
    rw [hg]
    exact hv t' hs
   ·rename_i g hg
    rw [hg]
    simp only [Option.bind_eq_some_iff] at hs ⊢
    obtain ⟨u,hu,hs⟩:=hs
    cases u with
    | true => obtain ⟨h1,h2⟩:=hv t' hs; exact ⟨⟨true,hu,h1⟩,h2⟩
    | false =>
     simp only [Bool.false_eq_true,if_false,Option.some.injEq] at hs
     subst hs
     exact ⟨⟨false,hu,rfl⟩,rfl,rfl⟩
  obtain ⟨hs1,hs2,hs3⟩:=hs'
  refine zq8 hL hC hi hI hids hs1 hstep fun a' w' p' g1 g2 g3 g4 => ?_
  exact hK a' w' p' g1 (by rw [hs2]; exact hkeep _ g4) (by rw [hs3]; exact hK0.evo g2) (g2.weaken fun _ _ h => .inl h) g3
theorem zq3 (hL:LayOk P L) (hC:za0 P S call) (hT:zcM P S T ct) {ops:Array Oper} {Q:Exit → Act → World → Prop}:∀ (l:List Nat) (os:List Oper),l.map (ops[·]?) = os.map some → ∀ (base base':Nat) (st st':Stt) (p:Stb) (w:World) (a:Act) (t t':TS),
  Inv st p w a.tmps t.s Own → zcv st base → zk7 b a.tmps t.tk → TK p w Own b t.q → zcW (vop L call) L T ct ops.toList os t = some t' → ziL L S base os st = some (base',st') →
  (∀ a' w' p',Inv st' p' w' a'.tmps t'.s Own → zk7 b a'.tmps t'.tk → TK p' w' Own b t'.q → Evo (fun c => Own c ∨ c = b) p w p' w' → a'.defers = a.defers → Q .normal a' w') → wpOps P ops Q l a w
 | [],os,hl,base,base',st,st',p,w,a,t,t',hI,hids,htk,hK,hs,hst,hQ => by
  have:os = []:=by simpa using hl.symm
  subst this
  cases hs
  cases hst
  exact hQ a w p hI htk hK (.refl _ _ _) rfl
 | i :: l,[],hl,_,_,_,_,_,_,_,_,_,_,_,_,_,_,_,_ => by simp at hl
 | i :: l,o :: os,hl,base,base',st,st',p,w,a,t,t',hI,hids,htk,hK,hs,hst,hQ => by
  simp only [List.map_cons,List.cons.injEq] at hl
  simp only [zcW,Option.bind_eq_some_iff] at hs
  obtain ⟨t1,hs1,hs⟩:=hs
  simp only [ziL,Option.bind_eq_some_iff] at hst
  obtain ⟨st1,hst1,hst⟩:=hst
  rw [wpOps_cons]
  refine zuO hL hC hT hl.1 hI hids htk hK hs1 hst1 fun a1 w1 p1 hI1 htk1 hK1 hev1 hd1 => ?_
  exact zq3 hL hC hT l os hl.2 _ base' st1 st' p1 w1 a1 t1 t' hI1 (zn8 hids hst1) htk1 hK1 hs hst fun a' w' p' h1 h2 h3 h4 h5 => hQ a' w' p' h1 h2 h3 (hev1.trans h4 (fun _ _ h => h) (fun _ _ h => h)) (h5.trans hd1)
end
end Go.Proofs.Ytbodfaghedolbaa

/- Generic texts and models for the proofs of this seat: part 17. -/
import Derived.Test.YtkgbadeobdbinaaGreatZ16
import Derived.Test.YtkgbadeobdbinaaGreatProg
import Derived.WalkKit
set_option linter.unusedVariables false
set_option linter.unusedSimpArgs false
namespace Go.Proofs.YtkgbadeobdbinaaGreat
section
open Go
def lay:Lay:=⟨[(3,⟨0,1,[.int 0],[],0⟩),(4,⟨1,1,[.bool false],[],0⟩),(23,⟨2,1,[.sl 3 []],[],70⟩),(24,⟨2,1,[.sl 5 []],[],37⟩),(26,⟨3,2,[.sl 3 [],.sl 5 []],[(0,1),(1,1)],0⟩),(32,⟨2,1,[.sl 1 []],[],3⟩),(33,⟨2,1,[.sl 3 []],[],35⟩),(35,⟨3,3,[.int 0,.int 0,.sl 3 []],[(0,1),(1,1),(2,1)],0⟩),(37,⟨3,5,[.sl 1 [],.int 0,.int 0,.int 0,.sl 3 []],[(0,1),(1,1),(2,3)],0⟩),(64,⟨3,2,[.sl 1 [],.int 0],[(0,1),(1,1)],0⟩),(68,⟨2,1,[.sl 1 []],[],72⟩),(70,⟨3,3,[.int 0,.int 0,.sl 1 []],[(0,1),(1,1),(2,1)],0⟩),(72,⟨3,1,[.sl 1 []],[(0,1)],0⟩),(86,⟨3,2,[.sl 1 [],.sl 1 []],[(0,1),(1,1)],0⟩)],[(57,18),(84,6)],[16,21,32,37,45,47,55,60,70,74,75,76,86,87,89,90,91,93,94,95,98,101,104,105,110,116,122,123,126,128,129,131,133,134,135,136,137,141,143,144,151],[]⟩
theorem ziL:LayOk Tryz.prog lay:=zzX (by kernel_rfl)
def sig:Sig:=[(3,⟨[],[]⟩),(4,⟨[],[]⟩),(5,⟨[],[]⟩),(6,⟨[],[]⟩),(7,⟨[],[]⟩),(8,⟨[],[]⟩),(9,⟨[],[(0,3),(1,5)]⟩),(10,⟨[],[(0,3),(1,5)]⟩),(11,⟨[],[]⟩),(12,⟨[],[]⟩),(13,⟨[],[]⟩),(14,⟨[],[(0,3),(1,5)]⟩),(15,⟨[],[(0,3),(1,5)]⟩),(16,⟨[],[]⟩),(17,⟨[],[(0,1)]⟩),(18,⟨[],[]⟩),(19,⟨[],[(0,3),(1,5)]⟩),(20,⟨[],[(0,3),(1,5)]⟩),(21,⟨[],[]⟩),(22,⟨[],[]⟩),(23,⟨[],[]⟩),(24,⟨[],[]⟩),(25,⟨[],[]⟩),(26,⟨[],[]⟩),(28,⟨[],[(0,3),(1,5)]⟩),(29,⟨[],[]⟩),(30,⟨[],[(2,3)]⟩),(31,⟨[],[(0,3),(1,5)]⟩),(32,⟨[],[]⟩),(33,⟨[],[]⟩),(34,⟨[],[]⟩),(35,⟨[],[]⟩),(36,⟨[],[]⟩),(37,⟨[],[]⟩),(38,⟨[],[]⟩),(39,⟨[some 1,none],[(0,1)]⟩),(41,⟨[],[]⟩),(42,⟨[],[]⟩),(43,⟨[],[]⟩),(44,⟨[],[]⟩),(45,⟨[],[]⟩),(46,⟨[],[]⟩),(47,⟨[],[]⟩),(48,⟨[],[(0,1)]⟩),(51,⟨[],[(0,3)]⟩),(52,⟨[],[(0,1)]⟩),(53,⟨[],[]⟩),(54,⟨[],[]⟩),(55,⟨[],[]⟩),(56,⟨[],[(0,3)]⟩),(57,⟨[],[(0,3)]⟩),(58,⟨[],[(0,1)]⟩),(59,⟨[],[(2,3)]⟩),(60,⟨[],[]⟩),(61,⟨[],[]⟩),(62,⟨[],[]⟩),(63,⟨[],[]⟩),(64,⟨[],[(0,1)]⟩),(66,⟨[],[]⟩),(67,⟨[],[(2,3)]⟩),(68,⟨[],[]⟩),(69,⟨[],[]⟩),(70,⟨[],[]⟩),(71,⟨[],[]⟩),(72,⟨[],[]⟩),(73,⟨[],[(2,3)]⟩),(74,⟨[],[]⟩),(75,⟨[],[]⟩),(76,⟨[],[]⟩),(77,⟨[],[]⟩),(78,⟨[none,some 1],[(0,1)]⟩),(80,⟨[],[]⟩),(81,⟨[],[(0,1)]⟩),(82,⟨[],[(0,3)]⟩),(83,⟨[],[(0,3)]⟩),(84,⟨[],[]⟩),(85,⟨[],[]⟩),(86,⟨[],[]⟩),(87,⟨[],[]⟩),(88,⟨[],[]⟩),(89,⟨[],[]⟩),(90,⟨[],[]⟩),(91,⟨[],[]⟩),(92,⟨[],[]⟩),(93,⟨[],[]⟩),(94,⟨[],[]⟩),(95,⟨[],[]⟩),(96,⟨[],[]⟩),(97,⟨[],[]⟩),(98,⟨[],[]⟩),(99,⟨[],[(0,1)]⟩),(100,⟨[],[]⟩),(101,⟨[],[]⟩),(102,⟨[],[(0,1)]⟩),(103,⟨[],[(0,3)]⟩),(104,⟨[],[]⟩),(105,⟨[],[]⟩),(106,⟨[],[]⟩),(107,⟨[],[]⟩),(108,⟨[],[]⟩),(109,⟨[],[]⟩),(110,⟨[],[]⟩),(111,⟨[],[(0,1)]⟩),(112,⟨[],[]⟩),(113,⟨[],[(2,3)]⟩),(114,⟨[],[(2,3)]⟩),(115,⟨[],[]⟩),(116,⟨[],[]⟩),(117,⟨[],[]⟩),(118,⟨[],[]⟩),(119,⟨[],[]⟩),(120,⟨[],[]⟩),(121,⟨[],[]⟩),(122,⟨[],[]⟩),(123,⟨[],[]⟩),(124,⟨[],[]⟩),(125,⟨[],[]⟩),(126,⟨[],[]⟩),(128,⟨[],[]⟩),(129,⟨[],[]⟩),(130,⟨[],[]⟩),(131,⟨[],[]⟩),(132,⟨[],[]⟩),(133,⟨[],[]⟩),(134,⟨[],[]⟩),(135,⟨[],[]⟩),(136,⟨[],[]⟩),(137,⟨[],[]⟩),(138,⟨[],[]⟩),(139,⟨[],[]⟩),(140,⟨[],[]⟩),(141,⟨[],[]⟩),(142,⟨[],[]⟩),(143,⟨[],[]⟩),(144,⟨[],[]⟩),(145,⟨[],[(0,3)]⟩),(146,⟨[],[]⟩),(147,⟨[],[(0,1)]⟩),(148,⟨[],[]⟩),(149,⟨[],[]⟩),(150,⟨[],[(0,1)]⟩),(151,⟨[],[]⟩),(152,⟨[],[]⟩),(153,⟨[],[(0,1)]⟩)]
theorem ze0:Tryz.prog.follows .mixedOrders=true:=by kernel_rfl
theorem zGb:zao zaj lay sig Tryz.f3 (sig.sg 3)=true:=by kernel_rfl
theorem zFL:zao zaj lay sig Tryz.f4 (sig.sg 4)=true:=by kernel_rfl
theorem zFF:zao zaj lay sig Tryz.f5 (sig.sg 5)=true:=by kernel_rfl
theorem zGC:zao zaj lay sig Tryz.f6 (sig.sg 6)=true:=by kernel_rfl
theorem zGe:zao zaj lay sig Tryz.f7 (sig.sg 7)=true:=by kernel_rfl
theorem zGu:zao zaj lay sig Tryz.f8 (sig.sg 8)=true:=by kernel_rfl
theorem zF3:zao zaj lay sig Tryz.f9 (sig.sg 9)=true:=by kernel_rfl
theorem zDx:zao zaj lay sig Tryz.f10 (sig.sg 10)=true:=by kernel_rfl
theorem zDm:zao zaj lay sig Tryz.f11 (sig.sg 11)=true:=by kernel_rfl
theorem zEu:zao zaj lay sig Tryz.f12 (sig.sg 12)=true:=by kernel_rfl
theorem zDO:zao zaj lay sig Tryz.f13 (sig.sg 13)=true:=by kernel_rfl
theorem zEh:zao zaj lay sig Tryz.f14 (sig.sg 14)=true:=by kernel_rfl
theorem zDA:zao zaj lay sig Tryz.f15 (sig.sg 15)=true:=by kernel_rfl
theorem zC3:zao zaj lay sig Tryz.f16 (sig.sg 16)=true:=by kernel_rfl
theorem zC1:zao zaj lay sig Tryz.f17 (sig.sg 17)=true:=by kernel_rfl
theorem zEP:zao zaj lay sig Tryz.f18 (sig.sg 18)=true:=by kernel_rfl
theorem zEj:zao zaj lay sig Tryz.f19 (sig.sg 19)=true:=by kernel_rfl
theorem zDH:zao zaj lay sig Tryz.f20 (sig.sg 20)=true:=by kernel_rfl
theorem zFd:zao zaj lay sig Tryz.f21 (sig.sg 21)=true:=by kernel_rfl
theorem zE3:zao zaj lay sig Tryz.f22 (sig.sg 22)=true:=by kernel_rfl
theorem zE6:zao zaj lay sig Tryz.f23 (sig.sg 23)=true:=by kernel_rfl
theorem zEc:zao zaj lay sig Tryz.f24 (sig.sg 24)=true:=by kernel_rfl
theorem zEW:zao zaj lay sig Tryz.f25 (sig.sg 25)=true:=by kernel_rfl
theorem zEg:zao zaj lay sig Tryz.f26 (sig.sg 26)=true:=by kernel_rfl
theorem zER:zao zaj lay sig Tryz.f28 (sig.sg 28)=true:=by kernel_rfl
theorem zED:zao zaj lay sig Tryz.f29 (sig.sg 29)=true:=by kernel_rfl
theorem zDF:zao zaj lay sig Tryz.f30 (sig.sg 30)=true:=by kernel_rfl
theorem zCO:zao zaj lay sig Tryz.f31 (sig.sg 31)=true:=by kernel_rfl
theorem zDz:zao zaj lay sig Tryz.f32 (sig.sg 32)=true:=by kernel_rfl
theorem zDN:zao zaj lay sig Tryz.f33 (sig.sg 33)=true:=by kernel_rfl
theorem zEn:zao zaj lay sig Tryz.f34 (sig.sg 34)=true:=by kernel_rfl
theorem zEm:zao zaj lay sig Tryz.f35 (sig.sg 35)=true:=by kernel_rfl
theorem zFm:zao zaj lay sig Tryz.f36 (sig.sg 36)=true:=by kernel_rfl
theorem zE0:zao zaj lay sig Tryz.f37 (sig.sg 37)=true:=by kernel_rfl
theorem zEB:zao zaj lay sig Tryz.f38 (sig.sg 38)=true:=by kernel_rfl
theorem zFq:zao zaj lay sig Tryz.f39 (sig.sg 39)=true:=by kernel_rfl
theorem zDU:zao zaj lay sig Tryz.f41 (sig.sg 41)=true:=by kernel_rfl
theorem zEE:zao zaj lay sig Tryz.f42 (sig.sg 42)=true:=by kernel_rfl
theorem zDc:zao zaj lay sig Tryz.f43 (sig.sg 43)=true:=by kernel_rfl
theorem zC0:zao zaj lay sig Tryz.f44 (sig.sg 44)=true:=by kernel_rfl
theorem zEQ:zao zaj lay sig Tryz.f45 (sig.sg 45)=true:=by kernel_rfl
theorem zC4:zao zaj lay sig Tryz.f46 (sig.sg 46)=true:=by kernel_rfl
theorem zDZ:zao zaj lay sig Tryz.f47 (sig.sg 47)=true:=by kernel_rfl
theorem zEd:zao zaj lay sig Tryz.f48 (sig.sg 48)=true:=by kernel_rfl
theorem zC9:zao zaj lay sig Tryz.f51 (sig.sg 51)=true:=by kernel_rfl
theorem zE8:zao zaj lay sig Tryz.f52 (sig.sg 52)=true:=by kernel_rfl
theorem zDG:zao zaj lay sig Tryz.f53 (sig.sg 53)=true:=by kernel_rfl
theorem zCR:zao zaj lay sig Tryz.f54 (sig.sg 54)=true:=by kernel_rfl
theorem zE4:zao zaj lay sig Tryz.f55 (sig.sg 55)=true:=by kernel_rfl
theorem zEw:zao zaj lay sig Tryz.f56 (sig.sg 56)=true:=by kernel_rfl
theorem zEb:zao zaj lay sig Tryz.f57 (sig.sg 57)=true:=by kernel_rfl
theorem zDD:zao zaj lay sig Tryz.f58 (sig.sg 58)=true:=by kernel_rfl
theorem zDT:zao zaj lay sig Tryz.f59 (sig.sg 59)=true:=by kernel_rfl
theorem zC8:zao zaj lay sig Tryz.f60 (sig.sg 60)=true:=by kernel_rfl
theorem zEL:zao zaj lay sig Tryz.f61 (sig.sg 61)=true:=by kernel_rfl
theorem zDy:zao zaj lay sig Tryz.f62 (sig.sg 62)=true:=by kernel_rfl
theorem zDv:zao zaj lay sig Tryz.f63 (sig.sg 63)=true:=by kernel_rfl
theorem zD6:zao zaj lay sig Tryz.f64 (sig.sg 64)=true:=by kernel_rfl
theorem zEq:zao zaj lay sig Tryz.f66 (sig.sg 66)=true:=by kernel_rfl
theorem zDK:zao zaj lay sig Tryz.f67 (sig.sg 67)=true:=by kernel_rfl
theorem zFf:zao zaj lay sig Tryz.f68 (sig.sg 68)=true:=by kernel_rfl
theorem zEH:zao zaj lay sig Tryz.f69 (sig.sg 69)=true:=by kernel_rfl
theorem zDQ:zao zaj lay sig Tryz.f70 (sig.sg 70)=true:=by kernel_rfl
theorem zEe:zao zaj lay sig Tryz.f71 (sig.sg 71)=true:=by kernel_rfl
theorem zCU:zao zaj lay sig Tryz.f72 (sig.sg 72)=true:=by kernel_rfl
theorem zCW:zao zaj lay sig Tryz.f73 (sig.sg 73)=true:=by kernel_rfl
theorem zDg:zao zaj lay sig Tryz.f74 (sig.sg 74)=true:=by kernel_rfl
theorem zEf:zao zaj lay sig Tryz.f75 (sig.sg 75)=true:=by kernel_rfl
theorem zEI:zao zaj lay sig Tryz.f76 (sig.sg 76)=true:=by kernel_rfl
theorem zEA:zao zaj lay sig Tryz.f77 (sig.sg 77)=true:=by kernel_rfl
theorem zEF:zao zaj lay sig Tryz.f78 (sig.sg 78)=true:=by kernel_rfl
theorem zDP:zao zaj lay sig Tryz.f80 (sig.sg 80)=true:=by kernel_rfl
theorem zFk:zao zaj lay sig Tryz.f81 (sig.sg 81)=true:=by kernel_rfl
theorem zFn:zao zaj lay sig Tryz.f82 (sig.sg 82)=true:=by kernel_rfl
theorem zEJ:zao zaj lay sig Tryz.f83 (sig.sg 83)=true:=by kernel_rfl
theorem zDS:zao zaj lay sig Tryz.f84 (sig.sg 84)=true:=by kernel_rfl
theorem zDE:zao zaj lay sig Tryz.f85 (sig.sg 85)=true:=by kernel_rfl
theorem zCX:zao zaj lay sig Tryz.f86 (sig.sg 86)=true:=by kernel_rfl
theorem zEZ:zao zaj lay sig Tryz.f87 (sig.sg 87)=true:=by kernel_rfl
theorem zEv:zao zaj lay sig Tryz.f88 (sig.sg 88)=true:=by kernel_rfl
theorem zFg:zao zaj lay sig Tryz.f89 (sig.sg 89)=true:=by kernel_rfl
theorem zFi:zao zaj lay sig Tryz.f90 (sig.sg 90)=true:=by kernel_rfl
theorem zDL:zao zaj lay sig Tryz.f91 (sig.sg 91)=true:=by kernel_rfl
theorem zCZ:zao zaj lay sig Tryz.f92 (sig.sg 92)=true:=by kernel_rfl
theorem zDb:zao zaj lay sig Tryz.f93 (sig.sg 93)=true:=by kernel_rfl
theorem zE5:zao zaj lay sig Tryz.f94 (sig.sg 94)=true:=by kernel_rfl
theorem zDu:zao zaj lay sig Tryz.f95 (sig.sg 95)=true:=by kernel_rfl
theorem zDs:zao zaj lay sig Tryz.f96 (sig.sg 96)=true:=by kernel_rfl
theorem zDM:zao zaj lay sig Tryz.f97 (sig.sg 97)=true:=by kernel_rfl
theorem zE1:zao zaj lay sig Tryz.f98 (sig.sg 98)=true:=by kernel_rfl
theorem zEl:zao zaj lay sig Tryz.f99 (sig.sg 99)=true:=by kernel_rfl
theorem zAA:zao zaj lay sig Tryz.f100 (sig.sg 100)=true:=by kernel_rfl
theorem zCj:zao zaj lay sig Tryz.f101 (sig.sg 101)=true:=by kernel_rfl
theorem zAx:zao zaj lay sig Tryz.f102 (sig.sg 102)=true:=by kernel_rfl
theorem zAv:zao zaj lay sig Tryz.f103 (sig.sg 103)=true:=by kernel_rfl
theorem zA1:zao zaj lay sig Tryz.f104 (sig.sg 104)=true:=by kernel_rfl
theorem zBH:zao zaj lay sig Tryz.f105 (sig.sg 105)=true:=by kernel_rfl
theorem zAQ:zao zaj lay sig Tryz.f106 (sig.sg 106)=true:=by kernel_rfl
theorem zCL:zao zaj lay sig Tryz.f107 (sig.sg 107)=true:=by kernel_rfl
theorem zCN:zao zaj lay sig Tryz.f108 (sig.sg 108)=true:=by kernel_rfl
theorem zBR:zao zaj lay sig Tryz.f109 (sig.sg 109)=true:=by kernel_rfl
theorem zAo:zao zaj lay sig Tryz.f110 (sig.sg 110)=true:=by kernel_rfl
theorem zCq:zao zaj lay sig Tryz.f111 (sig.sg 111)=true:=by kernel_rfl
theorem zCm:zao zaj lay sig Tryz.f112 (sig.sg 112)=true:=by kernel_rfl
theorem zz3:zao zaj lay sig Tryz.f113 (sig.sg 113)=true:=by kernel_rfl
theorem zAH:zao zaj lay sig Tryz.f114 (sig.sg 114)=true:=by kernel_rfl
theorem zz0:zao zaj lay sig Tryz.f115 (sig.sg 115)=true:=by kernel_rfl
theorem zBi:zao zaj lay sig Tryz.f116 (sig.sg 116)=true:=by kernel_rfl
theorem zAq:zao zaj lay sig Tryz.f117 (sig.sg 117)=true:=by kernel_rfl
theorem zAp:zao zaj lay sig Tryz.f118 (sig.sg 118)=true:=by kernel_rfl
theorem zBN:zao zaj lay sig Tryz.f119 (sig.sg 119)=true:=by kernel_rfl
theorem zAM:zao zaj lay sig Tryz.f120 (sig.sg 120)=true:=by kernel_rfl
theorem zBz:zao zaj lay sig Tryz.f121 (sig.sg 121)=true:=by kernel_rfl
theorem zB1:zao zaj lay sig Tryz.f122 (sig.sg 122)=true:=by kernel_rfl
theorem zB5:zao zaj lay sig Tryz.f123 (sig.sg 123)=true:=by kernel_rfl
theorem zBb:zao zaj lay sig Tryz.f124 (sig.sg 124)=true:=by kernel_rfl
theorem zz4:zao zaj lay sig Tryz.f125 (sig.sg 125)=true:=by kernel_rfl
theorem zBv:zao zaj lay sig Tryz.f126 (sig.sg 126)=true:=by kernel_rfl
theorem zBJ:zao zaj lay sig Tryz.f128 (sig.sg 128)=true:=by kernel_rfl
theorem zCw:zao zaj lay sig Tryz.f129 (sig.sg 129)=true:=by kernel_rfl
theorem zCp:zao zaj lay sig Tryz.f130 (sig.sg 130)=true:=by kernel_rfl
theorem zA3:zao zaj lay sig Tryz.f131 (sig.sg 131)=true:=by kernel_rfl
theorem zAJ:zao zaj lay sig Tryz.f132 (sig.sg 132)=true:=by kernel_rfl
theorem zA8:zao zaj lay sig Tryz.f133 (sig.sg 133)=true:=by kernel_rfl
theorem zCa:zao zaj lay sig Tryz.f134 (sig.sg 134)=true:=by kernel_rfl
theorem zAG:zao zaj lay sig Tryz.f135 (sig.sg 135)=true:=by kernel_rfl
theorem zCy:zao zaj lay sig Tryz.f136 (sig.sg 136)=true:=by kernel_rfl
theorem zB8:zao zaj lay sig Tryz.f137 (sig.sg 137)=true:=by kernel_rfl
theorem zAb:zao zaj lay sig Tryz.f138 (sig.sg 138)=true:=by kernel_rfl
theorem zBU:zao zaj lay sig Tryz.f139 (sig.sg 139)=true:=by kernel_rfl
theorem zAk:zao zaj lay sig Tryz.f140 (sig.sg 140)=true:=by kernel_rfl
theorem zAr:zao zaj lay sig Tryz.f141 (sig.sg 141)=true:=by kernel_rfl
theorem zA5:zao zaj lay sig Tryz.f142 (sig.sg 142)=true:=by kernel_rfl
theorem zAe:zao zaj lay sig Tryz.f143 (sig.sg 143)=true:=by kernel_rfl
theorem zBE:zao zaj lay sig Tryz.f144 (sig.sg 144)=true:=by kernel_rfl
theorem zCF:zao zaj lay sig Tryz.f145 (sig.sg 145)=true:=by kernel_rfl
theorem zBF:zao zaj lay sig Tryz.f146 (sig.sg 146)=true:=by kernel_rfl
theorem zAP:zao zaj lay sig Tryz.f147 (sig.sg 147)=true:=by kernel_rfl
theorem zBI:zao zaj lay sig Tryz.f148 (sig.sg 148)=true:=by kernel_rfl
theorem zAy:zao zaj lay sig Tryz.f149 (sig.sg 149)=true:=by kernel_rfl
theorem zB2:zao zaj lay sig Tryz.f150 (sig.sg 150)=true:=by kernel_rfl
theorem zCA:zao zaj lay sig Tryz.f151 (sig.sg 151)=true:=by kernel_rfl
theorem zCK:zao zaj lay sig Tryz.f152 (sig.sg 152)=true:=by kernel_rfl
theorem zB4:zao zaj lay sig Tryz.f153 (sig.sg 153)=true:=by kernel_rfl
theorem zuR:∀f,sig.has f=true→∃fn,Tryz.prog.funcs[f]?=some fn∧zao zaj lay sig fn (sig.sg f)=true:=by
 intro f hf;have hm:f∈[3,4,5,6,7,8,9,10,11,12,13,14,15,16,17,18,19,20,21,22,23,24,25,26,28,29,30,31,32,33,34,35,36,37,38,39,41,42,43,44,45,46,47,48,51,52,53,54,55,56,57,58,59,60,61,62,63,64,66,67,68,69,70,71,72,73,74,75,76,77,78,80,81,82,83,84,85,86,87,88,89,90,91,92,93,94,95,96,97,98,99,100,101,102,103,104,105,106,107,108,109,110,111,112,113,114,115,116,117,118,119,120,121,122,123,124,125,126,128,129,130,131,132,133,134,135,136,137,138,139,140,141,142,143,144,145,146,147,148,149,150,151,152,153]:=by
  unfold Sig.has at hf;obtain⟨x,hx⟩:=Option.isSome_iff_exists.1 hf;have:=zbd hx
  have h2:f∈sig.map (·.1):=List.mem_map.2 ⟨_,this,rfl⟩
  exact h2
 simp only[List.mem_cons,List.not_mem_nil,or_false] at hm;rcases hm with rfl|rfl|rfl|rfl|rfl|rfl|rfl|rfl|rfl|rfl|rfl|rfl|rfl|rfl|rfl|rfl|rfl|rfl|rfl|rfl|rfl|rfl|rfl|rfl|rfl|rfl|rfl|rfl|rfl|rfl|rfl|rfl|rfl|rfl|rfl|rfl|rfl|rfl|rfl|rfl|rfl|rfl|rfl|rfl|rfl|rfl|rfl|rfl|rfl|rfl|rfl|rfl|rfl|rfl|rfl|rfl|rfl|rfl|rfl|rfl|rfl|rfl|rfl|rfl|rfl|rfl|rfl|rfl|rfl|rfl|rfl|rfl|rfl|rfl|rfl|rfl|rfl|rfl|rfl|rfl|rfl|rfl|rfl|rfl|rfl|rfl|rfl|rfl|rfl|rfl|rfl|rfl|rfl|rfl|rfl|rfl|rfl|rfl|rfl|rfl|rfl|rfl|rfl|rfl|rfl|rfl|rfl|rfl|rfl|rfl|rfl|rfl|rfl|rfl|rfl|rfl|rfl|rfl|rfl|rfl|rfl|rfl|rfl|rfl|rfl|rfl|rfl|rfl|rfl|rfl|rfl|rfl|rfl|rfl|rfl|rfl|rfl|rfl|rfl|rfl|rfl|rfl|rfl|rfl
 ·exact⟨_,Tryz.func3,zGb⟩
 ·exact⟨_,Tryz.func4,zFL⟩
 ·exact⟨_,Tryz.func5,zFF⟩
 ·exact⟨_,Tryz.func6,zGC⟩
 ·exact⟨_,Tryz.func7,zGe⟩
 ·exact⟨_,Tryz.func8,zGu⟩
 ·exact⟨_,Tryz.func9,zF3⟩
 ·exact⟨_,Tryz.func10,zDx⟩
 ·exact⟨_,Tryz.func11,zDm⟩
 ·exact⟨_,Tryz.func12,zEu⟩
 ·exact⟨_,Tryz.func13,zDO⟩
 ·exact⟨_,Tryz.func14,zEh⟩
 ·exact⟨_,Tryz.func15,zDA⟩
 ·exact⟨_,Tryz.func16,zC3⟩
 ·exact⟨_,Tryz.func17,zC1⟩
 ·exact⟨_,Tryz.func18,zEP⟩
 ·exact⟨_,Tryz.func19,zEj⟩
 ·exact⟨_,Tryz.func20,zDH⟩
 ·exact⟨_,Tryz.func21,zFd⟩
 ·exact⟨_,Tryz.func22,zE3⟩
 ·exact⟨_,Tryz.func23,zE6⟩
 ·exact⟨_,Tryz.func24,zEc⟩
 ·exact⟨_,Tryz.func25,zEW⟩
 ·exact⟨_,Tryz.func26,zEg⟩
 ·exact⟨_,Tryz.func28,zER⟩
 ·exact⟨_,Tryz.func29,zED⟩
 ·exact⟨_,Tryz.func30,zDF⟩
 ·exact⟨_,Tryz.func31,zCO⟩
 ·exact⟨_,Tryz.func32,zDz⟩
 ·exact⟨_,Tryz.func33,zDN⟩
 ·exact⟨_,Tryz.func34,zEn⟩
 ·exact⟨_,Tryz.func35,zEm⟩
 ·exact⟨_,Tryz.func36,zFm⟩
 ·exact⟨_,Tryz.func37,zE0⟩
 ·exact⟨_,Tryz.func38,zEB⟩
 ·exact⟨_,Tryz.func39,zFq⟩
 ·exact⟨_,Tryz.func41,zDU⟩
 ·exact⟨_,Tryz.func42,zEE⟩
 ·exact⟨_,Tryz.func43,zDc⟩
 ·exact⟨_,Tryz.func44,zC0⟩
 ·exact⟨_,Tryz.func45,zEQ⟩
 ·exact⟨_,Tryz.func46,zC4⟩
 ·exact⟨_,Tryz.func47,zDZ⟩
 ·exact⟨_,Tryz.func48,zEd⟩
 ·exact⟨_,Tryz.func51,zC9⟩
 ·exact⟨_,Tryz.func52,zE8⟩
 ·exact⟨_,Tryz.func53,zDG⟩
 ·exact⟨_,Tryz.func54,zCR⟩
 ·exact⟨_,Tryz.func55,zE4⟩
 ·exact⟨_,Tryz.func56,zEw⟩
 ·exact⟨_,Tryz.func57,zEb⟩
 ·exact⟨_,Tryz.func58,zDD⟩
 ·exact⟨_,Tryz.func59,zDT⟩
 ·exact⟨_,Tryz.func60,zC8⟩
 ·exact⟨_,Tryz.func61,zEL⟩
 ·exact⟨_,Tryz.func62,zDy⟩
 ·exact⟨_,Tryz.func63,zDv⟩
 ·exact⟨_,Tryz.func64,zD6⟩
 ·exact⟨_,Tryz.func66,zEq⟩
 ·exact⟨_,Tryz.func67,zDK⟩
 ·exact⟨_,Tryz.func68,zFf⟩
 ·exact⟨_,Tryz.func69,zEH⟩
 ·exact⟨_,Tryz.func70,zDQ⟩
 ·exact⟨_,Tryz.func71,zEe⟩
 ·exact⟨_,Tryz.func72,zCU⟩
 ·exact⟨_,Tryz.func73,zCW⟩
 ·exact⟨_,Tryz.func74,zDg⟩
 ·exact⟨_,Tryz.func75,zEf⟩
 ·exact⟨_,Tryz.func76,zEI⟩
 ·exact⟨_,Tryz.func77,zEA⟩
 ·exact⟨_,Tryz.func78,zEF⟩
 ·exact⟨_,Tryz.func80,zDP⟩
 ·exact⟨_,Tryz.func81,zFk⟩
 ·exact⟨_,Tryz.func82,zFn⟩
 ·exact⟨_,Tryz.func83,zEJ⟩
 ·exact⟨_,Tryz.func84,zDS⟩
 ·exact⟨_,Tryz.func85,zDE⟩
 ·exact⟨_,Tryz.func86,zCX⟩
 ·exact⟨_,Tryz.func87,zEZ⟩
 ·exact⟨_,Tryz.func88,zEv⟩
 ·exact⟨_,Tryz.func89,zFg⟩
 ·exact⟨_,Tryz.func90,zFi⟩
 ·exact⟨_,Tryz.func91,zDL⟩
 ·exact⟨_,Tryz.func92,zCZ⟩
 ·exact⟨_,Tryz.func93,zDb⟩
 ·exact⟨_,Tryz.func94,zE5⟩
 ·exact⟨_,Tryz.func95,zDu⟩
 ·exact⟨_,Tryz.func96,zDs⟩
 ·exact⟨_,Tryz.func97,zDM⟩
 ·exact⟨_,Tryz.func98,zE1⟩
 ·exact⟨_,Tryz.func99,zEl⟩
 ·exact⟨_,Tryz.func100,zAA⟩
 ·exact⟨_,Tryz.func101,zCj⟩
 ·exact⟨_,Tryz.func102,zAx⟩
 ·exact⟨_,Tryz.func103,zAv⟩
 ·exact⟨_,Tryz.func104,zA1⟩
 ·exact⟨_,Tryz.func105,zBH⟩
 ·exact⟨_,Tryz.func106,zAQ⟩
 ·exact⟨_,Tryz.func107,zCL⟩
 ·exact⟨_,Tryz.func108,zCN⟩
 ·exact⟨_,Tryz.func109,zBR⟩
 ·exact⟨_,Tryz.func110,zAo⟩
 ·exact⟨_,Tryz.func111,zCq⟩
 ·exact⟨_,Tryz.func112,zCm⟩
 ·exact⟨_,Tryz.func113,zz3⟩
 ·exact⟨_,Tryz.func114,zAH⟩
 ·exact⟨_,Tryz.func115,zz0⟩
 ·exact⟨_,Tryz.func116,zBi⟩
 ·exact⟨_,Tryz.func117,zAq⟩
 ·exact⟨_,Tryz.func118,zAp⟩
 ·exact⟨_,Tryz.func119,zBN⟩
 ·exact⟨_,Tryz.func120,zAM⟩
 ·exact⟨_,Tryz.func121,zBz⟩
 ·exact⟨_,Tryz.func122,zB1⟩
 ·exact⟨_,Tryz.func123,zB5⟩
 ·exact⟨_,Tryz.func124,zBb⟩
 ·exact⟨_,Tryz.func125,zz4⟩
 ·exact⟨_,Tryz.func126,zBv⟩
 ·exact⟨_,Tryz.func128,zBJ⟩
 ·exact⟨_,Tryz.func129,zCw⟩
 ·exact⟨_,Tryz.func130,zCp⟩
 ·exact⟨_,Tryz.func131,zA3⟩
 ·exact⟨_,Tryz.func132,zAJ⟩
 ·exact⟨_,Tryz.func133,zA8⟩
 ·exact⟨_,Tryz.func134,zCa⟩
 ·exact⟨_,Tryz.func135,zAG⟩
 ·exact⟨_,Tryz.func136,zCy⟩
 ·exact⟨_,Tryz.func137,zB8⟩
 ·exact⟨_,Tryz.func138,zAb⟩
 ·exact⟨_,Tryz.func139,zBU⟩
 ·exact⟨_,Tryz.func140,zAk⟩
 ·exact⟨_,Tryz.func141,zAr⟩
 ·exact⟨_,Tryz.func142,zA5⟩
 ·exact⟨_,Tryz.func143,zAe⟩
 ·exact⟨_,Tryz.func144,zBE⟩
 ·exact⟨_,Tryz.func145,zCF⟩
 ·exact⟨_,Tryz.func146,zBF⟩
 ·exact⟨_,Tryz.func147,zAP⟩
 ·exact⟨_,Tryz.func148,zBI⟩
 ·exact⟨_,Tryz.func149,zAy⟩
 ·exact⟨_,Tryz.func150,zB2⟩
 ·exact⟨_,Tryz.func151,zCA⟩
 ·exact⟨_,Tryz.func152,zCK⟩
 ·exact⟨_,Tryz.func153,zB4⟩
end
section
open Go Go.RowKit
def zu4 (n:Int):Int:=if n>999 then 999 else if n < -999 then -999 else n
theorem zxS (n:Int) (w:World):Calls Tryz.prog 127 #[.int .i64 n] w fun e w'=>e=.returned (.int .i64 (zu4 n))∧w'=w:=by
 go_enter Tryz.func127,Tryz.ntmps127
 go_wp2_with fail
 all_goals
  go_ret
  refine⟨congrArg (fun z=>Ending.returned (Value.int .i64 z)) ?_,rfl⟩
  unfold zu4;omega
def zpk:List SV→Option AV
 | [.cell (.int n)]=>some (.v (.cell (.int (zu4 n))))
 | _=>none
theorem zAC (call:Orc):zlN Tryz.prog sig 127 (zlj call (.fn zpk)):=by
 intro args r hr;obtain⟨n,e,e2⟩:∃n,args=[.cell (.int n)]∧r=.v (.cell (.int (zu4 n))):=by
  have hr:zpk args=some r:=hr
  unfold zpk at hr;split at hr
  ·exact⟨_,rfl,(Option.some.inj hr).symm⟩
  ·cases hr
 subst e;subst e2;refine⟨⟨rfl,Tryz.f127,Tryz.func127,by kernel_rfl,by kernel_rfl⟩,fun p w vals hv hz ht hap=>?_⟩
 match vals,hv with
 | [v0],⟨h0,_⟩ =>
 have h0:Rep p w v0 (.int n):=h0
 cases h0;have hgv:(sig.sg 127).gives=[]:=by kernel_rfl
 refine(zxS n w).mono ?_
 rintro e w' ⟨rfl,rfl⟩
 exact⟨_,rfl,p,Rep.int _,(fun cs h=>(by cases h)),(fun h=>(by cases h)),Evo.refl _ _ _,hz,(fun e he=>(by rw[hgv] at he;cases he)),(fun e e' u u' b he=>(by rw[hgv] at he;cases he))⟩
end
set_option maxRecDepth 100000
section
open Go Go.RowKit
noncomputable def ext:zrW:=[(127,.fn zpk)]
theorem zu7:∀f e,sig.has f=false→ext.lookup f=some e→∀call,zbe Tryz.prog sig call→zlN Tryz.prog sig f (zlj call e):=by
 intro f e _ he call hC;have hm:=zbd he
 simp only[ext,List.mem_cons,List.not_mem_nil,or_false,Prod.mk.injEq] at hm;obtain⟨rfl,rfl⟩:=hm;exact zAC call
end
section
open Go Go.RowKit
abbrev TOrc:=FuncId→List AC→List SV→Option (AV×List AC)
structure TS where
 s:VS
 tk:List Nat
 q:List AC
def zBC (tk:List Nat):Operand→Bool
 | .tmp i=>tk.any fun t=>Nat.beq t i
 | _=>false
def znP (L:Lay) (tk:List Nat) (o:Oper):Bool:=match o.op with
 | .move x|.assign x=>zBC tk x&&(L.ti o.type).isNone
 | _=>false
def zh5 (T:Nat→Bool) (o:Oper):Bool:=match o.op with
 | .call {callee:=.value (.func f),..}=>T f
 | _=>false
def ziP (d:Option Nat) (tk:List Nat):List Nat:=match d with
 | some d=>tk.filter fun t=>!Nat.beq t d
 | none=>tk
def znM (L:Lay) (ct:TOrc) (o:Oper) (t:TS):Option (AV×List AC):=match o.op with
 | .call {callee:=.value (.func f),args,argTypes}=>match args.toList,argTypes.toList with
  | x::xs,_::ts=>if zBC t.tk x then(zgd L t.s xs ts).bind fun vs=>ct f t.q vs else none
  | _,_=>none
 | _=>none
def zgi (b:Oper→VS→Option VS) (L:Lay) (T:Nat→Bool) (ct:TOrc) (o:Oper) (t:TS):Option TS :=
 if zh5 T o then(znM L ct o t).map fun r=>⟨t.s.put o.dst r.1,ziP o.dst t.tk,r.2⟩
 else if znP L t.tk o then match o.dst with
  | some d=>some ⟨t.s.put (some d) .und,d::t.tk,t.q⟩
  | none=>none
 else(b o t.s).map fun s'=>⟨s',ziP o.dst t.tk,t.q⟩
def zdn (b:Oper→VS→Option VS) (L:Lay) (T:Nat→Bool) (ct:TOrc) (all:List Oper) (o:Oper) (t:TS):Option TS:=match o.guard with
 | none=>zgi b L T ct o t
 | some g=>(zcD all t.s g).bind fun u=>if u then zgi b L T ct o t else some ⟨t.s.put o.dst .und,ziP o.dst t.tk,t.q⟩
def zdC (b:Oper→VS→Option VS) (L:Lay) (T:Nat→Bool) (ct:TOrc) (all:List Oper):List Oper→TS→Option TS
 | [],t=>some t
 | o::rest,t=>(zdn b L T ct all o t).bind (zdC b L T ct all rest)
def zFb (tk:List Nat):Bool:=tk.any fun t=>Nat.beq t 0
def znb (L:Lay) (T:Nat→Bool) (call:Orc) (ct:TOrc) (ops:List Oper) (d:Bool) (x:List AV×List AC):Option (List AV×List AC) :=
 (if d then zdC (zaS L call) L T ct ops ops ⟨{σ:=zkD x.1,pe:=[]},[0],x.2⟩ else zdC (vop L call) L T ct ops ops ⟨{σ:=x.1,pe:=[]},[0],x.2⟩).bind fun t =>
  if zFb t.tk then some (t.s.σ,t.q) else none
def za2 (L:Lay) (T:Nat→Bool) (call:Orc) (ct:TOrc):Nat→Code→List AV×List AC→Option (Xt×(List AV×List AC))
 | 0,_,_=>none
 | n+1,c,s =>
  match c with
  | .skip=>some (.norm,s)
  | .region _ ops d=>(znb L T call ct ops.toList d s).map fun s=>(.norm,s)
  | .seq a b=>(za2 L T call ct n a s).bind fun r=>match r with
   | (.norm,s')=>za2 L T call ct n b s'
   | r=>some r
  | .cond x a b=>(zg9 L {σ:=s.1,pe:=[]} x).bind fun t=>if t then za2 L T call ct n a s else za2 L T call ct n b s
  | .block id b=>(za2 L T call ct n b s).map fun r=>match r with
   | (.exit i,s')=>if i=id then(.norm,s') else(.exit i,s')
   | r=>r
  | .loop b=>(za2 L T call ct n b s).bind fun r=>match r with
   | (.norm,s')=>za2 L T call ct n (.loop b) s'
   | r=>some r
  | .exit id=>some (.exit id,s)
  | .ret=>some (.ret,s)
  | _=>none
def znH (L:Lay) (T:Nat→Bool) (call:Orc) (ct:TOrc) (n:Nat) (fn:Func) (q:List AC) (args:List SV):Option (AV×List AC) :=
 match fn.body with
 | none=>none
 | some c=>if args.length+1≤fn.ntmps then(za2 L T call ct n c (.und::(args.map .v++List.replicate (fn.ntmps-(args.length+1)) .und),q)).bind fun r=>match r with
  | (.exit _,_)=>none
  | (_,s)=>(zfi L s.1 fn.results.toList).map fun vs=>(match vs with
   | [v]=>.v v
   | vs=>.tup vs,s.2)
  else none
def TOrc.le (a b:TOrc):Prop:=∀f q x r,a f q x=some r→b f q x=some r
structure zDd where
 run:TOrc→List AC→List SV→Option (AV×List AC)
 mono:∀a b,TOrc.le a b→∀q x r,run a q x=some r→run b q x=some r
 cont:∀(c:TOrc) (cs:Nat→TOrc),(∀n m,n≤m→TOrc.le (cs n) (cs m))→(∀f q x r,c f q x=some r→∃n,cs n f q x=some r)→∀q x r,run c q x=some r→∃n,run (cs n) q x=some r
abbrev zoy:=Nat→Option zDd
def ze4 (P:Program) (L:Lay) (T:Nat→Bool) (call:Orc) (E:zoy):Nat→TOrc
 | 0,_,_,_=>none
 | n+1,f,q,args=>if T f then match E f with
  | some e=>e.run (ze4 P L T call E n) q args
  | none=>match P.funcs[f]? with
   | some fn=>znH L T call (ze4 P L T call E n) n fn q args
   | none=>none
  else none
end
section
open Go Go.RowKit
def RepQ (p:Stb) (w:World) (v:Value) (c:AC):Prop:=Rep p w v c∨∃A n cap,v=.slice A n cap∧n≤cap∧∃ns:List Nat,ns.length=n∧c=.sl 1 (ns.map fun(u:Nat)=>[.bool true,.int (u:Int)])∧(0<n→∃b o,A=some ⟨b,o,none⟩∧b<w.heap.size∧o+n≤p b∧(∀k,¬p.ok b k)∧∀(i u:Nat),ns[i]?=some u→u≤255∧w.cell? ⟨b,o+i,none⟩=some (.int .u8 (u:Int)))
theorem RepQ.evo {B:Nat→Prop}{p p':Stb}{w w':World} (h:Evo B p w p' w') {v:Value}{c:AC}:RepQ p w v c→RepQ p' w' v c
 | .inl hr=>.inl (hr.evo h)
 | .inr ⟨A,n,cap,e,hc,ns,hl,hq,hr⟩=>.inr ⟨A,n,cap,e,hc,ns,hl,hq,fun hn=>by
   obtain⟨b,o,hA,hb,hp,hok,hx⟩:=hr hn;refine⟨b,o,hA,Nat.lt_of_lt_of_le hb h.size,Nat.le_trans hp (h.keepP b hb),fun k hk=>hok k (by rw[←h.okk b hb];exact hk),fun i u hu=>?_⟩
   obtain⟨h1,h2⟩:=hx i u hu;have:=(List.getElem?_eq_some_iff.1 hu).1
   exact⟨h1,by rw[h.stable b _ hb (by omega)];exact h2⟩⟩
def RepQs (p:Stb) (w:World):List Value→List AC→Prop
 | [],[]=>True
 | v::vs,c::cs=>RepQ p w v c∧RepQs p w vs cs
 | _,_=>False
theorem RepQs.evo {B:Nat→Prop}{p p':Stb}{w w':World} (h:Evo B p w p' w'):∀{vs:List Value}{cs:List AC},RepQs p w vs cs→RepQs p' w' vs cs
 | [],[],_=>trivial
 | _::_,_::_,⟨a,b⟩=>⟨a.evo h,RepQs.evo h b⟩
structure TK (p:Stb) (w:World) (Own:Nat→Prop) (b:Nat) (q:List AC):Prop where
 not:¬Own b
 lt:b<w.heap.size
 pz:p b=0
 cells:∃a T,w.heap[b]?=some (.cells a T (0,0))∧RepQs p w a.toList q
theorem TK.evo {p p':Stb}{w w':World}{Own:Nat→Prop}{b:Nat}{q:List AC} (h:TK p w Own b q) (he:Evo Own p w p' w'):TK p' w' Own b q:=by
 obtain⟨a,T,h1,h2⟩:=h.cells;exact⟨h.not,Nat.lt_of_lt_of_le h.lt he.size,by rw[he.same b h.lt h.not];exact h.pz,a,T,by rw[he.block b h.lt h.not];exact h1,h2.evo he⟩
theorem TK.own {p:Stb}{w:World}{Own Own':Nat→Prop}{b:Nat}{q:List AC} (h:TK p w Own b q) (hn:¬Own' b):TK p w Own' b q:=⟨hn,h.lt,h.pz,h.cells⟩
def zbh (b:Nat):Value:=.pointer (some ⟨b,0,none⟩)
def zsp (P:Program) (S:Sig) (f:FuncId) (run:List AC→List SV→Option (AV×List AC)):Prop:=∀q args r,run q args=some r→(zkS r.1=true∧∃fn,P.funcs[f]?=some fn∧fn.body.isSome=true∧(fn.name == "runtime.NumGoroutine")=false) ∧
 ∀p w b (vals:List Value),RepSs p w vals args→Zp p w→TK p w (fun _=>False) b q →
 Calls P f (zbh b::vals).toArray w fun e w'=>∃v,e=.returned v∧∃p',SR p' w' v r.1∧(∀cs,r.1≠.box cs)∧r.1≠.und∧Evo (·=b) p w p' w'∧Zp p' w'∧TK p' w' (fun _=>False) b r.2 ∧
  (∀e∈(S.sg f).gives,∃u,zaz w' v e.1=some u∧Rt p' w' u e.2∧∀c,zaw u=some c→w.heap.size≤c) ∧
  (∀(e e':Nat×Nat) (u u':Value) (c:Nat),e∈(S.sg f).gives→e'∈(S.sg f).gives→e.1≠e'.1→zaz w' v e.1=some u→zaz w' v e'.1=some u'→zaw u=some c→zaw u'≠some c)
def zdh (P:Program) (S:Sig) (T:Nat→Bool) (ct:TOrc):Prop:=∀f,T f=true→(S.sg f).takes=[]∧zsp P S f (ct f)
def World.withBlock (w:World) (b:Nat) (o:Obj):World:={w with heap:=w.heap.setIfInBounds b o}
section
variable {P:Program}{L:Lay}{S:Sig}{T:Nat→Bool}{call:Orc}{ct:TOrc}{p p':Stb}{w w' w1:World}{a:Act}{s s':VS}{q:SPe}{o:Oper}{st st':Stt}{Own:Nat→Prop}{base b:Nat}
theorem zk3 (w:World) (b c:Nat) (x:Obj):(World.withBlock w b x).heap[c]?=if b=c∧c<w.heap.size then some x else w.heap[c]?:=by
 simp only[World.withBlock,Array.getElem?_setIfInBounds];by_cases h:b=c
 ·subst h
  by_cases h2:b<w.heap.size
  ·simp[h2]
  ·simp[h2]
 ·simp[h]
theorem zjJ (w:World) (b:Nat) (x:Obj):(World.withBlock w b x).heap.size=w.heap.size:=by simp[World.withBlock]
theorem zAE (x:Obj) (hp:p b=0):Evo (·=b) p w p (World.withBlock w b x) :=
 zcH hp (zjJ w b x) (fun y hy=>by rw[zk3,if_neg (fun h=>hy h.1.symm)]) rfl rfl rfl
theorem zDa {x:Obj} (h:Evo (·=b) p w p' w') (hlt:b<w.heap.size) (hp:p b=0) (hp':p' b=0) (hx:w'.heap[b]?=some x):Evo (fun _=>False) p (World.withBlock w b x) p' w':=by
 have hs:=zjJ w b x
 refine⟨h.os,h.tape,h.output,by rw[hs];exact h.size,fun c hc _=>?_,fun c hc=>h.keepP c (by rw[hs] at hc;exact hc),fun c hc _=>?_,fun c o hc ho=>?_,fun c hc=>h.okk c (by rw[hs] at hc;exact hc),fun c h1 h2=>h.uq c (by rw[hs] at h1;exact h1) h2⟩
 ·rw[hs] at hc
  rw[zk3];by_cases hb:b=c
  ·subst hb;rw[if_pos ⟨rfl,hc⟩];exact hx
  ·rw[if_neg (fun e=>hb e.1)];exact h.block c hc (fun e=>hb e.symm)
 ·rw[hs] at hc
  by_cases hb:c=b
  ·subst hb;rw[hp,hp']
  ·exact h.same c hc hb
 ·rw[hs] at hc
  have hb:c≠b:=fun e=>by subst e;rw[hp] at ho;omega
  rw[h.stable c o hc ho];exact(World.cell?_of_block (w:=w) (by rw[zk3,if_neg (fun e=>hb e.1.symm)])).symm
theorem Inv.off {m:Array Value} (hI:Inv st p w m s Own) (he:Evo (·=b) p w p w1) (hs:w1.heap.size=w.heap.size) (hb:¬Own b):Inv st p w1 m s Own:=by
 obtain⟨val,hR⟩:=hI.rooms;have hbox:∀d cs,s.get d=.box cs→m.getD d undef≠.pointer (some ⟨b,0,none⟩):=fun d cs hd e=>by
  obtain⟨c,e1,_,h1,_⟩:=hI.box d cs hd;rw[e] at e1;cases e1;exact hb h1
 have harr:∀d k rows,s.get d=.arr k rows→zaw (m.getD d undef)≠some b:=fun d k rows hd e=>hb (hI.arr d k rows b hd e).2.1
 have hzp:Zp p w1:=⟨fun c hc=>hI.zp.1 c (by rw[←hs];exact hc),fun c hc=>hI.zp.2 c (by rw[←hs];exact hc)⟩
 refine⟨hI.size,hI.len,hI.nbk,hI.sonce,fun t=>?_,hzp,hI.once,hI.spe,fun c hc=>hI.own c (by rw[←hs];exact hc),fun d cs hd=>?_,hI.boxd,fun d k rows c hd hc=>?_,hI.al,hI.mks,val,⟨fun z id hm=>?_,fun id k hm=>?_,hR.own,hR.apart,hR.row⟩⟩
 ·obtain⟨g1,g2⟩:=hI.slots t
  refine⟨zfG he (fun cs hcs c hc e=>by subst e;exact hbox t cs hcs hc) (fun k rows hk c hc e=>by subst e;exact harr t k rows hk hc) g1,fun r hr=>?_⟩
  have:=g2 r hr
  cases r with
  | ref cs=>exact PRef.evo he this
  | box d off=>exact this
  | el d k n j=>exact this
 ·obtain⟨c,h1,h2,h3,h4⟩:=hI.box d cs hd
  exact⟨c,h1,h2,h3,by rw[hs];exact h4⟩
 ·obtain⟨h1,h2,h3,h4⟩:=hI.arr d k rows c hd hc
  exact⟨h1,h2,by rw[hs];exact h3,h4⟩
 ·obtain⟨h1,h2⟩:=hR.place z id hm
  refine⟨?_,h2⟩
  have hsl:=(hI.slots z.1).1
  cases hx:s.get z.1 with
  | und=>exact absurd hx h2
  | v x=>rw[hx] at hsl;rw[zbw hsl] at h1 ⊢;exact h1
  | tup xs=>rw[hx] at hsl;obtain⟨arr,e,_⟩:=hsl;rw[e] at h1 ⊢;exact h1
  | al d=>rw[hx] at hsl;obtain⟨_,_,_,e⟩:=hsl;rw[e] at h1 ⊢;exact h1
  | arr k rows =>
   rw[hx] at hsl;rcases hsl.2.2 with ⟨e,_⟩|⟨_,_,_,_,_,_,e,_⟩
   ·rw[e] at h1 ⊢;exact h1
   ·rw[e] at h1 ⊢;exact h1
  | box cs =>
   obtain⟨c,e,_,h3,hlt⟩:=hI.box z.1 cs hx;rw[e] at h1 ⊢;show w1.cell? ⟨c,z.2,none⟩=_
   rw[World.cell?_of_block (w:=w) (he.block c hlt (fun e=>hb (by rw[←e];exact h3)))]
   exact h1
 ·exact(hR.alive id k hm).evo he (fun c hc e=>by subst e;exact hb (hR.own id k _ hm hc).1)
theorem zme {d:Option Nat}{tk:List Nat}{t:Nat} (h:t∈ziP d tk):t∈tk∧d≠some t:=by
 unfold ziP at h;split at h
 ·rename_i d
  rw[List.mem_filter] at h;simp only[Bool.not_eq_true'] at h;exact⟨h.1,fun e=>by cases e;rw[Nat.beq_refl] at h;cases h.2⟩
 ·exact⟨h,by simp⟩
theorem zsf {tk:List Nat}{x:Operand} (h:zBC tk x=true):∃i,x=.tmp i∧i∈tk:=by
 unfold zBC at h;split at h
 ·rename_i i
  simp only[List.any_eq_true] at h;obtain⟨t,ht,he⟩:=h;exact⟨i,rfl,by rw[←Nat.eq_of_beq_eq_true he];exact ht⟩
 ·cases h
theorem zrH (hC:zdh P S T ct) {f:FuncId}{xs:Array Operand}{ts:Array TypeId} (hop:o.op=.call {callee:=.value (.func f),args:=xs,argTypes:=ts}) (hf:T f=true) {x:Operand}{xs':List Operand} (hxs:xs.toList=x::xs')
  (hx:a.eval x=zbh b) {vs:List SV} (hreps:RepSs p w (xs'.map a.eval) vs) {q0 q1:List AC}{r:AV} (hcall:ct f q0 vs=some (r,q1)) (htk:TK p w Own b q0) (hz:Zp p w) (hsz:a.tmps.size=s.σ.length) :
  Does P o a w fun v w'=>∃p' w1,zjR L S q o a p w1 (s.put o.dst r) v p' w'∧Evo (·=b) p w p w1∧w1.heap.size=w.heap.size∧TK p' w' Own b q1:=by
 obtain⟨htakes,hC1⟩:=hC f hf;obtain⟨⟨_,fn,f1,f2,f3⟩,hc⟩:=hC1 q0 vs (r,q1) hcall;have hcalls:=hc p w b (xs'.map a.eval) hreps hz (htk.own (fun h=>h))
 have hargs:xs.map a.eval=(zbh b::xs'.map a.eval).toArray:=by
  apply Array.ext'
  simp[hxs,hx]
 refine zpW (f:=f) (args:=xs.map a.eval) ?_ ?_
 ·have f3':¬fn.name = "runtime.NumGoroutine":=by simpa using f3
  have hne:fn.body≠none:=by cases h:fn.body <;> simp[h] at f2 ⊢
  simp[execOp,hop,resolve,invoke,Act.eval,Deferred.ofValue,callFunc,f1,f3',hne]
 ·rw[hargs]
  refine hcalls.mono ?_
  rintro e w' ⟨v,rfl,p',hsr,hnb,hnu,hev,hz',hT',hg1,hg2⟩
  obtain⟨arr,ty,hx',_⟩:=hT'.cells;have heats:zb6 L S o=[]:=by simp[zb6,hop,htakes]
  have hfr:zaR L S o=(S.sg f).gives:=by simp[zaR,hop]
  have hmv:zaT L q o=[]:=by simp[zaT,hop]
  have he1:=zDa hev htk.lt htk.pz hT'.pz hx'
  have hs1:=zjJ w b (.cells arr ty (0,0))
  refine⟨v,rfl,p',World.withBlock w b (.cells arr ty (0,0)),⟨he1.weaken (fun _ _ h=>h.elim),hz',zb0 hsz hsr,zkq hnb,zdH hnu,?_,?_,by rw[hmv];simp⟩,zAE _ htk.pz,hs1,hT'.own htk.not⟩
  ·rw[hfr]
   intro e he;obtain⟨u,h1,h2,h3⟩:=hg1 e he;exact⟨u,h1,h2,fun c hc=>.inl (by rw[hs1];exact h3 c hc)⟩
  ·rw[hfr]
   intro e e' u u' c he he' hne h1 h2 h3;exact hg2 e e' u u' c he he' hne h1 h2 h3
end
end
end Go.Proofs.YtkgbadeobdbinaaGreat

/- Generic texts and models for the proofs of this seat: part 22. -/
import Derived.Test.YtcpcagdialnbeaaY21
set_option linter.unusedVariables false
set_option linter.unusedSimpArgs false
namespace Go.Proofs.Ytcpcagdialnbeaa
open Go
def tt (f:Nat):Bool:=[27,20,28,29,30,46,52,67,69,73,74,75,76,78,93,94,95,96,99,105,108].any fun e => Nat.beq e f
def zex (f:Nat):Option zv4:=if Nat.beq f 27 then some zrb else none
theorem ztN:zas (zbe tt) lay sig Try.f20 (sig.sg 20) = true:=by kernel_rfl
theorem zsw:zas (zbe tt) lay sig Try.f28 (sig.sg 28) = true:=by kernel_rfl
theorem ztW:zas (zbe tt) lay sig Try.f29 (sig.sg 29) = true:=by kernel_rfl
theorem zto:zas (zbe tt) lay sig Try.f30 (sig.sg 30) = true:=by kernel_rfl
theorem zsS:zas (zbe tt) lay sig Try.f46 (sig.sg 46) = true:=by kernel_rfl
theorem ztj:zas (zbe tt) lay sig Try.f52 (sig.sg 52) = true:=by kernel_rfl
theorem zsD:zas (zbe tt) lay sig Try.f67 (sig.sg 67) = true:=by kernel_rfl
theorem zt6:zas (zbe tt) lay sig Try.f69 (sig.sg 69) = true:=by kernel_rfl
theorem ztY:zas (zbe tt) lay sig Try.f73 (sig.sg 73) = true:=by kernel_rfl
theorem ztm:zas (zbe tt) lay sig Try.f74 (sig.sg 74) = true:=by kernel_rfl
theorem ztX:zas (zbe tt) lay sig Try.f75 (sig.sg 75) = true:=by kernel_rfl
theorem zsl:zas (zbe tt) lay sig Try.f76 (sig.sg 76) = true:=by kernel_rfl
theorem zsx:zas (zbe tt) lay sig Try.f78 (sig.sg 78) = true:=by kernel_rfl
theorem zsg:zas (zbe tt) lay sig Try.f93 (sig.sg 93) = true:=by kernel_rfl
theorem ztB:zas (zbe tt) lay sig Try.f94 (sig.sg 94) = true:=by kernel_rfl
theorem zsA:zas (zbe tt) lay sig Try.f95 (sig.sg 95) = true:=by kernel_rfl
theorem zs3:zas (zbe tt) lay sig Try.f96 (sig.sg 96) = true:=by kernel_rfl
theorem zug:zas (zbe tt) lay sig Try.f99 (sig.sg 99) = true:=by kernel_rfl
theorem zrJ:zas (zbe tt) lay sig Try.f105 (sig.sg 105) = true:=by kernel_rfl
theorem zrn:zas (zbe tt) lay sig Try.f108 (sig.sg 108) = true:=by kernel_rfl
theorem zmX {f:Nat} (h:tt f = true):f ∈ [27,20,28,29,30,46,52,67,69,73,74,75,76,78,93,94,95,96,99,105,108]:=by
 unfold tt at h
 simp only [List.any_eq_true] at h
 obtain ⟨e,he,hb⟩:=h
 rw [← Nat.eq_of_beq_eq_true hb]
 exact he
theorem zpZ:ztz Try.prog lay sig tt zex:=by
 refine ⟨fun f hf => ?_,fun f e hf he ct hct => ?_,fun f hf he => ?_⟩
 ·have hm:=zmX hf
  simp only [List.mem_cons,List.not_mem_nil,or_false] at hm
  rcases hm with rfl | rfl | rfl | rfl | rfl | rfl | rfl | rfl | rfl | rfl | rfl | rfl | rfl | rfl | rfl | rfl | rfl | rfl | rfl | rfl | rfl
  ·exact (show (sig.sg 27).takes = [] by kernel_rfl)
  ·exact (show (sig.sg 20).takes = [] by kernel_rfl)
  ·exact (show (sig.sg 28).takes = [] by kernel_rfl)
  ·exact (show (sig.sg 29).takes = [] by kernel_rfl)
  ·exact (show (sig.sg 30).takes = [] by kernel_rfl)
  ·exact (show (sig.sg 46).takes = [] by kernel_rfl)
  ·exact (show (sig.sg 52).takes = [] by kernel_rfl)
  ·exact (show (sig.sg 67).takes = [] by kernel_rfl)
  ·exact (show (sig.sg 69).takes = [] by kernel_rfl)
  ·exact (show (sig.sg 73).takes = [] by kernel_rfl)
  ·exact (show (sig.sg 74).takes = [] by kernel_rfl)
  ·exact (show (sig.sg 75).takes = [] by kernel_rfl)
  ·exact (show (sig.sg 76).takes = [] by kernel_rfl)
  ·exact (show (sig.sg 78).takes = [] by kernel_rfl)
  ·exact (show (sig.sg 93).takes = [] by kernel_rfl)
  ·exact (show (sig.sg 94).takes = [] by kernel_rfl)
  ·exact (show (sig.sg 95).takes = [] by kernel_rfl)
  ·exact (show (sig.sg 96).takes = [] by kernel_rfl)
  ·exact (show (sig.sg 99).takes = [] by kernel_rfl)
  ·exact (show (sig.sg 105).takes = [] by kernel_rfl)
  ·exact (show (sig.sg 108).takes = [] by kernel_rfl)
 ·have hm:=zmX hf
  simp only [List.mem_cons,List.not_mem_nil,or_false] at hm
  rcases hm with rfl | rfl | rfl | rfl | rfl | rfl | rfl | rfl | rfl | rfl | rfl | rfl | rfl | rfl | rfl | rfl | rfl | rfl | rfl | rfl | rfl
  ·have h:zex 27 = some zrb:=by kernel_rfl
   rw [h] at he
   cases he
   exact zvp (by kernel_rfl)
  ·have h:zex 20 = none:=by kernel_rfl
   rw [h] at he
   cases he
  ·have h:zex 28 = none:=by kernel_rfl
   rw [h] at he
   cases he
  ·have h:zex 29 = none:=by kernel_rfl
   rw [h] at he
   cases he
  ·have h:zex 30 = none:=by kernel_rfl
   rw [h] at he
   cases he
  ·have h:zex 46 = none:=by kernel_rfl
   rw [h] at he
   cases he
  ·have h:zex 52 = none:=by kernel_rfl
   rw [h] at he
   cases he
  ·have h:zex 67 = none:=by kernel_rfl
   rw [h] at he
   cases he
  ·have h:zex 69 = none:=by kernel_rfl
   rw [h] at he
   cases he
  ·have h:zex 73 = none:=by kernel_rfl
   rw [h] at he
   cases he
  ·have h:zex 74 = none:=by kernel_rfl
   rw [h] at he
   cases he
  ·have h:zex 75 = none:=by kernel_rfl
   rw [h] at he
   cases he
  ·have h:zex 76 = none:=by kernel_rfl
   rw [h] at he
   cases he
  ·have h:zex 78 = none:=by kernel_rfl
   rw [h] at he
   cases he
  ·have h:zex 93 = none:=by kernel_rfl
   rw [h] at he
   cases he
  ·have h:zex 94 = none:=by kernel_rfl
   rw [h] at he
   cases he
  ·have h:zex 95 = none:=by kernel_rfl
   rw [h] at he
   cases he
  ·have h:zex 96 = none:=by kernel_rfl
   rw [h] at he
   cases he
  ·have h:zex 99 = none:=by kernel_rfl
   rw [h] at he
   cases he
  ·have h:zex 105 = none:=by kernel_rfl
   rw [h] at he
   cases he
  ·have h:zex 108 = none:=by kernel_rfl
   rw [h] at he
   cases he
 ·have hm:=zmX hf
  simp only [List.mem_cons,List.not_mem_nil,or_false] at hm
  rcases hm with rfl | rfl | rfl | rfl | rfl | rfl | rfl | rfl | rfl | rfl | rfl | rfl | rfl | rfl | rfl | rfl | rfl | rfl | rfl | rfl | rfl
  ·have h:zex 27 = some zrb:=by kernel_rfl
   rw [h] at he
   cases he
  ·exact ⟨_,Try.func20,ztN⟩
  ·exact ⟨_,Try.func28,zsw⟩
  ·exact ⟨_,Try.func29,ztW⟩
  ·exact ⟨_,Try.func30,zto⟩
  ·exact ⟨_,Try.func46,zsS⟩
  ·exact ⟨_,Try.func52,ztj⟩
  ·exact ⟨_,Try.func67,zsD⟩
  ·exact ⟨_,Try.func69,zt6⟩
  ·exact ⟨_,Try.func73,ztY⟩
  ·exact ⟨_,Try.func74,ztm⟩
  ·exact ⟨_,Try.func75,ztX⟩
  ·exact ⟨_,Try.func76,zsl⟩
  ·exact ⟨_,Try.func78,zsx⟩
  ·exact ⟨_,Try.func93,zsg⟩
  ·exact ⟨_,Try.func94,ztB⟩
  ·exact ⟨_,Try.func95,zsA⟩
  ·exact ⟨_,Try.func96,zs3⟩
  ·exact ⟨_,Try.func99,zug⟩
  ·exact ⟨_,Try.func105,zrJ⟩
  ·exact ⟨_,Try.func108,zrn⟩
end Go.Proofs.Ytcpcagdialnbeaa

/- Generic texts and models for the proofs of this seat: part 22. -/
import Derived.Test.YtcpcagdialnbeaaY21
set_option linter.unusedVariables false
set_option linter.unusedSimpArgs false
namespace Go.Proofs.Ytcpcagdialnbeaa
section
open Go
def tt (f:Nat):Bool:=[27,20,28,29,30,46,52,67,69,73,74,75,76,78,93,94,95,96,99,105,108].any fun e=>Nat.beq e f
def zfg (f:Nat):Option zzv:=if Nat.beq f 27 then some zu8 else none
theorem zwY:zay (zbu tt) lay sig Try.f20 (sig.sg 20)=true:=by kernel_rfl
theorem zxd:zay (zbu tt) lay sig Try.f28 (sig.sg 28)=true:=by kernel_rfl
theorem zwE:zay (zbu tt) lay sig Try.f29 (sig.sg 29)=true:=by kernel_rfl
theorem zxY:zay (zbu tt) lay sig Try.f30 (sig.sg 30)=true:=by kernel_rfl
theorem zwr:zay (zbu tt) lay sig Try.f46 (sig.sg 46)=true:=by kernel_rfl
theorem zwx:zay (zbu tt) lay sig Try.f52 (sig.sg 52)=true:=by kernel_rfl
theorem zv1:zay (zbu tt) lay sig Try.f67 (sig.sg 67)=true:=by kernel_rfl
theorem zxq:zay (zbu tt) lay sig Try.f69 (sig.sg 69)=true:=by kernel_rfl
theorem zx2:zay (zbu tt) lay sig Try.f73 (sig.sg 73)=true:=by kernel_rfl
theorem zv5:zay (zbu tt) lay sig Try.f74 (sig.sg 74)=true:=by kernel_rfl
theorem zxT:zay (zbu tt) lay sig Try.f75 (sig.sg 75)=true:=by kernel_rfl
theorem zxW:zay (zbu tt) lay sig Try.f76 (sig.sg 76)=true:=by kernel_rfl
theorem zx4:zay (zbu tt) lay sig Try.f78 (sig.sg 78)=true:=by kernel_rfl
theorem zwh:zay (zbu tt) lay sig Try.f93 (sig.sg 93)=true:=by kernel_rfl
theorem zwa:zay (zbu tt) lay sig Try.f94 (sig.sg 94)=true:=by kernel_rfl
theorem zxF:zay (zbu tt) lay sig Try.f95 (sig.sg 95)=true:=by kernel_rfl
theorem zv6:zay (zbu tt) lay sig Try.f96 (sig.sg 96)=true:=by kernel_rfl
theorem zxu:zay (zbu tt) lay sig Try.f99 (sig.sg 99)=true:=by kernel_rfl
theorem zvC:zay (zbu tt) lay sig Try.f105 (sig.sg 105)=true:=by kernel_rfl
theorem zvl:zay (zbu tt) lay sig Try.f108 (sig.sg 108)=true:=by kernel_rfl
theorem zpe {f:Nat} (h:tt f=true):f∈[27,20,28,29,30,46,52,67,69,73,74,75,76,78,93,94,95,96,99,105,108]:=by
 unfold tt at h;simp only[List.any_eq_true] at h;obtain⟨e,he,hb⟩:=h;rw[←Nat.eq_of_beq_eq_true hb];exact he
theorem zuy:zwe Try.prog lay sig tt zfg:=by
 refine⟨fun f hf=>?_,fun f e hf he ct hct=>?_,fun f hf he=>?_⟩
 ·have hm:=zpe hf
  simp only[List.mem_cons,List.not_mem_nil,or_false] at hm;rcases hm with rfl|rfl|rfl|rfl|rfl|rfl|rfl|rfl|rfl|rfl|rfl|rfl|rfl|rfl|rfl|rfl|rfl|rfl|rfl|rfl|rfl
  ·exact(show(sig.sg 27).takes=[] by kernel_rfl)
  ·exact(show(sig.sg 20).takes=[] by kernel_rfl)
  ·exact(show(sig.sg 28).takes=[] by kernel_rfl)
  ·exact(show(sig.sg 29).takes=[] by kernel_rfl)
  ·exact(show(sig.sg 30).takes=[] by kernel_rfl)
  ·exact(show(sig.sg 46).takes=[] by kernel_rfl)
  ·exact(show(sig.sg 52).takes=[] by kernel_rfl)
  ·exact(show(sig.sg 67).takes=[] by kernel_rfl)
  ·exact(show(sig.sg 69).takes=[] by kernel_rfl)
  ·exact(show(sig.sg 73).takes=[] by kernel_rfl)
  ·exact(show(sig.sg 74).takes=[] by kernel_rfl)
  ·exact(show(sig.sg 75).takes=[] by kernel_rfl)
  ·exact(show(sig.sg 76).takes=[] by kernel_rfl)
  ·exact(show(sig.sg 78).takes=[] by kernel_rfl)
  ·exact(show(sig.sg 93).takes=[] by kernel_rfl)
  ·exact(show(sig.sg 94).takes=[] by kernel_rfl)
  ·exact(show(sig.sg 95).takes=[] by kernel_rfl)
  ·exact(show(sig.sg 96).takes=[] by kernel_rfl)
  ·exact(show(sig.sg 99).takes=[] by kernel_rfl)
  ·exact(show(sig.sg 105).takes=[] by kernel_rfl)
  ·exact(show(sig.sg 108).takes=[] by kernel_rfl)
 ·have hm:=zpe hf
  simp only[List.mem_cons,List.not_mem_nil,or_false] at hm;rcases hm with rfl|rfl|rfl|rfl|rfl|rfl|rfl|rfl|rfl|rfl|rfl|rfl|rfl|rfl|rfl|rfl|rfl|rfl|rfl|rfl|rfl
  ·have h:zfg 27=some zu8:=by kernel_rfl
   rw[h] at he;cases he;exact zyC (by kernel_rfl)
  ·have h:zfg 20=none:=by kernel_rfl
   rw[h] at he;cases he
  ·have h:zfg 28=none:=by kernel_rfl
   rw[h] at he;cases he
  ·have h:zfg 29=none:=by kernel_rfl
   rw[h] at he;cases he
  ·have h:zfg 30=none:=by kernel_rfl
   rw[h] at he;cases he
  ·have h:zfg 46=none:=by kernel_rfl
   rw[h] at he;cases he
  ·have h:zfg 52=none:=by kernel_rfl
   rw[h] at he;cases he
  ·have h:zfg 67=none:=by kernel_rfl
   rw[h] at he;cases he
  ·have h:zfg 69=none:=by kernel_rfl
   rw[h] at he;cases he
  ·have h:zfg 73=none:=by kernel_rfl
   rw[h] at he;cases he
  ·have h:zfg 74=none:=by kernel_rfl
   rw[h] at he;cases he
  ·have h:zfg 75=none:=by kernel_rfl
   rw[h] at he;cases he
  ·have h:zfg 76=none:=by kernel_rfl
   rw[h] at he;cases he
  ·have h:zfg 78=none:=by kernel_rfl
   rw[h] at he;cases he
  ·have h:zfg 93=none:=by kernel_rfl
   rw[h] at he;cases he
  ·have h:zfg 94=none:=by kernel_rfl
   rw[h] at he;cases he
  ·have h:zfg 95=none:=by kernel_rfl
   rw[h] at he;cases he
  ·have h:zfg 96=none:=by kernel_rfl
   rw[h] at he;cases he
  ·have h:zfg 99=none:=by kernel_rfl
   rw[h] at he;cases he
  ·have h:zfg 105=none:=by kernel_rfl
   rw[h] at he;cases he
  ·have h:zfg 108=none:=by kernel_rfl
   rw[h] at he;cases he
 ·have hm:=zpe hf
  simp only[List.mem_cons,List.not_mem_nil,or_false] at hm;rcases hm with rfl|rfl|rfl|rfl|rfl|rfl|rfl|rfl|rfl|rfl|rfl|rfl|rfl|rfl|rfl|rfl|rfl|rfl|rfl|rfl|rfl
  ·have h:zfg 27=some zu8:=by kernel_rfl
   rw[h] at he;cases he
  ·exact⟨_,Try.func20,zwY⟩
  ·exact⟨_,Try.func28,zxd⟩
  ·exact⟨_,Try.func29,zwE⟩
  ·exact⟨_,Try.func30,zxY⟩
  ·exact⟨_,Try.func46,zwr⟩
  ·exact⟨_,Try.func52,zwx⟩
  ·exact⟨_,Try.func67,zv1⟩
  ·exact⟨_,Try.func69,zxq⟩
  ·exact⟨_,Try.func73,zx2⟩
  ·exact⟨_,Try.func74,zv5⟩
  ·exact⟨_,Try.func75,zxT⟩
  ·exact⟨_,Try.func76,zxW⟩
  ·exact⟨_,Try.func78,zx4⟩
  ·exact⟨_,Try.func93,zwh⟩
  ·exact⟨_,Try.func94,zwa⟩
  ·exact⟨_,Try.func95,zxF⟩
  ·exact⟨_,Try.func96,zv6⟩
  ·exact⟨_,Try.func99,zxu⟩
  ·exact⟨_,Try.func105,zvC⟩
  ·exact⟨_,Try.func108,zvl⟩
end
end Go.Proofs.Ytcpcagdialnbeaa

/-
  No cell of these rows narrows 'for every input' (looked for: loops, veiled, ifaces, maps, wideKeys, modest, calm, conditions, laid).
  DERIVED. THE GIVEN ROWS OF THIS SEAT. 5 by the template 'for every input the law returns true; each argument reads behind the call as it read before'; 0 by the template 'total and deterministic' (their statements: YtbodfaghedolbaaTotals.lean).
  GIVEN WITH THE SEED: the statements are not yours to turn. If you find one false, say at which input.
  Laid BY PROGRAM, IN A SANDBOX (cutbox-rows.mjs): the forced cells as the released guide's own fill.sh prints them over the translation 110ad76c1d6e503d… (all of the seat's roots in one cut). By AI agents, Wed Nov 11 2026. No macro, syntax, notation, axiom, sorry.
-/
import Derived.Test.YtbodfaghedolbaaChecked
import GoSem.Claim
import GoSem.ClaimJoined
import GoSem.ClaimMapViews
import Derived.JoinedTies
import Derived.KernelRfl
namespace Go.Proofs.Ytbodfaghedolbaa
/- THE CELL 'sum', in the pinned program and in every row, IS THE sha256 OF THE DUMP (.gsa) THAT YtbodfaghedolbaaProg.lean LOADS. Nothing in Lean hashes anything: it is a label: what it is worth is what the hold of that sum in a sandbox is worth. -/
noncomputable def Try.pinned : Pinned := { name := "ytbodfaghedolbaa", sum := "110ad76c1d6e503d83b6964f801d7a697c2f00544768fbc05afbe992f5c304d6", checked := Try.checked }
namespace Rows
def none {H : Type} : Left H := { results := [], args := [] }

/-- 'laws.FnValidSigs': WHATEVER THE INPUT: true; the input reads as it did. -/
def fnValidSigsSpec : ChangeSpec := { name := "fnValidSigs", fn := fun _ => fun
  | [d] => { results := [.lit (.bool true)], args := [d] }
  | _ => none }
def fnValidSigsRow : OpenClaim := { program := "ytbodfaghedolbaa", sum := "110ad76c1d6e503d83b6964f801d7a697c2f00544768fbc05afbe992f5c304d6", func := "loop.example/refcountml/laws.FnValidSigs", spec := "fnValidSigs", recurses := true, apart := false }
def FnValidSigsSaid : Prop := fnValidSigsRow.holds Try.pinned (OpenSpec.ofChange fnValidSigsSpec)

/-- ITS FALSE NEIGHBOUR: 'it returns false'. Refute it at one input. -/
def fnValidSigsWrong : ChangeSpec := { name := "fnValidSigs", fn := fun _ => fun
  | [d] => { results := [.lit (.bool false)], args := [d] }
  | _ => none }
def FnValidSigsWrongFalsely : Prop := fnValidSigsRow.holds Try.pinned (OpenSpec.ofChange fnValidSigsWrong)

/-- 'laws.FnValidProgram': WHATEVER THE INPUT: true; the input reads as it did. -/
def fnValidProgramSpec : ChangeSpec := { name := "fnValidProgram", fn := fun _ => fun
  | [d] => { results := [.lit (.bool true)], args := [d] }
  | _ => none }
def fnValidProgramRow : OpenClaim := { program := "ytbodfaghedolbaa", sum := "110ad76c1d6e503d83b6964f801d7a697c2f00544768fbc05afbe992f5c304d6", func := "loop.example/refcountml/laws.FnValidProgram", spec := "fnValidProgram", recurses := true, apart := false }
def FnValidProgramSaid : Prop := fnValidProgramRow.holds Try.pinned (OpenSpec.ofChange fnValidProgramSpec)

/-- ITS FALSE NEIGHBOUR: 'it returns false'. Refute it at one input. -/
def fnValidProgramWrong : ChangeSpec := { name := "fnValidProgram", fn := fun _ => fun
  | [d] => { results := [.lit (.bool false)], args := [d] }
  | _ => none }
def FnValidProgramWrongFalsely : Prop := fnValidProgramRow.holds Try.pinned (OpenSpec.ofChange fnValidProgramWrong)

/-- 'laws.FnShift': WHATEVER THE INPUT: true; the input reads as it did. -/
def fnShiftSpec : ChangeSpec := { name := "fnShift", fn := fun _ => fun
  | [d] => { results := [.lit (.bool true)], args := [d] }
  | _ => none }
def fnShiftRow : OpenClaim := { program := "ytbodfaghedolbaa", sum := "110ad76c1d6e503d83b6964f801d7a697c2f00544768fbc05afbe992f5c304d6", func := "loop.example/refcountml/laws.FnShift", spec := "fnShift", recurses := true, apart := false }
def FnShiftSaid : Prop := fnShiftRow.holds Try.pinned (OpenSpec.ofChange fnShiftSpec)

/-- ITS FALSE NEIGHBOUR: 'it returns false'. Refute it at one input. -/
def fnShiftWrong : ChangeSpec := { name := "fnShift", fn := fun _ => fun
  | [d] => { results := [.lit (.bool false)], args := [d] }
  | _ => none }
def FnShiftWrongFalsely : Prop := fnShiftRow.holds Try.pinned (OpenSpec.ofChange fnShiftWrong)

/-- 'laws.FnShiftTwice': WHATEVER THE INPUT: true; the input reads as it did. -/
def fnShiftTwiceSpec : ChangeSpec := { name := "fnShiftTwice", fn := fun _ => fun
  | [d] => { results := [.lit (.bool true)], args := [d] }
  | _ => none }
def fnShiftTwiceRow : OpenClaim := { program := "ytbodfaghedolbaa", sum := "110ad76c1d6e503d83b6964f801d7a697c2f00544768fbc05afbe992f5c304d6", func := "loop.example/refcountml/laws.FnShiftTwice", spec := "fnShiftTwice", recurses := true, apart := false }
def FnShiftTwiceSaid : Prop := fnShiftTwiceRow.holds Try.pinned (OpenSpec.ofChange fnShiftTwiceSpec)

/-- ITS FALSE NEIGHBOUR: 'it returns false'. Refute it at one input. -/
def fnShiftTwiceWrong : ChangeSpec := { name := "fnShiftTwice", fn := fun _ => fun
  | [d] => { results := [.lit (.bool false)], args := [d] }
  | _ => none }
def FnShiftTwiceWrongFalsely : Prop := fnShiftTwiceRow.holds Try.pinned (OpenSpec.ofChange fnShiftTwiceWrong)

/-- 'laws.FnShiftMentions': WHATEVER THE INPUT: true; the input reads as it did. -/
def fnShiftMentionsSpec : ChangeSpec := { name := "fnShiftMentions", fn := fun _ => fun
  | [d] => { results := [.lit (.bool true)], args := [d] }
  | _ => none }
def fnShiftMentionsRow : OpenClaim := { program := "ytbodfaghedolbaa", sum := "110ad76c1d6e503d83b6964f801d7a697c2f00544768fbc05afbe992f5c304d6", func := "loop.example/refcountml/laws.FnShiftMentions", spec := "fnShiftMentions", recurses := true, apart := false }
def FnShiftMentionsSaid : Prop := fnShiftMentionsRow.holds Try.pinned (OpenSpec.ofChange fnShiftMentionsSpec)

/-- ITS FALSE NEIGHBOUR: 'it returns false'. Refute it at one input. -/
def fnShiftMentionsWrong : ChangeSpec := { name := "fnShiftMentions", fn := fun _ => fun
  | [d] => { results := [.lit (.bool false)], args := [d] }
  | _ => none }
def FnShiftMentionsWrongFalsely : Prop := fnShiftMentionsRow.holds Try.pinned (OpenSpec.ofChange fnShiftMentionsWrong)

/- THE SECOND FORM. 'bulk': how many values and letters a reading holds, each counted each time it is reached (what is shared counts as often as it is met; a slice's spare places count too). A statement '..UptoSaid' is the law's where the arguments, and the package variables that the reading takes, are together of bulk at most 1048576: NARROWER than '..Said'. Prove '..Said' where nothing that the law and all that it calls make is longer than what came in: it says more and counts as full. Else prove '..UptoSaid'. A law counts once. -/
mutual
def uptoBulk {H : Type} : DataW H → Nat
  | .lit (.string bytes) => bytes.length + 1
  | .lit _ => 1
  | .nil => 1
  | .ptr d => uptoBulk d + 1
  | .slice elems spare => uptoBulkAll elems + uptoBulkAll spare + 1
  | .agg parts => uptoBulkAll parts + 1
  | .iface _ d => uptoBulk d + 1
  | .map entries => uptoBulkEntries entries + 1
  | .held _ => 1
def uptoBulkAll {H : Type} : List (DataW H) → Nat
  | [] => 0
  | d :: r => uptoBulk d + uptoBulkAll r
def uptoBulkEntries {H : Type} : List (Lit × DataW H) → Nat
  | [] => 0
  | x :: r => uptoBulkEntry x + uptoBulkEntries r
def uptoBulkEntry {H : Type} : Lit × DataW H → Nat
  | (.string bytes, d) => bytes.length + uptoBulk d + 1
  | (_, d) => uptoBulk d + 1
 end
def uptoSmall : (H : Type) → List (DataW H) → Bool := fun _ ds => decide (uptoBulkAll ds ≤ 1048576)
def OpenSpec.upto (s : _root_.Go.ChangeSpec) : _root_.Go.OpenSpec := { _root_.Go.OpenSpec.ofChange s with cond := some uptoSmall }

/-- 'laws.FnValidSigs', WHERE WHAT IT READS IS OF BULK AT MOST 1048576: true; the input reads as it did. -/
def fnValidSigsUptoRow : OpenClaim := { program := "ytbodfaghedolbaa", sum := "110ad76c1d6e503d83b6964f801d7a697c2f00544768fbc05afbe992f5c304d6", func := "loop.example/refcountml/laws.FnValidSigs", spec := "fnValidSigs", recurses := true, apart := false, narrowed := true }
def FnValidSigsUptoSaid : Prop := fnValidSigsUptoRow.holds Try.pinned (OpenSpec.upto fnValidSigsSpec)

/-- 'laws.FnValidProgram', WHERE WHAT IT READS IS OF BULK AT MOST 1048576: true; the input reads as it did. -/
def fnValidProgramUptoRow : OpenClaim := { program := "ytbodfaghedolbaa", sum := "110ad76c1d6e503d83b6964f801d7a697c2f00544768fbc05afbe992f5c304d6", func := "loop.example/refcountml/laws.FnValidProgram", spec := "fnValidProgram", recurses := true, apart := false, narrowed := true }
def FnValidProgramUptoSaid : Prop := fnValidProgramUptoRow.holds Try.pinned (OpenSpec.upto fnValidProgramSpec)

/-- 'laws.FnShift', WHERE WHAT IT READS IS OF BULK AT MOST 1048576: true; the input reads as it did. -/
def fnShiftUptoRow : OpenClaim := { program := "ytbodfaghedolbaa", sum := "110ad76c1d6e503d83b6964f801d7a697c2f00544768fbc05afbe992f5c304d6", func := "loop.example/refcountml/laws.FnShift", spec := "fnShift", recurses := true, apart := false, narrowed := true }
def FnShiftUptoSaid : Prop := fnShiftUptoRow.holds Try.pinned (OpenSpec.upto fnShiftSpec)

/-- 'laws.FnShiftTwice', WHERE WHAT IT READS IS OF BULK AT MOST 1048576: true; the input reads as it did. -/
def fnShiftTwiceUptoRow : OpenClaim := { program := "ytbodfaghedolbaa", sum := "110ad76c1d6e503d83b6964f801d7a697c2f00544768fbc05afbe992f5c304d6", func := "loop.example/refcountml/laws.FnShiftTwice", spec := "fnShiftTwice", recurses := true, apart := false, narrowed := true }
def FnShiftTwiceUptoSaid : Prop := fnShiftTwiceUptoRow.holds Try.pinned (OpenSpec.upto fnShiftTwiceSpec)

/-- 'laws.FnShiftMentions', WHERE WHAT IT READS IS OF BULK AT MOST 1048576: true; the input reads as it did. -/
def fnShiftMentionsUptoRow : OpenClaim := { program := "ytbodfaghedolbaa", sum := "110ad76c1d6e503d83b6964f801d7a697c2f00544768fbc05afbe992f5c304d6", func := "loop.example/refcountml/laws.FnShiftMentions", spec := "fnShiftMentions", recurses := true, apart := false, narrowed := true }
def FnShiftMentionsUptoSaid : Prop := fnShiftMentionsUptoRow.holds Try.pinned (OpenSpec.upto fnShiftMentionsSpec)

end Rows
end Go.Proofs.Ytbodfaghedolbaa

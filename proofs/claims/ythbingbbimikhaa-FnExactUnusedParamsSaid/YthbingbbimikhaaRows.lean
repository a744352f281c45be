/-
  NARROWER THAN 'FOR EVERY INPUT', by the rows' own cells (each row's printed sentence says how): FnExactTypeOf: loops · FnExactValidProgram: loops · FnExactCalleesOf: loops · FnExactUnusedParams: loops · FnExactShift: loops.
  DERIVED. THE GIVEN ROWS OF THIS SEAT. 5 by the template 'for every input the law returns true; each argument reads behind the call as it read before'; 0 by the template 'total and deterministic' (their statements: YthbingbbimikhaaTotals.lean).
  GIVEN WITH THE SEED: the statements are not yours to turn. If you find one false, say at which input.
  Laid BY PROGRAM, IN A SANDBOX (cutbox-rows.mjs): the forced cells as the released guide's own fill.sh prints them over the translation 21b3f582c27079ab… (all of the seat's roots in one cut). By AI agents, Wed Nov 11 2026. No macro, syntax, notation, axiom, sorry.
-/
import Derived.Test.YthbingbbimikhaaChecked
import GoSem.Claim
import GoSem.ClaimJoined
import GoSem.ClaimMapViews
import Derived.JoinedTies
import Derived.KernelRfl
namespace Go.Proofs.Ythbingbbimikhaa
/- THE CELL 'sum', in the pinned program and in every row, IS THE sha256 OF THE DUMP (.gsa) THAT YthbingbbimikhaaProg.lean LOADS. Nothing in Lean hashes anything: it is a label: what it is worth is what the hold of that sum in a sandbox is worth. -/
noncomputable def Try.pinned : Pinned := { name := "ythbingbbimikhaa", sum := "21b3f582c27079abdde43d1a04cb4b187854f572a84ef5a7c23ca6366a445359", checked := Try.checked }
namespace Rows
def none {H : Type} : Left H := { results := [], args := [] }

/-- 'laws.FnExactTypeOf': WHATEVER THE INPUT: true; the input reads as it did. -/
def fnExactTypeOfSpec : ChangeSpec := { name := "fnExactTypeOf", fn := fun _ => fun
  | [d1, d2, d3] => { results := [.lit (.bool true)], args := [d1, d2, d3] }
  | _ => none }
def fnExactTypeOfRow : OpenClaim := { program := "ythbingbbimikhaa", sum := "21b3f582c27079abdde43d1a04cb4b187854f572a84ef5a7c23ca6366a445359", func := "loop.example/refcountml/laws.FnExactTypeOf", spec := "fnExactTypeOf", recurses := true, loops := true, apart := false }
def FnExactTypeOfSaid : Prop := fnExactTypeOfRow.holds Try.pinned (OpenSpec.ofChange fnExactTypeOfSpec)

/-- ITS FALSE NEIGHBOUR: 'it returns false'. Refute it at one input. -/
def fnExactTypeOfWrong : ChangeSpec := { name := "fnExactTypeOf", fn := fun _ => fun
  | [d1, d2, d3] => { results := [.lit (.bool false)], args := [d1, d2, d3] }
  | _ => none }
def FnExactTypeOfWrongFalsely : Prop := fnExactTypeOfRow.holds Try.pinned (OpenSpec.ofChange fnExactTypeOfWrong)

/-- 'laws.FnExactValidProgram': WHATEVER THE INPUT: true; the input reads as it did. -/
def fnExactValidProgramSpec : ChangeSpec := { name := "fnExactValidProgram", fn := fun _ => fun
  | [d] => { results := [.lit (.bool true)], args := [d] }
  | _ => none }
def fnExactValidProgramRow : OpenClaim := { program := "ythbingbbimikhaa", sum := "21b3f582c27079abdde43d1a04cb4b187854f572a84ef5a7c23ca6366a445359", func := "loop.example/refcountml/laws.FnExactValidProgram", spec := "fnExactValidProgram", recurses := true, loops := true, apart := false }
def FnExactValidProgramSaid : Prop := fnExactValidProgramRow.holds Try.pinned (OpenSpec.ofChange fnExactValidProgramSpec)

/-- ITS FALSE NEIGHBOUR: 'it returns false'. Refute it at one input. -/
def fnExactValidProgramWrong : ChangeSpec := { name := "fnExactValidProgram", fn := fun _ => fun
  | [d] => { results := [.lit (.bool false)], args := [d] }
  | _ => none }
def FnExactValidProgramWrongFalsely : Prop := fnExactValidProgramRow.holds Try.pinned (OpenSpec.ofChange fnExactValidProgramWrong)

/-- 'laws.FnExactCalleesOf': WHATEVER THE INPUT: true; the input reads as it did. -/
def fnExactCalleesOfSpec : ChangeSpec := { name := "fnExactCalleesOf", fn := fun _ => fun
  | [d1, d2] => { results := [.lit (.bool true)], args := [d1, d2] }
  | _ => none }
def fnExactCalleesOfRow : OpenClaim := { program := "ythbingbbimikhaa", sum := "21b3f582c27079abdde43d1a04cb4b187854f572a84ef5a7c23ca6366a445359", func := "loop.example/refcountml/laws.FnExactCalleesOf", spec := "fnExactCalleesOf", recurses := true, loops := true, apart := false }
def FnExactCalleesOfSaid : Prop := fnExactCalleesOfRow.holds Try.pinned (OpenSpec.ofChange fnExactCalleesOfSpec)

/-- ITS FALSE NEIGHBOUR: 'it returns false'. Refute it at one input. -/
def fnExactCalleesOfWrong : ChangeSpec := { name := "fnExactCalleesOf", fn := fun _ => fun
  | [d1, d2] => { results := [.lit (.bool false)], args := [d1, d2] }
  | _ => none }
def FnExactCalleesOfWrongFalsely : Prop := fnExactCalleesOfRow.holds Try.pinned (OpenSpec.ofChange fnExactCalleesOfWrong)

/-- 'laws.FnExactUnusedParams': WHATEVER THE INPUT: true; the input reads as it did. -/
def fnExactUnusedParamsSpec : ChangeSpec := { name := "fnExactUnusedParams", fn := fun _ => fun
  | [d1, d2] => { results := [.lit (.bool true)], args := [d1, d2] }
  | _ => none }
def fnExactUnusedParamsRow : OpenClaim := { program := "ythbingbbimikhaa", sum := "21b3f582c27079abdde43d1a04cb4b187854f572a84ef5a7c23ca6366a445359", func := "loop.example/refcountml/laws.FnExactUnusedParams", spec := "fnExactUnusedParams", recurses := true, loops := true, apart := false }
def FnExactUnusedParamsSaid : Prop := fnExactUnusedParamsRow.holds Try.pinned (OpenSpec.ofChange fnExactUnusedParamsSpec)

/-- ITS FALSE NEIGHBOUR: 'it returns false'. Refute it at one input. -/
def fnExactUnusedParamsWrong : ChangeSpec := { name := "fnExactUnusedParams", fn := fun _ => fun
  | [d1, d2] => { results := [.lit (.bool false)], args := [d1, d2] }
  | _ => none }
def FnExactUnusedParamsWrongFalsely : Prop := fnExactUnusedParamsRow.holds Try.pinned (OpenSpec.ofChange fnExactUnusedParamsWrong)

/-- 'laws.FnExactShift': WHATEVER THE INPUT: true; the input reads as it did. -/
def fnExactShiftSpec : ChangeSpec := { name := "fnExactShift", fn := fun _ => fun
  | [d1, d2, d3] => { results := [.lit (.bool true)], args := [d1, d2, d3] }
  | _ => none }
def fnExactShiftRow : OpenClaim := { program := "ythbingbbimikhaa", sum := "21b3f582c27079abdde43d1a04cb4b187854f572a84ef5a7c23ca6366a445359", func := "loop.example/refcountml/laws.FnExactShift", spec := "fnExactShift", recurses := true, loops := true, apart := false }
def FnExactShiftSaid : Prop := fnExactShiftRow.holds Try.pinned (OpenSpec.ofChange fnExactShiftSpec)

/-- ITS FALSE NEIGHBOUR: 'it returns false'. Refute it at one input. -/
def fnExactShiftWrong : ChangeSpec := { name := "fnExactShift", fn := fun _ => fun
  | [d1, d2, d3] => { results := [.lit (.bool false)], args := [d1, d2, d3] }
  | _ => none }
def FnExactShiftWrongFalsely : Prop := fnExactShiftRow.holds Try.pinned (OpenSpec.ofChange fnExactShiftWrong)

/- THE SECOND FORM. 'bulk': how many values and letters a reading holds, each counted each time it is reached (what is shared counts as often as it is met; a slice's spare places count too). A statement '..UptoSaid' is the law's where the arguments, and the package variables that the reading takes, are together of bulk at most 1048576: NARROWER than '..Said'. Prove '..Said' where nothing that the law and all that it calls make is longer than what came in: it says more and counts as full. Else prove '..UptoSaid'. A law counts once. -/
mutual
def uptoBulk {H : Type} : DataW H → Nat
  | .lit (.string bytes) => bytes.length + 1
  | .lit _ => 1
  | .nil => 1
  | .ptr d => uptoBulk d + 1
  | .slice elems spare => uptoBulkAll elems + uptoBulkAll spare + 1
  | .agg parts => uptoBulkAll parts + 1
  | .iface _ d => uptoBulk d + 1
  | .map entries => uptoBulkEntries entries + 1
  | .held _ => 1
def uptoBulkAll {H : Type} : List (DataW H) → Nat
  | [] => 0
  | d :: r => uptoBulk d + uptoBulkAll r
def uptoBulkEntries {H : Type} : List (Lit × DataW H) → Nat
  | [] => 0
  | x :: r => uptoBulkEntry x + uptoBulkEntries r
def uptoBulkEntry {H : Type} : Lit × DataW H → Nat
  | (.string bytes, d) => bytes.length + uptoBulk d + 1
  | (_, d) => uptoBulk d + 1
 end
def uptoSmall : (H : Type) → List (DataW H) → Bool := fun _ ds => decide (uptoBulkAll ds ≤ 1048576)
def OpenSpec.upto (s : _root_.Go.ChangeSpec) : _root_.Go.OpenSpec := { _root_.Go.OpenSpec.ofChange s with cond := some uptoSmall }

/-- 'laws.FnExactTypeOf', WHERE WHAT IT READS IS OF BULK AT MOST 1048576: true; the input reads as it did. -/
def fnExactTypeOfUptoRow : OpenClaim := { program := "ythbingbbimikhaa", sum := "21b3f582c27079abdde43d1a04cb4b187854f572a84ef5a7c23ca6366a445359", func := "loop.example/refcountml/laws.FnExactTypeOf", spec := "fnExactTypeOf", recurses := true, loops := true, apart := false, narrowed := true }
def FnExactTypeOfUptoSaid : Prop := fnExactTypeOfUptoRow.holds Try.pinned (OpenSpec.upto fnExactTypeOfSpec)

/-- 'laws.FnExactValidProgram', WHERE WHAT IT READS IS OF BULK AT MOST 1048576: true; the input reads as it did. -/
def fnExactValidProgramUptoRow : OpenClaim := { program := "ythbingbbimikhaa", sum := "21b3f582c27079abdde43d1a04cb4b187854f572a84ef5a7c23ca6366a445359", func := "loop.example/refcountml/laws.FnExactValidProgram", spec := "fnExactValidProgram", recurses := true, loops := true, apart := false, narrowed := true }
def FnExactValidProgramUptoSaid : Prop := fnExactValidProgramUptoRow.holds Try.pinned (OpenSpec.upto fnExactValidProgramSpec)

/-- 'laws.FnExactCalleesOf', WHERE WHAT IT READS IS OF BULK AT MOST 1048576: true; the input reads as it did. -/
def fnExactCalleesOfUptoRow : OpenClaim := { program := "ythbingbbimikhaa", sum := "21b3f582c27079abdde43d1a04cb4b187854f572a84ef5a7c23ca6366a445359", func := "loop.example/refcountml/laws.FnExactCalleesOf", spec := "fnExactCalleesOf", recurses := true, loops := true, apart := false, narrowed := true }
def FnExactCalleesOfUptoSaid : Prop := fnExactCalleesOfUptoRow.holds Try.pinned (OpenSpec.upto fnExactCalleesOfSpec)

/-- 'laws.FnExactUnusedParams', WHERE WHAT IT READS IS OF BULK AT MOST 1048576: true; the input reads as it did. -/
def fnExactUnusedParamsUptoRow : OpenClaim := { program := "ythbingbbimikhaa", sum := "21b3f582c27079abdde43d1a04cb4b187854f572a84ef5a7c23ca6366a445359", func := "loop.example/refcountml/laws.FnExactUnusedParams", spec := "fnExactUnusedParams", recurses := true, loops := true, apart := false, narrowed := true }
def FnExactUnusedParamsUptoSaid : Prop := fnExactUnusedParamsUptoRow.holds Try.pinned (OpenSpec.upto fnExactUnusedParamsSpec)

/-- 'laws.FnExactShift', WHERE WHAT IT READS IS OF BULK AT MOST 1048576: true; the input reads as it did. -/
def fnExactShiftUptoRow : OpenClaim := { program := "ythbingbbimikhaa", sum := "21b3f582c27079abdde43d1a04cb4b187854f572a84ef5a7c23ca6366a445359", func := "loop.example/refcountml/laws.FnExactShift", spec := "fnExactShift", recurses := true, loops := true, apart := false, narrowed := true }
def FnExactShiftUptoSaid : Prop := fnExactShiftUptoRow.holds Try.pinned (OpenSpec.upto fnExactShiftSpec)

end Rows
end Go.Proofs.Ythbingbbimikhaa

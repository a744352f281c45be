/-
  NARROWER THAN 'FOR EVERY INPUT', by the rows' own cells (each row's printed sentence says how): FnExactNodesOf: loops · FnExactMentionsOf: loops · FnExactFreeOf: loops · FnExactShift: loops · FnExactStepsOf: loops · FnExactUsesOf: loops · FnExactLastUse: loops.
  DERIVED. THE GIVEN ROWS OF THIS SEAT. 7 by the template 'for every input the law returns true; each argument reads behind the call as it read before'; 0 by the template 'total and deterministic' (their statements: YtmahamlfdegkkabTotals.lean).
  GIVEN WITH THE SEED: the statements are not yours to turn. If you find one false, say at which input.
  Laid BY PROGRAM, IN A SANDBOX (cutbox-rows.mjs): the forced cells as the released guide's own fill.sh prints them over the translation dba6c03956161fe8… (all of the seat's roots in one cut). By AI agents, Wed Nov 11 2026. No macro, syntax, notation, axiom, sorry.
-/
import Derived.Test.YtmahamlfdegkkabChecked
import GoSem.Claim
import GoSem.ClaimJoined
import GoSem.ClaimMapViews
import Derived.JoinedTies
import Derived.KernelRfl
namespace Go.Proofs.Ytmahamlfdegkkab
/- THE CELL 'sum', in the pinned program and in every row, IS THE sha256 OF THE DUMP (.gsa) THAT YtmahamlfdegkkabProg.lean LOADS. Nothing in Lean hashes anything: it is a label: what it is worth is what the hold of that sum in a sandbox is worth. -/
noncomputable def Try.pinned : Pinned := { name := "ytmahamlfdegkkab", sum := "dba6c03956161fe8ea6b2f62d3ea7449cb16114691d46695b1c02f77de450eb7", checked := Try.checked }
namespace Rows
def none {H : Type} : Left H := { results := [], args := [] }

/-- 'laws.FnExactNodesOf': WHATEVER THE INPUT: true; the input reads as it did. -/
def fnExactNodesOfSpec : ChangeSpec := { name := "fnExactNodesOf", fn := fun _ => fun
  | [d] => { results := [.lit (.bool true)], args := [d] }
  | _ => none }
def fnExactNodesOfRow : OpenClaim := { program := "ytmahamlfdegkkab", sum := "dba6c03956161fe8ea6b2f62d3ea7449cb16114691d46695b1c02f77de450eb7", func := "loop.example/refcountml/laws.FnExactNodesOf", spec := "fnExactNodesOf", recurses := true, loops := true, apart := false }
def FnExactNodesOfSaid : Prop := fnExactNodesOfRow.holds Try.pinned (OpenSpec.ofChange fnExactNodesOfSpec)

/-- ITS FALSE NEIGHBOUR: 'it returns false'. Refute it at one input. -/
def fnExactNodesOfWrong : ChangeSpec := { name := "fnExactNodesOf", fn := fun _ => fun
  | [d] => { results := [.lit (.bool false)], args := [d] }
  | _ => none }
def FnExactNodesOfWrongFalsely : Prop := fnExactNodesOfRow.holds Try.pinned (OpenSpec.ofChange fnExactNodesOfWrong)

/-- 'laws.FnExactMentionsOf': WHATEVER THE INPUT: true; the input reads as it did. -/
def fnExactMentionsOfSpec : ChangeSpec := { name := "fnExactMentionsOf", fn := fun _ => fun
  | [d1, d2] => { results := [.lit (.bool true)], args := [d1, d2] }
  | _ => none }
def fnExactMentionsOfRow : OpenClaim := { program := "ytmahamlfdegkkab", sum := "dba6c03956161fe8ea6b2f62d3ea7449cb16114691d46695b1c02f77de450eb7", func := "loop.example/refcountml/laws.FnExactMentionsOf", spec := "fnExactMentionsOf", recurses := true, loops := true, apart := false }
def FnExactMentionsOfSaid : Prop := fnExactMentionsOfRow.holds Try.pinned (OpenSpec.ofChange fnExactMentionsOfSpec)

/-- ITS FALSE NEIGHBOUR: 'it returns false'. Refute it at one input. -/
def fnExactMentionsOfWrong : ChangeSpec := { name := "fnExactMentionsOf", fn := fun _ => fun
  | [d1, d2] => { results := [.lit (.bool false)], args := [d1, d2] }
  | _ => none }
def FnExactMentionsOfWrongFalsely : Prop := fnExactMentionsOfRow.holds Try.pinned (OpenSpec.ofChange fnExactMentionsOfWrong)

/-- 'laws.FnExactFreeOf': WHATEVER THE INPUT: true; the input reads as it did. -/
def fnExactFreeOfSpec : ChangeSpec := { name := "fnExactFreeOf", fn := fun _ => fun
  | [d1, d2] => { results := [.lit (.bool true)], args := [d1, d2] }
  | _ => none }
def fnExactFreeOfRow : OpenClaim := { program := "ytmahamlfdegkkab", sum := "dba6c03956161fe8ea6b2f62d3ea7449cb16114691d46695b1c02f77de450eb7", func := "loop.example/refcountml/laws.FnExactFreeOf", spec := "fnExactFreeOf", recurses := true, loops := true, apart := false }
def FnExactFreeOfSaid : Prop := fnExactFreeOfRow.holds Try.pinned (OpenSpec.ofChange fnExactFreeOfSpec)

/-- ITS FALSE NEIGHBOUR: 'it returns false'. Refute it at one input. -/
def fnExactFreeOfWrong : ChangeSpec := { name := "fnExactFreeOf", fn := fun _ => fun
  | [d1, d2] => { results := [.lit (.bool false)], args := [d1, d2] }
  | _ => none }
def FnExactFreeOfWrongFalsely : Prop := fnExactFreeOfRow.holds Try.pinned (OpenSpec.ofChange fnExactFreeOfWrong)

/-- 'laws.FnExactShift': WHATEVER THE INPUT: true; the input reads as it did. -/
def fnExactShiftSpec : ChangeSpec := { name := "fnExactShift", fn := fun _ => fun
  | [d1, d2, d3] => { results := [.lit (.bool true)], args := [d1, d2, d3] }
  | _ => none }
def fnExactShiftRow : OpenClaim := { program := "ytmahamlfdegkkab", sum := "dba6c03956161fe8ea6b2f62d3ea7449cb16114691d46695b1c02f77de450eb7", func := "loop.example/refcountml/laws.FnExactShift", spec := "fnExactShift", recurses := true, loops := true, apart := false }
def FnExactShiftSaid : Prop := fnExactShiftRow.holds Try.pinned (OpenSpec.ofChange fnExactShiftSpec)

/-- ITS FALSE NEIGHBOUR: 'it returns false'. Refute it at one input. -/
def fnExactShiftWrong : ChangeSpec := { name := "fnExactShift", fn := fun _ => fun
  | [d1, d2, d3] => { results := [.lit (.bool false)], args := [d1, d2, d3] }
  | _ => none }
def FnExactShiftWrongFalsely : Prop := fnExactShiftRow.holds Try.pinned (OpenSpec.ofChange fnExactShiftWrong)

/-- 'laws.FnExactStepsOf': WHATEVER THE INPUT: true; the input reads as it did. -/
def fnExactStepsOfSpec : ChangeSpec := { name := "fnExactStepsOf", fn := fun _ => fun
  | [d] => { results := [.lit (.bool true)], args := [d] }
  | _ => none }
def fnExactStepsOfRow : OpenClaim := { program := "ytmahamlfdegkkab", sum := "dba6c03956161fe8ea6b2f62d3ea7449cb16114691d46695b1c02f77de450eb7", func := "loop.example/refcountml/laws.FnExactStepsOf", spec := "fnExactStepsOf", recurses := true, loops := true, apart := false }
def FnExactStepsOfSaid : Prop := fnExactStepsOfRow.holds Try.pinned (OpenSpec.ofChange fnExactStepsOfSpec)

/-- ITS FALSE NEIGHBOUR: 'it returns false'. Refute it at one input. -/
def fnExactStepsOfWrong : ChangeSpec := { name := "fnExactStepsOf", fn := fun _ => fun
  | [d] => { results := [.lit (.bool false)], args := [d] }
  | _ => none }
def FnExactStepsOfWrongFalsely : Prop := fnExactStepsOfRow.holds Try.pinned (OpenSpec.ofChange fnExactStepsOfWrong)

/-- 'laws.FnExactUsesOf': WHATEVER THE INPUT: true; the input reads as it did. -/
def fnExactUsesOfSpec : ChangeSpec := { name := "fnExactUsesOf", fn := fun _ => fun
  | [d1, d2] => { results := [.lit (.bool true)], args := [d1, d2] }
  | _ => none }
def fnExactUsesOfRow : OpenClaim := { program := "ytmahamlfdegkkab", sum := "dba6c03956161fe8ea6b2f62d3ea7449cb16114691d46695b1c02f77de450eb7", func := "loop.example/refcountml/laws.FnExactUsesOf", spec := "fnExactUsesOf", recurses := true, loops := true, apart := false }
def FnExactUsesOfSaid : Prop := fnExactUsesOfRow.holds Try.pinned (OpenSpec.ofChange fnExactUsesOfSpec)

/-- ITS FALSE NEIGHBOUR: 'it returns false'. Refute it at one input. -/
def fnExactUsesOfWrong : ChangeSpec := { name := "fnExactUsesOf", fn := fun _ => fun
  | [d1, d2] => { results := [.lit (.bool false)], args := [d1, d2] }
  | _ => none }
def FnExactUsesOfWrongFalsely : Prop := fnExactUsesOfRow.holds Try.pinned (OpenSpec.ofChange fnExactUsesOfWrong)

/-- 'laws.FnExactLastUse': WHATEVER THE INPUT: true; the input reads as it did. -/
def fnExactLastUseSpec : ChangeSpec := { name := "fnExactLastUse", fn := fun _ => fun
  | [d1, d2] => { results := [.lit (.bool true)], args := [d1, d2] }
  | _ => none }
def fnExactLastUseRow : OpenClaim := { program := "ytmahamlfdegkkab", sum := "dba6c03956161fe8ea6b2f62d3ea7449cb16114691d46695b1c02f77de450eb7", func := "loop.example/refcountml/laws.FnExactLastUse", spec := "fnExactLastUse", recurses := true, loops := true, apart := false }
def FnExactLastUseSaid : Prop := fnExactLastUseRow.holds Try.pinned (OpenSpec.ofChange fnExactLastUseSpec)

/-- ITS FALSE NEIGHBOUR: 'it returns false'. Refute it at one input. -/
def fnExactLastUseWrong : ChangeSpec := { name := "fnExactLastUse", fn := fun _ => fun
  | [d1, d2] => { results := [.lit (.bool false)], args := [d1, d2] }
  | _ => none }
def FnExactLastUseWrongFalsely : Prop := fnExactLastUseRow.holds Try.pinned (OpenSpec.ofChange fnExactLastUseWrong)

/- THE SECOND FORM. 'bulk': how many values and letters a reading holds, each counted each time it is reached (what is shared counts as often as it is met; a slice's spare places count too). A statement '..UptoSaid' is the law's where the arguments, and the package variables that the reading takes, are together of bulk at most 1048576: NARROWER than '..Said'. Prove '..Said' where nothing that the law and all that it calls make is longer than what came in: it says more and counts as full. Else prove '..UptoSaid'. A law counts once. -/
mutual
def uptoBulk {H : Type} : DataW H → Nat
  | .lit (.string bytes) => bytes.length + 1
  | .lit _ => 1
  | .nil => 1
  | .ptr d => uptoBulk d + 1
  | .slice elems spare => uptoBulkAll elems + uptoBulkAll spare + 1
  | .agg parts => uptoBulkAll parts + 1
  | .iface _ d => uptoBulk d + 1
  | .map entries => uptoBulkEntries entries + 1
  | .held _ => 1
def uptoBulkAll {H : Type} : List (DataW H) → Nat
  | [] => 0
  | d :: r => uptoBulk d + uptoBulkAll r
def uptoBulkEntries {H : Type} : List (Lit × DataW H) → Nat
  | [] => 0
  | x :: r => uptoBulkEntry x + uptoBulkEntries r
def uptoBulkEntry {H : Type} : Lit × DataW H → Nat
  | (.string bytes, d) => bytes.length + uptoBulk d + 1
  | (_, d) => uptoBulk d + 1
 end
def uptoSmall : (H : Type) → List (DataW H) → Bool := fun _ ds => decide (uptoBulkAll ds ≤ 1048576)
def OpenSpec.upto (s : _root_.Go.ChangeSpec) : _root_.Go.OpenSpec := { _root_.Go.OpenSpec.ofChange s with cond := some uptoSmall }

/-- 'laws.FnExactNodesOf', WHERE WHAT IT READS IS OF BULK AT MOST 1048576: true; the input reads as it did. -/
def fnExactNodesOfUptoRow : OpenClaim := { program := "ytmahamlfdegkkab", sum := "dba6c03956161fe8ea6b2f62d3ea7449cb16114691d46695b1c02f77de450eb7", func := "loop.example/refcountml/laws.FnExactNodesOf", spec := "fnExactNodesOf", recurses := true, loops := true, apart := false, narrowed := true }
def FnExactNodesOfUptoSaid : Prop := fnExactNodesOfUptoRow.holds Try.pinned (OpenSpec.upto fnExactNodesOfSpec)

/-- 'laws.FnExactMentionsOf', WHERE WHAT IT READS IS OF BULK AT MOST 1048576: true; the input reads as it did. -/
def fnExactMentionsOfUptoRow : OpenClaim := { program := "ytmahamlfdegkkab", sum := "dba6c03956161fe8ea6b2f62d3ea7449cb16114691d46695b1c02f77de450eb7", func := "loop.example/refcountml/laws.FnExactMentionsOf", spec := "fnExactMentionsOf", recurses := true, loops := true, apart := false, narrowed := true }
def FnExactMentionsOfUptoSaid : Prop := fnExactMentionsOfUptoRow.holds Try.pinned (OpenSpec.upto fnExactMentionsOfSpec)

/-- 'laws.FnExactFreeOf', WHERE WHAT IT READS IS OF BULK AT MOST 1048576: true; the input reads as it did. -/
def fnExactFreeOfUptoRow : OpenClaim := { program := "ytmahamlfdegkkab", sum := "dba6c03956161fe8ea6b2f62d3ea7449cb16114691d46695b1c02f77de450eb7", func := "loop.example/refcountml/laws.FnExactFreeOf", spec := "fnExactFreeOf", recurses := true, loops := true, apart := false, narrowed := true }
def FnExactFreeOfUptoSaid : Prop := fnExactFreeOfUptoRow.holds Try.pinned (OpenSpec.upto fnExactFreeOfSpec)

/-- 'laws.FnExactShift', WHERE WHAT IT READS IS OF BULK AT MOST 1048576: true; the input reads as it did. -/
def fnExactShiftUptoRow : OpenClaim := { program := "ytmahamlfdegkkab", sum := "dba6c03956161fe8ea6b2f62d3ea7449cb16114691d46695b1c02f77de450eb7", func := "loop.example/refcountml/laws.FnExactShift", spec := "fnExactShift", recurses := true, loops := true, apart := false, narrowed := true }
def FnExactShiftUptoSaid : Prop := fnExactShiftUptoRow.holds Try.pinned (OpenSpec.upto fnExactShiftSpec)

/-- 'laws.FnExactStepsOf', WHERE WHAT IT READS IS OF BULK AT MOST 1048576: true; the input reads as it did. -/
def fnExactStepsOfUptoRow : OpenClaim := { program := "ytmahamlfdegkkab", sum := "dba6c03956161fe8ea6b2f62d3ea7449cb16114691d46695b1c02f77de450eb7", func := "loop.example/refcountml/laws.FnExactStepsOf", spec := "fnExactStepsOf", recurses := true, loops := true, apart := false, narrowed := true }
def FnExactStepsOfUptoSaid : Prop := fnExactStepsOfUptoRow.holds Try.pinned (OpenSpec.upto fnExactStepsOfSpec)

/-- 'laws.FnExactUsesOf', WHERE WHAT IT READS IS OF BULK AT MOST 1048576: true; the input reads as it did. -/
def fnExactUsesOfUptoRow : OpenClaim := { program := "ytmahamlfdegkkab", sum := "dba6c03956161fe8ea6b2f62d3ea7449cb16114691d46695b1c02f77de450eb7", func := "loop.example/refcountml/laws.FnExactUsesOf", spec := "fnExactUsesOf", recurses := true, loops := true, apart := false, narrowed := true }
def FnExactUsesOfUptoSaid : Prop := fnExactUsesOfUptoRow.holds Try.pinned (OpenSpec.upto fnExactUsesOfSpec)

/-- 'laws.FnExactLastUse', WHERE WHAT IT READS IS OF BULK AT MOST 1048576: true; the input reads as it did. -/
def fnExactLastUseUptoRow : OpenClaim := { program := "ytmahamlfdegkkab", sum := "dba6c03956161fe8ea6b2f62d3ea7449cb16114691d46695b1c02f77de450eb7", func := "loop.example/refcountml/laws.FnExactLastUse", spec := "fnExactLastUse", recurses := true, loops := true, apart := false, narrowed := true }
def FnExactLastUseUptoSaid : Prop := fnExactLastUseUptoRow.holds Try.pinned (OpenSpec.upto fnExactLastUseSpec)

end Rows
end Go.Proofs.Ytmahamlfdegkkab

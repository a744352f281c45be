/-
  No cell of these rows narrows 'for every input' (looked for: loops, veiled, ifaces, maps, wideKeys, modest, calm, conditions, laid).
  DERIVED. THE GIVEN ROWS OF THIS SEAT. 12 by the template 'for every input the law returns true; each argument reads behind the call as it read before'; 0 by the template 'total and deterministic' (their statements: YtgbeongiejppnaaTotals.lean).
  GIVEN WITH THE SEED: the statements are not yours to turn. If you find one false, say at which input.
  Laid BY PROGRAM, IN A SANDBOX (cutbox-rows.mjs): the forced cells as the released guide's own fill.sh prints them over the translation 702d3bef5dd8dc0b… (all of the seat's roots in one cut). By AI agents, Wed Nov 11 2026. No macro, syntax, notation, axiom, sorry.
-/
import Derived.Test.YtgbeongiejppnaaChecked
import GoSem.Claim
import GoSem.ClaimJoined
import GoSem.ClaimMapViews
import Derived.JoinedTies
import Derived.KernelRfl
namespace Go.Proofs.Ytgbeongiejppnaa
/- THE CELL 'sum', in the pinned program and in every row, IS THE sha256 OF THE DUMP (.gsa) THAT YtgbeongiejppnaaProg.lean LOADS. Nothing in Lean hashes anything: it is a label: what it is worth is what the hold of that sum in a sandbox is worth. -/
noncomputable def Try.pinned : Pinned := { name := "ytgbeongiejppnaa", sum := "702d3bef5dd8dc0bdc3de640dd9faaf9e2f91c5ca498a75a105734726cc043df", checked := Try.checked }
namespace Rows
def none {H : Type} : Left H := { results := [], args := [] }

/-- 'laws.FnInhabited': WHATEVER THE INPUT: true; the input reads as it did. -/
def fnInhabitedSpec : ChangeSpec := { name := "fnInhabited", fn := fun _ => fun
  | [d] => { results := [.lit (.bool true)], args := [d] }
  | _ => none }
def fnInhabitedRow : OpenClaim := { program := "ytgbeongiejppnaa", sum := "702d3bef5dd8dc0bdc3de640dd9faaf9e2f91c5ca498a75a105734726cc043df", func := "loop.example/refcountml/laws.FnInhabited", spec := "fnInhabited", apart := false }
def FnInhabitedSaid : Prop := fnInhabitedRow.holds Try.pinned (OpenSpec.ofChange fnInhabitedSpec)

/-- ITS FALSE NEIGHBOUR: 'it returns false'. Refute it at one input. -/
def fnInhabitedWrong : ChangeSpec := { name := "fnInhabited", fn := fun _ => fun
  | [d] => { results := [.lit (.bool false)], args := [d] }
  | _ => none }
def FnInhabitedWrongFalsely : Prop := fnInhabitedRow.holds Try.pinned (OpenSpec.ofChange fnInhabitedWrong)

/-- 'laws.FnInhabitedMore': WHATEVER THE INPUT: true; the input reads as it did. -/
def fnInhabitedMoreSpec : ChangeSpec := { name := "fnInhabitedMore", fn := fun _ => fun
  | [d] => { results := [.lit (.bool true)], args := [d] }
  | _ => none }
def fnInhabitedMoreRow : OpenClaim := { program := "ytgbeongiejppnaa", sum := "702d3bef5dd8dc0bdc3de640dd9faaf9e2f91c5ca498a75a105734726cc043df", func := "loop.example/refcountml/laws.FnInhabitedMore", spec := "fnInhabitedMore", apart := false }
def FnInhabitedMoreSaid : Prop := fnInhabitedMoreRow.holds Try.pinned (OpenSpec.ofChange fnInhabitedMoreSpec)

/-- ITS FALSE NEIGHBOUR: 'it returns false'. Refute it at one input. -/
def fnInhabitedMoreWrong : ChangeSpec := { name := "fnInhabitedMore", fn := fun _ => fun
  | [d] => { results := [.lit (.bool false)], args := [d] }
  | _ => none }
def FnInhabitedMoreWrongFalsely : Prop := fnInhabitedMoreRow.holds Try.pinned (OpenSpec.ofChange fnInhabitedMoreWrong)

/-- 'laws.FnNodesOf': WHATEVER THE INPUT: true; the input reads as it did. -/
def fnNodesOfSpec : ChangeSpec := { name := "fnNodesOf", fn := fun _ => fun
  | [d] => { results := [.lit (.bool true)], args := [d] }
  | _ => none }
def fnNodesOfRow : OpenClaim := { program := "ytgbeongiejppnaa", sum := "702d3bef5dd8dc0bdc3de640dd9faaf9e2f91c5ca498a75a105734726cc043df", func := "loop.example/refcountml/laws.FnNodesOf", spec := "fnNodesOf", recurses := true, apart := false }
def FnNodesOfSaid : Prop := fnNodesOfRow.holds Try.pinned (OpenSpec.ofChange fnNodesOfSpec)

/-- ITS FALSE NEIGHBOUR: 'it returns false'. Refute it at one input. -/
def fnNodesOfWrong : ChangeSpec := { name := "fnNodesOf", fn := fun _ => fun
  | [d] => { results := [.lit (.bool false)], args := [d] }
  | _ => none }
def FnNodesOfWrongFalsely : Prop := fnNodesOfRow.holds Try.pinned (OpenSpec.ofChange fnNodesOfWrong)

/-- 'laws.FnNodesOfTwo': WHATEVER THE INPUT: true; the input reads as it did. -/
def fnNodesOfTwoSpec : ChangeSpec := { name := "fnNodesOfTwo", fn := fun _ => fun
  | [d] => { results := [.lit (.bool true)], args := [d] }
  | _ => none }
def fnNodesOfTwoRow : OpenClaim := { program := "ytgbeongiejppnaa", sum := "702d3bef5dd8dc0bdc3de640dd9faaf9e2f91c5ca498a75a105734726cc043df", func := "loop.example/refcountml/laws.FnNodesOfTwo", spec := "fnNodesOfTwo", recurses := true, apart := false }
def FnNodesOfTwoSaid : Prop := fnNodesOfTwoRow.holds Try.pinned (OpenSpec.ofChange fnNodesOfTwoSpec)

/-- ITS FALSE NEIGHBOUR: 'it returns false'. Refute it at one input. -/
def fnNodesOfTwoWrong : ChangeSpec := { name := "fnNodesOfTwo", fn := fun _ => fun
  | [d] => { results := [.lit (.bool false)], args := [d] }
  | _ => none }
def FnNodesOfTwoWrongFalsely : Prop := fnNodesOfTwoRow.holds Try.pinned (OpenSpec.ofChange fnNodesOfTwoWrong)

/-- 'laws.FnValidSigs': WHATEVER THE INPUT: true; the input reads as it did. -/
def fnValidSigsSpec : ChangeSpec := { name := "fnValidSigs", fn := fun _ => fun
  | [d] => { results := [.lit (.bool true)], args := [d] }
  | _ => none }
def fnValidSigsRow : OpenClaim := { program := "ytgbeongiejppnaa", sum := "702d3bef5dd8dc0bdc3de640dd9faaf9e2f91c5ca498a75a105734726cc043df", func := "loop.example/refcountml/laws.FnValidSigs", spec := "fnValidSigs", recurses := true, apart := false }
def FnValidSigsSaid : Prop := fnValidSigsRow.holds Try.pinned (OpenSpec.ofChange fnValidSigsSpec)

/-- ITS FALSE NEIGHBOUR: 'it returns false'. Refute it at one input. -/
def fnValidSigsWrong : ChangeSpec := { name := "fnValidSigs", fn := fun _ => fun
  | [d] => { results := [.lit (.bool false)], args := [d] }
  | _ => none }
def FnValidSigsWrongFalsely : Prop := fnValidSigsRow.holds Try.pinned (OpenSpec.ofChange fnValidSigsWrong)

/-- 'laws.FnTypeOf': WHATEVER THE INPUT: true; the input reads as it did. -/
def fnTypeOfSpec : ChangeSpec := { name := "fnTypeOf", fn := fun _ => fun
  | [d] => { results := [.lit (.bool true)], args := [d] }
  | _ => none }
def fnTypeOfRow : OpenClaim := { program := "ytgbeongiejppnaa", sum := "702d3bef5dd8dc0bdc3de640dd9faaf9e2f91c5ca498a75a105734726cc043df", func := "loop.example/refcountml/laws.FnTypeOf", spec := "fnTypeOf", recurses := true, apart := false }
def FnTypeOfSaid : Prop := fnTypeOfRow.holds Try.pinned (OpenSpec.ofChange fnTypeOfSpec)

/-- ITS FALSE NEIGHBOUR: 'it returns false'. Refute it at one input. -/
def fnTypeOfWrong : ChangeSpec := { name := "fnTypeOf", fn := fun _ => fun
  | [d] => { results := [.lit (.bool false)], args := [d] }
  | _ => none }
def FnTypeOfWrongFalsely : Prop := fnTypeOfRow.holds Try.pinned (OpenSpec.ofChange fnTypeOfWrong)

/-- 'laws.FnTypeOfFront': WHATEVER THE INPUT: true; the input reads as it did. -/
def fnTypeOfFrontSpec : ChangeSpec := { name := "fnTypeOfFront", fn := fun _ => fun
  | [d] => { results := [.lit (.bool true)], args := [d] }
  | _ => none }
def fnTypeOfFrontRow : OpenClaim := { program := "ytgbeongiejppnaa", sum := "702d3bef5dd8dc0bdc3de640dd9faaf9e2f91c5ca498a75a105734726cc043df", func := "loop.example/refcountml/laws.FnTypeOfFront", spec := "fnTypeOfFront", recurses := true, apart := false }
def FnTypeOfFrontSaid : Prop := fnTypeOfFrontRow.holds Try.pinned (OpenSpec.ofChange fnTypeOfFrontSpec)

/-- ITS FALSE NEIGHBOUR: 'it returns false'. Refute it at one input. -/
def fnTypeOfFrontWrong : ChangeSpec := { name := "fnTypeOfFront", fn := fun _ => fun
  | [d] => { results := [.lit (.bool false)], args := [d] }
  | _ => none }
def FnTypeOfFrontWrongFalsely : Prop := fnTypeOfFrontRow.holds Try.pinned (OpenSpec.ofChange fnTypeOfFrontWrong)

/-- 'laws.FnTypeOfLet': WHATEVER THE INPUT: true; the input reads as it did. -/
def fnTypeOfLetSpec : ChangeSpec := { name := "fnTypeOfLet", fn := fun _ => fun
  | [d] => { results := [.lit (.bool true)], args := [d] }
  | _ => none }
def fnTypeOfLetRow : OpenClaim := { program := "ytgbeongiejppnaa", sum := "702d3bef5dd8dc0bdc3de640dd9faaf9e2f91c5ca498a75a105734726cc043df", func := "loop.example/refcountml/laws.FnTypeOfLet", spec := "fnTypeOfLet", recurses := true, apart := false }
def FnTypeOfLetSaid : Prop := fnTypeOfLetRow.holds Try.pinned (OpenSpec.ofChange fnTypeOfLetSpec)

/-- ITS FALSE NEIGHBOUR: 'it returns false'. Refute it at one input. -/
def fnTypeOfLetWrong : ChangeSpec := { name := "fnTypeOfLet", fn := fun _ => fun
  | [d] => { results := [.lit (.bool false)], args := [d] }
  | _ => none }
def FnTypeOfLetWrongFalsely : Prop := fnTypeOfLetRow.holds Try.pinned (OpenSpec.ofChange fnTypeOfLetWrong)

/-- 'laws.FnTypeOfIf': WHATEVER THE INPUT: true; the input reads as it did. -/
def fnTypeOfIfSpec : ChangeSpec := { name := "fnTypeOfIf", fn := fun _ => fun
  | [d] => { results := [.lit (.bool true)], args := [d] }
  | _ => none }
def fnTypeOfIfRow : OpenClaim := { program := "ytgbeongiejppnaa", sum := "702d3bef5dd8dc0bdc3de640dd9faaf9e2f91c5ca498a75a105734726cc043df", func := "loop.example/refcountml/laws.FnTypeOfIf", spec := "fnTypeOfIf", recurses := true, apart := false }
def FnTypeOfIfSaid : Prop := fnTypeOfIfRow.holds Try.pinned (OpenSpec.ofChange fnTypeOfIfSpec)

/-- ITS FALSE NEIGHBOUR: 'it returns false'. Refute it at one input. -/
def fnTypeOfIfWrong : ChangeSpec := { name := "fnTypeOfIf", fn := fun _ => fun
  | [d] => { results := [.lit (.bool false)], args := [d] }
  | _ => none }
def FnTypeOfIfWrongFalsely : Prop := fnTypeOfIfRow.holds Try.pinned (OpenSpec.ofChange fnTypeOfIfWrong)

/-- 'laws.FnFreeOf': WHATEVER THE INPUT: true; the input reads as it did. -/
def fnFreeOfSpec : ChangeSpec := { name := "fnFreeOf", fn := fun _ => fun
  | [d] => { results := [.lit (.bool true)], args := [d] }
  | _ => none }
def fnFreeOfRow : OpenClaim := { program := "ytgbeongiejppnaa", sum := "702d3bef5dd8dc0bdc3de640dd9faaf9e2f91c5ca498a75a105734726cc043df", func := "loop.example/refcountml/laws.FnFreeOf", spec := "fnFreeOf", recurses := true, apart := false }
def FnFreeOfSaid : Prop := fnFreeOfRow.holds Try.pinned (OpenSpec.ofChange fnFreeOfSpec)

/-- ITS FALSE NEIGHBOUR: 'it returns false'. Refute it at one input. -/
def fnFreeOfWrong : ChangeSpec := { name := "fnFreeOf", fn := fun _ => fun
  | [d] => { results := [.lit (.bool false)], args := [d] }
  | _ => none }
def FnFreeOfWrongFalsely : Prop := fnFreeOfRow.holds Try.pinned (OpenSpec.ofChange fnFreeOfWrong)

/-- 'laws.FnFreeOfLess': WHATEVER THE INPUT: true; the input reads as it did. -/
def fnFreeOfLessSpec : ChangeSpec := { name := "fnFreeOfLess", fn := fun _ => fun
  | [d] => { results := [.lit (.bool true)], args := [d] }
  | _ => none }
def fnFreeOfLessRow : OpenClaim := { program := "ytgbeongiejppnaa", sum := "702d3bef5dd8dc0bdc3de640dd9faaf9e2f91c5ca498a75a105734726cc043df", func := "loop.example/refcountml/laws.FnFreeOfLess", spec := "fnFreeOfLess", recurses := true, apart := false }
def FnFreeOfLessSaid : Prop := fnFreeOfLessRow.holds Try.pinned (OpenSpec.ofChange fnFreeOfLessSpec)

/-- ITS FALSE NEIGHBOUR: 'it returns false'. Refute it at one input. -/
def fnFreeOfLessWrong : ChangeSpec := { name := "fnFreeOfLess", fn := fun _ => fun
  | [d] => { results := [.lit (.bool false)], args := [d] }
  | _ => none }
def FnFreeOfLessWrongFalsely : Prop := fnFreeOfLessRow.holds Try.pinned (OpenSpec.ofChange fnFreeOfLessWrong)

/-- 'laws.FnMentionsOf': WHATEVER THE INPUT: true; the input reads as it did. -/
def fnMentionsOfSpec : ChangeSpec := { name := "fnMentionsOf", fn := fun _ => fun
  | [d] => { results := [.lit (.bool true)], args := [d] }
  | _ => none }
def fnMentionsOfRow : OpenClaim := { program := "ytgbeongiejppnaa", sum := "702d3bef5dd8dc0bdc3de640dd9faaf9e2f91c5ca498a75a105734726cc043df", func := "loop.example/refcountml/laws.FnMentionsOf", spec := "fnMentionsOf", recurses := true, apart := false }
def FnMentionsOfSaid : Prop := fnMentionsOfRow.holds Try.pinned (OpenSpec.ofChange fnMentionsOfSpec)

/-- ITS FALSE NEIGHBOUR: 'it returns false'. Refute it at one input. -/
def fnMentionsOfWrong : ChangeSpec := { name := "fnMentionsOf", fn := fun _ => fun
  | [d] => { results := [.lit (.bool false)], args := [d] }
  | _ => none }
def FnMentionsOfWrongFalsely : Prop := fnMentionsOfRow.holds Try.pinned (OpenSpec.ofChange fnMentionsOfWrong)

/- THE SECOND FORM. 'bulk': how many values and letters a reading holds, each counted each time it is reached (what is shared counts as often as it is met; a slice's spare places count too). A statement '..UptoSaid' is the law's where the arguments, and the package variables that the reading takes, are together of bulk at most 1048576: NARROWER than '..Said'. Prove '..Said' where nothing that the law and all that it calls make is longer than what came in: it says more and counts as full. Else prove '..UptoSaid'. A law counts once. -/
mutual
def uptoBulk {H : Type} : DataW H → Nat
  | .lit (.string bytes) => bytes.length + 1
  | .lit _ => 1
  | .nil => 1
  | .ptr d => uptoBulk d + 1
  | .slice elems spare => uptoBulkAll elems + uptoBulkAll spare + 1
  | .agg parts => uptoBulkAll parts + 1
  | .iface _ d => uptoBulk d + 1
  | .map entries => uptoBulkEntries entries + 1
  | .held _ => 1
def uptoBulkAll {H : Type} : List (DataW H) → Nat
  | [] => 0
  | d :: r => uptoBulk d + uptoBulkAll r
def uptoBulkEntries {H : Type} : List (Lit × DataW H) → Nat
  | [] => 0
  | x :: r => uptoBulkEntry x + uptoBulkEntries r
def uptoBulkEntry {H : Type} : Lit × DataW H → Nat
  | (.string bytes, d) => bytes.length + uptoBulk d + 1
  | (_, d) => uptoBulk d + 1
 end
def uptoSmall : (H : Type) → List (DataW H) → Bool := fun _ ds => decide (uptoBulkAll ds ≤ 1048576)
def OpenSpec.upto (s : _root_.Go.ChangeSpec) : _root_.Go.OpenSpec := { _root_.Go.OpenSpec.ofChange s with cond := some uptoSmall }

/-- 'laws.FnInhabited', WHERE WHAT IT READS IS OF BULK AT MOST 1048576: true; the input reads as it did. -/
def fnInhabitedUptoRow : OpenClaim := { program := "ytgbeongiejppnaa", sum := "702d3bef5dd8dc0bdc3de640dd9faaf9e2f91c5ca498a75a105734726cc043df", func := "loop.example/refcountml/laws.FnInhabited", spec := "fnInhabited", apart := false, narrowed := true }
def FnInhabitedUptoSaid : Prop := fnInhabitedUptoRow.holds Try.pinned (OpenSpec.upto fnInhabitedSpec)

/-- 'laws.FnInhabitedMore', WHERE WHAT IT READS IS OF BULK AT MOST 1048576: true; the input reads as it did. -/
def fnInhabitedMoreUptoRow : OpenClaim := { program := "ytgbeongiejppnaa", sum := "702d3bef5dd8dc0bdc3de640dd9faaf9e2f91c5ca498a75a105734726cc043df", func := "loop.example/refcountml/laws.FnInhabitedMore", spec := "fnInhabitedMore", apart := false, narrowed := true }
def FnInhabitedMoreUptoSaid : Prop := fnInhabitedMoreUptoRow.holds Try.pinned (OpenSpec.upto fnInhabitedMoreSpec)

/-- 'laws.FnNodesOf', WHERE WHAT IT READS IS OF BULK AT MOST 1048576: true; the input reads as it did. -/
def fnNodesOfUptoRow : OpenClaim := { program := "ytgbeongiejppnaa", sum := "702d3bef5dd8dc0bdc3de640dd9faaf9e2f91c5ca498a75a105734726cc043df", func := "loop.example/refcountml/laws.FnNodesOf", spec := "fnNodesOf", recurses := true, apart := false, narrowed := true }
def FnNodesOfUptoSaid : Prop := fnNodesOfUptoRow.holds Try.pinned (OpenSpec.upto fnNodesOfSpec)

/-- 'laws.FnNodesOfTwo', WHERE WHAT IT READS IS OF BULK AT MOST 1048576: true; the input reads as it did. -/
def fnNodesOfTwoUptoRow : OpenClaim := { program := "ytgbeongiejppnaa", sum := "702d3bef5dd8dc0bdc3de640dd9faaf9e2f91c5ca498a75a105734726cc043df", func := "loop.example/refcountml/laws.FnNodesOfTwo", spec := "fnNodesOfTwo", recurses := true, apart := false, narrowed := true }
def FnNodesOfTwoUptoSaid : Prop := fnNodesOfTwoUptoRow.holds Try.pinned (OpenSpec.upto fnNodesOfTwoSpec)

/-- 'laws.FnValidSigs', WHERE WHAT IT READS IS OF BULK AT MOST 1048576: true; the input reads as it did. -/
def fnValidSigsUptoRow : OpenClaim := { program := "ytgbeongiejppnaa", sum := "702d3bef5dd8dc0bdc3de640dd9faaf9e2f91c5ca498a75a105734726cc043df", func := "loop.example/refcountml/laws.FnValidSigs", spec := "fnValidSigs", recurses := true, apart := false, narrowed := true }
def FnValidSigsUptoSaid : Prop := fnValidSigsUptoRow.holds Try.pinned (OpenSpec.upto fnValidSigsSpec)

/-- 'laws.FnTypeOf', WHERE WHAT IT READS IS OF BULK AT MOST 1048576: true; the input reads as it did. -/
def fnTypeOfUptoRow : OpenClaim := { program := "ytgbeongiejppnaa", sum := "702d3bef5dd8dc0bdc3de640dd9faaf9e2f91c5ca498a75a105734726cc043df", func := "loop.example/refcountml/laws.FnTypeOf", spec := "fnTypeOf", recurses := true, apart := false, narrowed := true }
def FnTypeOfUptoSaid : Prop := fnTypeOfUptoRow.holds Try.pinned (OpenSpec.upto fnTypeOfSpec)

/-- 'laws.FnTypeOfFront', WHERE WHAT IT READS IS OF BULK AT MOST 1048576: true; the input reads as it did. -/
def fnTypeOfFrontUptoRow : OpenClaim := { program := "ytgbeongiejppnaa", sum := "702d3bef5dd8dc0bdc3de640dd9faaf9e2f91c5ca498a75a105734726cc043df", func := "loop.example/refcountml/laws.FnTypeOfFront", spec := "fnTypeOfFront", recurses := true, apart := false, narrowed := true }
def FnTypeOfFrontUptoSaid : Prop := fnTypeOfFrontUptoRow.holds Try.pinned (OpenSpec.upto fnTypeOfFrontSpec)

/-- 'laws.FnTypeOfLet', WHERE WHAT IT READS IS OF BULK AT MOST 1048576: true; the input reads as it did. -/
def fnTypeOfLetUptoRow : OpenClaim := { program := "ytgbeongiejppnaa", sum := "702d3bef5dd8dc0bdc3de640dd9faaf9e2f91c5ca498a75a105734726cc043df", func := "loop.example/refcountml/laws.FnTypeOfLet", spec := "fnTypeOfLet", recurses := true, apart := false, narrowed := true }
def FnTypeOfLetUptoSaid : Prop := fnTypeOfLetUptoRow.holds Try.pinned (OpenSpec.upto fnTypeOfLetSpec)

/-- 'laws.FnTypeOfIf', WHERE WHAT IT READS IS OF BULK AT MOST 1048576: true; the input reads as it did. -/
def fnTypeOfIfUptoRow : OpenClaim := { program := "ytgbeongiejppnaa", sum := "702d3bef5dd8dc0bdc3de640dd9faaf9e2f91c5ca498a75a105734726cc043df", func := "loop.example/refcountml/laws.FnTypeOfIf", spec := "fnTypeOfIf", recurses := true, apart := false, narrowed := true }
def FnTypeOfIfUptoSaid : Prop := fnTypeOfIfUptoRow.holds Try.pinned (OpenSpec.upto fnTypeOfIfSpec)

/-- 'laws.FnFreeOf', WHERE WHAT IT READS IS OF BULK AT MOST 1048576: true; the input reads as it did. -/
def fnFreeOfUptoRow : OpenClaim := { program := "ytgbeongiejppnaa", sum := "702d3bef5dd8dc0bdc3de640dd9faaf9e2f91c5ca498a75a105734726cc043df", func := "loop.example/refcountml/laws.FnFreeOf", spec := "fnFreeOf", recurses := true, apart := false, narrowed := true }
def FnFreeOfUptoSaid : Prop := fnFreeOfUptoRow.holds Try.pinned (OpenSpec.upto fnFreeOfSpec)

/-- 'laws.FnFreeOfLess', WHERE WHAT IT READS IS OF BULK AT MOST 1048576: true; the input reads as it did. -/
def fnFreeOfLessUptoRow : OpenClaim := { program := "ytgbeongiejppnaa", sum := "702d3bef5dd8dc0bdc3de640dd9faaf9e2f91c5ca498a75a105734726cc043df", func := "loop.example/refcountml/laws.FnFreeOfLess", spec := "fnFreeOfLess", recurses := true, apart := false, narrowed := true }
def FnFreeOfLessUptoSaid : Prop := fnFreeOfLessUptoRow.holds Try.pinned (OpenSpec.upto fnFreeOfLessSpec)

/-- 'laws.FnMentionsOf', WHERE WHAT IT READS IS OF BULK AT MOST 1048576: true; the input reads as it did. -/
def fnMentionsOfUptoRow : OpenClaim := { program := "ytgbeongiejppnaa", sum := "702d3bef5dd8dc0bdc3de640dd9faaf9e2f91c5ca498a75a105734726cc043df", func := "loop.example/refcountml/laws.FnMentionsOf", spec := "fnMentionsOf", recurses := true, apart := false, narrowed := true }
def FnMentionsOfUptoSaid : Prop := fnMentionsOfUptoRow.holds Try.pinned (OpenSpec.upto fnMentionsOfSpec)

end Rows
end Go.Proofs.Ytgbeongiejppnaa

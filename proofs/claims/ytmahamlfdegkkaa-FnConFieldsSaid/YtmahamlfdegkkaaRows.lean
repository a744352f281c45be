/-
  No cell of these rows narrows 'for every input' (looked for: loops, veiled, ifaces, maps, wideKeys, modest, calm, conditions, laid).
  DERIVED. THE GIVEN ROWS OF THIS SEAT. 12 by the template 'for every input the law returns true; each argument reads behind the call as it read before'; 0 by the template 'total and deterministic' (their statements: YtmahamlfdegkkaaTotals.lean).
  GIVEN WITH THE SEED: the statements are not yours to turn. If you find one false, say at which input.
  Laid BY PROGRAM, IN A SANDBOX (cutbox-rows.mjs): the forced cells as the released guide's own fill.sh prints them over the translation 0491732122b98b47… (all of the seat's roots in one cut). By AI agents, Wed Nov 11 2026. No macro, syntax, notation, axiom, sorry.
-/
import Derived.Test.YtmahamlfdegkkaaChecked
import GoSem.Claim
import GoSem.ClaimJoined
import GoSem.ClaimMapViews
import Derived.JoinedTies
import Derived.KernelRfl
namespace Go.Proofs.Ytmahamlfdegkkaa
/- THE CELL 'sum', in the pinned program and in every row, IS THE sha256 OF THE DUMP (.gsa) THAT YtmahamlfdegkkaaProg.lean LOADS. Nothing in Lean hashes anything: it is a label: what it is worth is what the hold of that sum in a sandbox is worth. -/
noncomputable def Try.pinned : Pinned := { name := "ytmahamlfdegkkaa", sum := "0491732122b98b4714f6a2727496a465e8989ab8164b0920a9aea00aaad4cf8b", checked := Try.checked }
namespace Rows
def none {H : Type} : Left H := { results := [], args := [] }

/-- 'laws.FnValidTypes': WHATEVER THE INPUT: true; the input reads as it did. -/
def fnValidTypesSpec : ChangeSpec := { name := "fnValidTypes", fn := fun _ => fun
  | [d] => { results := [.lit (.bool true)], args := [d] }
  | _ => none }
def fnValidTypesRow : OpenClaim := { program := "ytmahamlfdegkkaa", sum := "0491732122b98b4714f6a2727496a465e8989ab8164b0920a9aea00aaad4cf8b", func := "loop.example/refcountml/laws.FnValidTypes", spec := "fnValidTypes", apart := false }
def FnValidTypesSaid : Prop := fnValidTypesRow.holds Try.pinned (OpenSpec.ofChange fnValidTypesSpec)

/-- ITS FALSE NEIGHBOUR: 'it returns false'. Refute it at one input. -/
def fnValidTypesWrong : ChangeSpec := { name := "fnValidTypes", fn := fun _ => fun
  | [d] => { results := [.lit (.bool false)], args := [d] }
  | _ => none }
def FnValidTypesWrongFalsely : Prop := fnValidTypesRow.holds Try.pinned (OpenSpec.ofChange fnValidTypesWrong)

/-- 'laws.FnValidTypesTwice': WHATEVER THE INPUT: true; the input reads as it did. -/
def fnValidTypesTwiceSpec : ChangeSpec := { name := "fnValidTypesTwice", fn := fun _ => fun
  | [d] => { results := [.lit (.bool true)], args := [d] }
  | _ => none }
def fnValidTypesTwiceRow : OpenClaim := { program := "ytmahamlfdegkkaa", sum := "0491732122b98b4714f6a2727496a465e8989ab8164b0920a9aea00aaad4cf8b", func := "loop.example/refcountml/laws.FnValidTypesTwice", spec := "fnValidTypesTwice", apart := false }
def FnValidTypesTwiceSaid : Prop := fnValidTypesTwiceRow.holds Try.pinned (OpenSpec.ofChange fnValidTypesTwiceSpec)

/-- ITS FALSE NEIGHBOUR: 'it returns false'. Refute it at one input. -/
def fnValidTypesTwiceWrong : ChangeSpec := { name := "fnValidTypesTwice", fn := fun _ => fun
  | [d] => { results := [.lit (.bool false)], args := [d] }
  | _ => none }
def FnValidTypesTwiceWrongFalsely : Prop := fnValidTypesTwiceRow.holds Try.pinned (OpenSpec.ofChange fnValidTypesTwiceWrong)

/-- 'laws.FnConFields': WHATEVER THE INPUT: true; the input reads as it did. -/
def fnConFieldsSpec : ChangeSpec := { name := "fnConFields", fn := fun _ => fun
  | [d] => { results := [.lit (.bool true)], args := [d] }
  | _ => none }
def fnConFieldsRow : OpenClaim := { program := "ytmahamlfdegkkaa", sum := "0491732122b98b4714f6a2727496a465e8989ab8164b0920a9aea00aaad4cf8b", func := "loop.example/refcountml/laws.FnConFields", spec := "fnConFields", apart := false }
def FnConFieldsSaid : Prop := fnConFieldsRow.holds Try.pinned (OpenSpec.ofChange fnConFieldsSpec)

/-- ITS FALSE NEIGHBOUR: 'it returns false'. Refute it at one input. -/
def fnConFieldsWrong : ChangeSpec := { name := "fnConFields", fn := fun _ => fun
  | [d] => { results := [.lit (.bool false)], args := [d] }
  | _ => none }
def FnConFieldsWrongFalsely : Prop := fnConFieldsRow.holds Try.pinned (OpenSpec.ofChange fnConFieldsWrong)

/-- 'laws.FnInhabited': WHATEVER THE INPUT: true; the input reads as it did. -/
def fnInhabitedSpec : ChangeSpec := { name := "fnInhabited", fn := fun _ => fun
  | [d] => { results := [.lit (.bool true)], args := [d] }
  | _ => none }
def fnInhabitedRow : OpenClaim := { program := "ytmahamlfdegkkaa", sum := "0491732122b98b4714f6a2727496a465e8989ab8164b0920a9aea00aaad4cf8b", func := "loop.example/refcountml/laws.FnInhabited", spec := "fnInhabited", apart := false }
def FnInhabitedSaid : Prop := fnInhabitedRow.holds Try.pinned (OpenSpec.ofChange fnInhabitedSpec)

/-- ITS FALSE NEIGHBOUR: 'it returns false'. Refute it at one input. -/
def fnInhabitedWrong : ChangeSpec := { name := "fnInhabited", fn := fun _ => fun
  | [d] => { results := [.lit (.bool false)], args := [d] }
  | _ => none }
def FnInhabitedWrongFalsely : Prop := fnInhabitedRow.holds Try.pinned (OpenSpec.ofChange fnInhabitedWrong)

/-- 'laws.FnInhabitedMore': WHATEVER THE INPUT: true; the input reads as it did. -/
def fnInhabitedMoreSpec : ChangeSpec := { name := "fnInhabitedMore", fn := fun _ => fun
  | [d] => { results := [.lit (.bool true)], args := [d] }
  | _ => none }
def fnInhabitedMoreRow : OpenClaim := { program := "ytmahamlfdegkkaa", sum := "0491732122b98b4714f6a2727496a465e8989ab8164b0920a9aea00aaad4cf8b", func := "loop.example/refcountml/laws.FnInhabitedMore", spec := "fnInhabitedMore", apart := false }
def FnInhabitedMoreSaid : Prop := fnInhabitedMoreRow.holds Try.pinned (OpenSpec.ofChange fnInhabitedMoreSpec)

/-- ITS FALSE NEIGHBOUR: 'it returns false'. Refute it at one input. -/
def fnInhabitedMoreWrong : ChangeSpec := { name := "fnInhabitedMore", fn := fun _ => fun
  | [d] => { results := [.lit (.bool false)], args := [d] }
  | _ => none }
def FnInhabitedMoreWrongFalsely : Prop := fnInhabitedMoreRow.holds Try.pinned (OpenSpec.ofChange fnInhabitedMoreWrong)

/-- 'laws.FnExactValidTypes': WHATEVER THE INPUT: true; the input reads as it did. -/
def fnExactValidTypesSpec : ChangeSpec := { name := "fnExactValidTypes", fn := fun _ => fun
  | [d] => { results := [.lit (.bool true)], args := [d] }
  | _ => none }
def fnExactValidTypesRow : OpenClaim := { program := "ytmahamlfdegkkaa", sum := "0491732122b98b4714f6a2727496a465e8989ab8164b0920a9aea00aaad4cf8b", func := "loop.example/refcountml/laws.FnExactValidTypes", spec := "fnExactValidTypes", apart := false }
def FnExactValidTypesSaid : Prop := fnExactValidTypesRow.holds Try.pinned (OpenSpec.ofChange fnExactValidTypesSpec)

/-- ITS FALSE NEIGHBOUR: 'it returns false'. Refute it at one input. -/
def fnExactValidTypesWrong : ChangeSpec := { name := "fnExactValidTypes", fn := fun _ => fun
  | [d] => { results := [.lit (.bool false)], args := [d] }
  | _ => none }
def FnExactValidTypesWrongFalsely : Prop := fnExactValidTypesRow.holds Try.pinned (OpenSpec.ofChange fnExactValidTypesWrong)

/-- 'laws.FnExactConCount': WHATEVER THE INPUT: true; the input reads as it did. -/
def fnExactConCountSpec : ChangeSpec := { name := "fnExactConCount", fn := fun _ => fun
  | [d] => { results := [.lit (.bool true)], args := [d] }
  | _ => none }
def fnExactConCountRow : OpenClaim := { program := "ytmahamlfdegkkaa", sum := "0491732122b98b4714f6a2727496a465e8989ab8164b0920a9aea00aaad4cf8b", func := "loop.example/refcountml/laws.FnExactConCount", spec := "fnExactConCount", apart := false }
def FnExactConCountSaid : Prop := fnExactConCountRow.holds Try.pinned (OpenSpec.ofChange fnExactConCountSpec)

/-- ITS FALSE NEIGHBOUR: 'it returns false'. Refute it at one input. -/
def fnExactConCountWrong : ChangeSpec := { name := "fnExactConCount", fn := fun _ => fun
  | [d] => { results := [.lit (.bool false)], args := [d] }
  | _ => none }
def FnExactConCountWrongFalsely : Prop := fnExactConCountRow.holds Try.pinned (OpenSpec.ofChange fnExactConCountWrong)

/-- 'laws.FnExactConType': WHATEVER THE INPUT: true; the input reads as it did. -/
def fnExactConTypeSpec : ChangeSpec := { name := "fnExactConType", fn := fun _ => fun
  | [d1, d2] => { results := [.lit (.bool true)], args := [d1, d2] }
  | _ => none }
def fnExactConTypeRow : OpenClaim := { program := "ytmahamlfdegkkaa", sum := "0491732122b98b4714f6a2727496a465e8989ab8164b0920a9aea00aaad4cf8b", func := "loop.example/refcountml/laws.FnExactConType", spec := "fnExactConType", apart := false }
def FnExactConTypeSaid : Prop := fnExactConTypeRow.holds Try.pinned (OpenSpec.ofChange fnExactConTypeSpec)

/-- ITS FALSE NEIGHBOUR: 'it returns false'. Refute it at one input. -/
def fnExactConTypeWrong : ChangeSpec := { name := "fnExactConType", fn := fun _ => fun
  | [d1, d2] => { results := [.lit (.bool false)], args := [d1, d2] }
  | _ => none }
def FnExactConTypeWrongFalsely : Prop := fnExactConTypeRow.holds Try.pinned (OpenSpec.ofChange fnExactConTypeWrong)

/-- 'laws.FnExactConFields': WHATEVER THE INPUT: true; the input reads as it did. -/
def fnExactConFieldsSpec : ChangeSpec := { name := "fnExactConFields", fn := fun _ => fun
  | [d1, d2] => { results := [.lit (.bool true)], args := [d1, d2] }
  | _ => none }
def fnExactConFieldsRow : OpenClaim := { program := "ytmahamlfdegkkaa", sum := "0491732122b98b4714f6a2727496a465e8989ab8164b0920a9aea00aaad4cf8b", func := "loop.example/refcountml/laws.FnExactConFields", spec := "fnExactConFields", apart := false }
def FnExactConFieldsSaid : Prop := fnExactConFieldsRow.holds Try.pinned (OpenSpec.ofChange fnExactConFieldsSpec)

/-- ITS FALSE NEIGHBOUR: 'it returns false'. Refute it at one input. -/
def fnExactConFieldsWrong : ChangeSpec := { name := "fnExactConFields", fn := fun _ => fun
  | [d1, d2] => { results := [.lit (.bool false)], args := [d1, d2] }
  | _ => none }
def FnExactConFieldsWrongFalsely : Prop := fnExactConFieldsRow.holds Try.pinned (OpenSpec.ofChange fnExactConFieldsWrong)

/-- 'laws.FnExactConsOf': WHATEVER THE INPUT: true; the input reads as it did. -/
def fnExactConsOfSpec : ChangeSpec := { name := "fnExactConsOf", fn := fun _ => fun
  | [d1, d2] => { results := [.lit (.bool true)], args := [d1, d2] }
  | _ => none }
def fnExactConsOfRow : OpenClaim := { program := "ytmahamlfdegkkaa", sum := "0491732122b98b4714f6a2727496a465e8989ab8164b0920a9aea00aaad4cf8b", func := "loop.example/refcountml/laws.FnExactConsOf", spec := "fnExactConsOf", apart := false }
def FnExactConsOfSaid : Prop := fnExactConsOfRow.holds Try.pinned (OpenSpec.ofChange fnExactConsOfSpec)

/-- ITS FALSE NEIGHBOUR: 'it returns false'. Refute it at one input. -/
def fnExactConsOfWrong : ChangeSpec := { name := "fnExactConsOf", fn := fun _ => fun
  | [d1, d2] => { results := [.lit (.bool false)], args := [d1, d2] }
  | _ => none }
def FnExactConsOfWrongFalsely : Prop := fnExactConsOfRow.holds Try.pinned (OpenSpec.ofChange fnExactConsOfWrong)

/-- 'laws.FnExactArrowOf': WHATEVER THE INPUT: true; the input reads as it did. -/
def fnExactArrowOfSpec : ChangeSpec := { name := "fnExactArrowOf", fn := fun _ => fun
  | [d1, d2, d3] => { results := [.lit (.bool true)], args := [d1, d2, d3] }
  | _ => none }
def fnExactArrowOfRow : OpenClaim := { program := "ytmahamlfdegkkaa", sum := "0491732122b98b4714f6a2727496a465e8989ab8164b0920a9aea00aaad4cf8b", func := "loop.example/refcountml/laws.FnExactArrowOf", spec := "fnExactArrowOf", apart := false }
def FnExactArrowOfSaid : Prop := fnExactArrowOfRow.holds Try.pinned (OpenSpec.ofChange fnExactArrowOfSpec)

/-- ITS FALSE NEIGHBOUR: 'it returns false'. Refute it at one input. -/
def fnExactArrowOfWrong : ChangeSpec := { name := "fnExactArrowOf", fn := fun _ => fun
  | [d1, d2, d3] => { results := [.lit (.bool false)], args := [d1, d2, d3] }
  | _ => none }
def FnExactArrowOfWrongFalsely : Prop := fnExactArrowOfRow.holds Try.pinned (OpenSpec.ofChange fnExactArrowOfWrong)

/-- 'laws.FnExactInhabited': WHATEVER THE INPUT: true; the input reads as it did. -/
def fnExactInhabitedSpec : ChangeSpec := { name := "fnExactInhabited", fn := fun _ => fun
  | [d] => { results := [.lit (.bool true)], args := [d] }
  | _ => none }
def fnExactInhabitedRow : OpenClaim := { program := "ytmahamlfdegkkaa", sum := "0491732122b98b4714f6a2727496a465e8989ab8164b0920a9aea00aaad4cf8b", func := "loop.example/refcountml/laws.FnExactInhabited", spec := "fnExactInhabited", apart := false }
def FnExactInhabitedSaid : Prop := fnExactInhabitedRow.holds Try.pinned (OpenSpec.ofChange fnExactInhabitedSpec)

/-- ITS FALSE NEIGHBOUR: 'it returns false'. Refute it at one input. -/
def fnExactInhabitedWrong : ChangeSpec := { name := "fnExactInhabited", fn := fun _ => fun
  | [d] => { results := [.lit (.bool false)], args := [d] }
  | _ => none }
def FnExactInhabitedWrongFalsely : Prop := fnExactInhabitedRow.holds Try.pinned (OpenSpec.ofChange fnExactInhabitedWrong)

/- THE SECOND FORM. 'bulk': how many values and letters a reading holds, each counted each time it is reached (what is shared counts as often as it is met; a slice's spare places count too). A statement '..UptoSaid' is the law's where the arguments, and the package variables that the reading takes, are together of bulk at most 1048576: NARROWER than '..Said'. Prove '..Said' where nothing that the law and all that it calls make is longer than what came in: it says more and counts as full. Else prove '..UptoSaid'. A law counts once. -/
mutual
def uptoBulk {H : Type} : DataW H → Nat
  | .lit (.string bytes) => bytes.length + 1
  | .lit _ => 1
  | .nil => 1
  | .ptr d => uptoBulk d + 1
  | .slice elems spare => uptoBulkAll elems + uptoBulkAll spare + 1
  | .agg parts => uptoBulkAll parts + 1
  | .iface _ d => uptoBulk d + 1
  | .map entries => uptoBulkEntries entries + 1
  | .held _ => 1
def uptoBulkAll {H : Type} : List (DataW H) → Nat
  | [] => 0
  | d :: r => uptoBulk d + uptoBulkAll r
def uptoBulkEntries {H : Type} : List (Lit × DataW H) → Nat
  | [] => 0
  | x :: r => uptoBulkEntry x + uptoBulkEntries r
def uptoBulkEntry {H : Type} : Lit × DataW H → Nat
  | (.string bytes, d) => bytes.length + uptoBulk d + 1
  | (_, d) => uptoBulk d + 1
 end
def uptoSmall : (H : Type) → List (DataW H) → Bool := fun _ ds => decide (uptoBulkAll ds ≤ 1048576)
def OpenSpec.upto (s : _root_.Go.ChangeSpec) : _root_.Go.OpenSpec := { _root_.Go.OpenSpec.ofChange s with cond := some uptoSmall }

/-- 'laws.FnValidTypes', WHERE WHAT IT READS IS OF BULK AT MOST 1048576: true; the input reads as it did. -/
def fnValidTypesUptoRow : OpenClaim := { program := "ytmahamlfdegkkaa", sum := "0491732122b98b4714f6a2727496a465e8989ab8164b0920a9aea00aaad4cf8b", func := "loop.example/refcountml/laws.FnValidTypes", spec := "fnValidTypes", apart := false, narrowed := true }
def FnValidTypesUptoSaid : Prop := fnValidTypesUptoRow.holds Try.pinned (OpenSpec.upto fnValidTypesSpec)

/-- 'laws.FnValidTypesTwice', WHERE WHAT IT READS IS OF BULK AT MOST 1048576: true; the input reads as it did. -/
def fnValidTypesTwiceUptoRow : OpenClaim := { program := "ytmahamlfdegkkaa", sum := "0491732122b98b4714f6a2727496a465e8989ab8164b0920a9aea00aaad4cf8b", func := "loop.example/refcountml/laws.FnValidTypesTwice", spec := "fnValidTypesTwice", apart := false, narrowed := true }
def FnValidTypesTwiceUptoSaid : Prop := fnValidTypesTwiceUptoRow.holds Try.pinned (OpenSpec.upto fnValidTypesTwiceSpec)

/-- 'laws.FnConFields', WHERE WHAT IT READS IS OF BULK AT MOST 1048576: true; the input reads as it did. -/
def fnConFieldsUptoRow : OpenClaim := { program := "ytmahamlfdegkkaa", sum := "0491732122b98b4714f6a2727496a465e8989ab8164b0920a9aea00aaad4cf8b", func := "loop.example/refcountml/laws.FnConFields", spec := "fnConFields", apart := false, narrowed := true }
def FnConFieldsUptoSaid : Prop := fnConFieldsUptoRow.holds Try.pinned (OpenSpec.upto fnConFieldsSpec)

/-- 'laws.FnInhabited', WHERE WHAT IT READS IS OF BULK AT MOST 1048576: true; the input reads as it did. -/
def fnInhabitedUptoRow : OpenClaim := { program := "ytmahamlfdegkkaa", sum := "0491732122b98b4714f6a2727496a465e8989ab8164b0920a9aea00aaad4cf8b", func := "loop.example/refcountml/laws.FnInhabited", spec := "fnInhabited", apart := false, narrowed := true }
def FnInhabitedUptoSaid : Prop := fnInhabitedUptoRow.holds Try.pinned (OpenSpec.upto fnInhabitedSpec)

/-- 'laws.FnInhabitedMore', WHERE WHAT IT READS IS OF BULK AT MOST 1048576: true; the input reads as it did. -/
def fnInhabitedMoreUptoRow : OpenClaim := { program := "ytmahamlfdegkkaa", sum := "0491732122b98b4714f6a2727496a465e8989ab8164b0920a9aea00aaad4cf8b", func := "loop.example/refcountml/laws.FnInhabitedMore", spec := "fnInhabitedMore", apart := false, narrowed := true }
def FnInhabitedMoreUptoSaid : Prop := fnInhabitedMoreUptoRow.holds Try.pinned (OpenSpec.upto fnInhabitedMoreSpec)

/-- 'laws.FnExactValidTypes', WHERE WHAT IT READS IS OF BULK AT MOST 1048576: true; the input reads as it did. -/
def fnExactValidTypesUptoRow : OpenClaim := { program := "ytmahamlfdegkkaa", sum := "0491732122b98b4714f6a2727496a465e8989ab8164b0920a9aea00aaad4cf8b", func := "loop.example/refcountml/laws.FnExactValidTypes", spec := "fnExactValidTypes", apart := false, narrowed := true }
def FnExactValidTypesUptoSaid : Prop := fnExactValidTypesUptoRow.holds Try.pinned (OpenSpec.upto fnExactValidTypesSpec)

/-- 'laws.FnExactConCount', WHERE WHAT IT READS IS OF BULK AT MOST 1048576: true; the input reads as it did. -/
def fnExactConCountUptoRow : OpenClaim := { program := "ytmahamlfdegkkaa", sum := "0491732122b98b4714f6a2727496a465e8989ab8164b0920a9aea00aaad4cf8b", func := "loop.example/refcountml/laws.FnExactConCount", spec := "fnExactConCount", apart := false, narrowed := true }
def FnExactConCountUptoSaid : Prop := fnExactConCountUptoRow.holds Try.pinned (OpenSpec.upto fnExactConCountSpec)

/-- 'laws.FnExactConType', WHERE WHAT IT READS IS OF BULK AT MOST 1048576: true; the input reads as it did. -/
def fnExactConTypeUptoRow : OpenClaim := { program := "ytmahamlfdegkkaa", sum := "0491732122b98b4714f6a2727496a465e8989ab8164b0920a9aea00aaad4cf8b", func := "loop.example/refcountml/laws.FnExactConType", spec := "fnExactConType", apart := false, narrowed := true }
def FnExactConTypeUptoSaid : Prop := fnExactConTypeUptoRow.holds Try.pinned (OpenSpec.upto fnExactConTypeSpec)

/-- 'laws.FnExactConFields', WHERE WHAT IT READS IS OF BULK AT MOST 1048576: true; the input reads as it did. -/
def fnExactConFieldsUptoRow : OpenClaim := { program := "ytmahamlfdegkkaa", sum := "0491732122b98b4714f6a2727496a465e8989ab8164b0920a9aea00aaad4cf8b", func := "loop.example/refcountml/laws.FnExactConFields", spec := "fnExactConFields", apart := false, narrowed := true }
def FnExactConFieldsUptoSaid : Prop := fnExactConFieldsUptoRow.holds Try.pinned (OpenSpec.upto fnExactConFieldsSpec)

/-- 'laws.FnExactConsOf', WHERE WHAT IT READS IS OF BULK AT MOST 1048576: true; the input reads as it did. -/
def fnExactConsOfUptoRow : OpenClaim := { program := "ytmahamlfdegkkaa", sum := "0491732122b98b4714f6a2727496a465e8989ab8164b0920a9aea00aaad4cf8b", func := "loop.example/refcountml/laws.FnExactConsOf", spec := "fnExactConsOf", apart := false, narrowed := true }
def FnExactConsOfUptoSaid : Prop := fnExactConsOfUptoRow.holds Try.pinned (OpenSpec.upto fnExactConsOfSpec)

/-- 'laws.FnExactArrowOf', WHERE WHAT IT READS IS OF BULK AT MOST 1048576: true; the input reads as it did. -/
def fnExactArrowOfUptoRow : OpenClaim := { program := "ytmahamlfdegkkaa", sum := "0491732122b98b4714f6a2727496a465e8989ab8164b0920a9aea00aaad4cf8b", func := "loop.example/refcountml/laws.FnExactArrowOf", spec := "fnExactArrowOf", apart := false, narrowed := true }
def FnExactArrowOfUptoSaid : Prop := fnExactArrowOfUptoRow.holds Try.pinned (OpenSpec.upto fnExactArrowOfSpec)

/-- 'laws.FnExactInhabited', WHERE WHAT IT READS IS OF BULK AT MOST 1048576: true; the input reads as it did. -/
def fnExactInhabitedUptoRow : OpenClaim := { program := "ytmahamlfdegkkaa", sum := "0491732122b98b4714f6a2727496a465e8989ab8164b0920a9aea00aaad4cf8b", func := "loop.example/refcountml/laws.FnExactInhabited", spec := "fnExactInhabited", apart := false, narrowed := true }
def FnExactInhabitedUptoSaid : Prop := fnExactInhabitedUptoRow.holds Try.pinned (OpenSpec.upto fnExactInhabitedSpec)

end Rows
end Go.Proofs.Ytmahamlfdegkkaa

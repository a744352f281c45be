/-
  No cell of these rows narrows 'for every input' (looked for: loops, veiled, ifaces, maps, wideKeys, modest, calm, conditions, laid).
  DERIVED. THE GIVEN ROWS OF THIS SEAT. 5 by the template 'for every input the law returns true; each argument reads behind the call as it read before'; 0 by the template 'total and deterministic' (their statements: YtcpcagdialnbeaaTotals.lean).
  GIVEN WITH THE SEED: the statements are not yours to turn. If you find one false, say at which input.
  Laid BY PROGRAM, IN A SANDBOX (cutbox-rows.mjs): the forced cells as the released guide's own fill.sh prints them over the translation 70aa9ab3cfa6bb32… (all of the seat's roots in one cut). By AI agents, Wed Nov 11 2026. No macro, syntax, notation, axiom, sorry.
-/
import Derived.Test.YtcpcagdialnbeaaChecked
import GoSem.Claim
import GoSem.ClaimJoined
import GoSem.ClaimMapViews
import Derived.JoinedTies
import Derived.KernelRfl
namespace Go.Proofs.Ytcpcagdialnbeaa
/- THE CELL 'sum', in the pinned program and in every row, IS THE sha256 OF THE DUMP (.gsa) THAT YtcpcagdialnbeaaProg.lean LOADS. Nothing in Lean hashes anything: it is a label: what it is worth is what the hold of that sum in a sandbox is worth. -/
noncomputable def Try.pinned : Pinned := { name := "ytcpcagdialnbeaa", sum := "70aa9ab3cfa6bb326e92c4c2b5f658c7c6f98cc4bc4a11d555398f7e050d47cb", checked := Try.checked }
namespace Rows
def none {H : Type} : Left H := { results := [], args := [] }

/-- 'laws.FnValidSigs': WHATEVER THE INPUT: true; the input reads as it did. -/
def fnValidSigsSpec : ChangeSpec := { name := "fnValidSigs", fn := fun _ => fun
  | [d] => { results := [.lit (.bool true)], args := [d] }
  | _ => none }
def fnValidSigsRow : OpenClaim := { program := "ytcpcagdialnbeaa", sum := "70aa9ab3cfa6bb326e92c4c2b5f658c7c6f98cc4bc4a11d555398f7e050d47cb", func := "loop.example/refcountml/laws.FnValidSigs", spec := "fnValidSigs", recurses := true, apart := false }
def FnValidSigsSaid : Prop := fnValidSigsRow.holds Try.pinned (OpenSpec.ofChange fnValidSigsSpec)

/-- ITS FALSE NEIGHBOUR: 'it returns false'. Refute it at one input. -/
def fnValidSigsWrong : ChangeSpec := { name := "fnValidSigs", fn := fun _ => fun
  | [d] => { results := [.lit (.bool false)], args := [d] }
  | _ => none }
def FnValidSigsWrongFalsely : Prop := fnValidSigsRow.holds Try.pinned (OpenSpec.ofChange fnValidSigsWrong)

/-- 'laws.FnTypeOf': WHATEVER THE INPUT: true; the input reads as it did. -/
def fnTypeOfSpec : ChangeSpec := { name := "fnTypeOf", fn := fun _ => fun
  | [d] => { results := [.lit (.bool true)], args := [d] }
  | _ => none }
def fnTypeOfRow : OpenClaim := { program := "ytcpcagdialnbeaa", sum := "70aa9ab3cfa6bb326e92c4c2b5f658c7c6f98cc4bc4a11d555398f7e050d47cb", func := "loop.example/refcountml/laws.FnTypeOf", spec := "fnTypeOf", recurses := true, apart := false }
def FnTypeOfSaid : Prop := fnTypeOfRow.holds Try.pinned (OpenSpec.ofChange fnTypeOfSpec)

/-- ITS FALSE NEIGHBOUR: 'it returns false'. Refute it at one input. -/
def fnTypeOfWrong : ChangeSpec := { name := "fnTypeOf", fn := fun _ => fun
  | [d] => { results := [.lit (.bool false)], args := [d] }
  | _ => none }
def FnTypeOfWrongFalsely : Prop := fnTypeOfRow.holds Try.pinned (OpenSpec.ofChange fnTypeOfWrong)

/-- 'laws.FnTypeOfFront': WHATEVER THE INPUT: true; the input reads as it did. -/
def fnTypeOfFrontSpec : ChangeSpec := { name := "fnTypeOfFront", fn := fun _ => fun
  | [d] => { results := [.lit (.bool true)], args := [d] }
  | _ => none }
def fnTypeOfFrontRow : OpenClaim := { program := "ytcpcagdialnbeaa", sum := "70aa9ab3cfa6bb326e92c4c2b5f658c7c6f98cc4bc4a11d555398f7e050d47cb", func := "loop.example/refcountml/laws.FnTypeOfFront", spec := "fnTypeOfFront", recurses := true, apart := false }
def FnTypeOfFrontSaid : Prop := fnTypeOfFrontRow.holds Try.pinned (OpenSpec.ofChange fnTypeOfFrontSpec)

/-- ITS FALSE NEIGHBOUR: 'it returns false'. Refute it at one input. -/
def fnTypeOfFrontWrong : ChangeSpec := { name := "fnTypeOfFront", fn := fun _ => fun
  | [d] => { results := [.lit (.bool false)], args := [d] }
  | _ => none }
def FnTypeOfFrontWrongFalsely : Prop := fnTypeOfFrontRow.holds Try.pinned (OpenSpec.ofChange fnTypeOfFrontWrong)

/-- 'laws.FnTypeOfLet': WHATEVER THE INPUT: true; the input reads as it did. -/
def fnTypeOfLetSpec : ChangeSpec := { name := "fnTypeOfLet", fn := fun _ => fun
  | [d] => { results := [.lit (.bool true)], args := [d] }
  | _ => none }
def fnTypeOfLetRow : OpenClaim := { program := "ytcpcagdialnbeaa", sum := "70aa9ab3cfa6bb326e92c4c2b5f658c7c6f98cc4bc4a11d555398f7e050d47cb", func := "loop.example/refcountml/laws.FnTypeOfLet", spec := "fnTypeOfLet", recurses := true, apart := false }
def FnTypeOfLetSaid : Prop := fnTypeOfLetRow.holds Try.pinned (OpenSpec.ofChange fnTypeOfLetSpec)

/-- ITS FALSE NEIGHBOUR: 'it returns false'. Refute it at one input. -/
def fnTypeOfLetWrong : ChangeSpec := { name := "fnTypeOfLet", fn := fun _ => fun
  | [d] => { results := [.lit (.bool false)], args := [d] }
  | _ => none }
def FnTypeOfLetWrongFalsely : Prop := fnTypeOfLetRow.holds Try.pinned (OpenSpec.ofChange fnTypeOfLetWrong)

/-- 'laws.FnTypeOfIf': WHATEVER THE INPUT: true; the input reads as it did. -/
def fnTypeOfIfSpec : ChangeSpec := { name := "fnTypeOfIf", fn := fun _ => fun
  | [d] => { results := [.lit (.bool true)], args := [d] }
  | _ => none }
def fnTypeOfIfRow : OpenClaim := { program := "ytcpcagdialnbeaa", sum := "70aa9ab3cfa6bb326e92c4c2b5f658c7c6f98cc4bc4a11d555398f7e050d47cb", func := "loop.example/refcountml/laws.FnTypeOfIf", spec := "fnTypeOfIf", recurses := true, apart := false }
def FnTypeOfIfSaid : Prop := fnTypeOfIfRow.holds Try.pinned (OpenSpec.ofChange fnTypeOfIfSpec)

/-- ITS FALSE NEIGHBOUR: 'it returns false'. Refute it at one input. -/
def fnTypeOfIfWrong : ChangeSpec := { name := "fnTypeOfIf", fn := fun _ => fun
  | [d] => { results := [.lit (.bool false)], args := [d] }
  | _ => none }
def FnTypeOfIfWrongFalsely : Prop := fnTypeOfIfRow.holds Try.pinned (OpenSpec.ofChange fnTypeOfIfWrong)

/- THE SECOND FORM. 'bulk': how many values and letters a reading holds, each counted each time it is reached (what is shared counts as often as it is met; a slice's spare places count too). A statement '..UptoSaid' is the law's where the arguments, and the package variables that the reading takes, are together of bulk at most 1048576: NARROWER than '..Said'. Prove '..Said' where nothing that the law and all that it calls make is longer than what came in: it says more and counts as full. Else prove '..UptoSaid'. A law counts once. -/
mutual
def uptoBulk {H : Type} : DataW H → Nat
  | .lit (.string bytes) => bytes.length + 1
  | .lit _ => 1
  | .nil => 1
  | .ptr d => uptoBulk d + 1
  | .slice elems spare => uptoBulkAll elems + uptoBulkAll spare + 1
  | .agg parts => uptoBulkAll parts + 1
  | .iface _ d => uptoBulk d + 1
  | .map entries => uptoBulkEntries entries + 1
  | .held _ => 1
def uptoBulkAll {H : Type} : List (DataW H) → Nat
  | [] => 0
  | d :: r => uptoBulk d + uptoBulkAll r
def uptoBulkEntries {H : Type} : List (Lit × DataW H) → Nat
  | [] => 0
  | x :: r => uptoBulkEntry x + uptoBulkEntries r
def uptoBulkEntry {H : Type} : Lit × DataW H → Nat
  | (.string bytes, d) => bytes.length + uptoBulk d + 1
  | (_, d) => uptoBulk d + 1
 end
def uptoSmall : (H : Type) → List (DataW H) → Bool := fun _ ds => decide (uptoBulkAll ds ≤ 1048576)
def OpenSpec.upto (s : _root_.Go.ChangeSpec) : _root_.Go.OpenSpec := { _root_.Go.OpenSpec.ofChange s with cond := some uptoSmall }

/-- 'laws.FnValidSigs', WHERE WHAT IT READS IS OF BULK AT MOST 1048576: true; the input reads as it did. -/
def fnValidSigsUptoRow : OpenClaim := { program := "ytcpcagdialnbeaa", sum := "70aa9ab3cfa6bb326e92c4c2b5f658c7c6f98cc4bc4a11d555398f7e050d47cb", func := "loop.example/refcountml/laws.FnValidSigs", spec := "fnValidSigs", recurses := true, apart := false, narrowed := true }
def FnValidSigsUptoSaid : Prop := fnValidSigsUptoRow.holds Try.pinned (OpenSpec.upto fnValidSigsSpec)

/-- 'laws.FnTypeOf', WHERE WHAT IT READS IS OF BULK AT MOST 1048576: true; the input reads as it did. -/
def fnTypeOfUptoRow : OpenClaim := { program := "ytcpcagdialnbeaa", sum := "70aa9ab3cfa6bb326e92c4c2b5f658c7c6f98cc4bc4a11d555398f7e050d47cb", func := "loop.example/refcountml/laws.FnTypeOf", spec := "fnTypeOf", recurses := true, apart := false, narrowed := true }
def FnTypeOfUptoSaid : Prop := fnTypeOfUptoRow.holds Try.pinned (OpenSpec.upto fnTypeOfSpec)

/-- 'laws.FnTypeOfFront', WHERE WHAT IT READS IS OF BULK AT MOST 1048576: true; the input reads as it did. -/
def fnTypeOfFrontUptoRow : OpenClaim := { program := "ytcpcagdialnbeaa", sum := "70aa9ab3cfa6bb326e92c4c2b5f658c7c6f98cc4bc4a11d555398f7e050d47cb", func := "loop.example/refcountml/laws.FnTypeOfFront", spec := "fnTypeOfFront", recurses := true, apart := false, narrowed := true }
def FnTypeOfFrontUptoSaid : Prop := fnTypeOfFrontUptoRow.holds Try.pinned (OpenSpec.upto fnTypeOfFrontSpec)

/-- 'laws.FnTypeOfLet', WHERE WHAT IT READS IS OF BULK AT MOST 1048576: true; the input reads as it did. -/
def fnTypeOfLetUptoRow : OpenClaim := { program := "ytcpcagdialnbeaa", sum := "70aa9ab3cfa6bb326e92c4c2b5f658c7c6f98cc4bc4a11d555398f7e050d47cb", func := "loop.example/refcountml/laws.FnTypeOfLet", spec := "fnTypeOfLet", recurses := true, apart := false, narrowed := true }
def FnTypeOfLetUptoSaid : Prop := fnTypeOfLetUptoRow.holds Try.pinned (OpenSpec.upto fnTypeOfLetSpec)

/-- 'laws.FnTypeOfIf', WHERE WHAT IT READS IS OF BULK AT MOST 1048576: true; the input reads as it did. -/
def fnTypeOfIfUptoRow : OpenClaim := { program := "ytcpcagdialnbeaa", sum := "70aa9ab3cfa6bb326e92c4c2b5f658c7c6f98cc4bc4a11d555398f7e050d47cb", func := "loop.example/refcountml/laws.FnTypeOfIf", spec := "fnTypeOfIf", recurses := true, apart := false, narrowed := true }
def FnTypeOfIfUptoSaid : Prop := fnTypeOfIfUptoRow.holds Try.pinned (OpenSpec.upto fnTypeOfIfSpec)

end Rows
end Go.Proofs.Ytcpcagdialnbeaa

/-
  No cell of these rows narrows 'for every input' (looked for: loops, veiled, ifaces, maps, wideKeys, modest, calm, conditions, laid).
  DERIVED. THE GIVEN ROWS OF THIS SEAT. 7 by the template 'for every input the law returns true; each argument reads behind the call as it read before'; 0 by the template 'total and deterministic' (their statements: YtcpcagdialnbeaaGreatTotals.lean).
  GIVEN WITH THE SEED: the statements are not yours to turn. If you find one false, say at which input.
  Laid BY PROGRAM, IN A SANDBOX (cutbox-rows.mjs): the forced cells as the released guide's own fill.sh prints them over the translation a9680ad2e7fc54a2… (all of the seat's roots in one cut). By AI agents, Wed Nov 11 2026. No macro, syntax, notation, axiom, sorry.
-/
import Derived.Test.YtcpcagdialnbeaaGreatChecked
import GoSem.Claim
import GoSem.ClaimJoined
import GoSem.ClaimMapViews
import Derived.JoinedTies
import Derived.KernelRfl
namespace Go.Proofs.YtcpcagdialnbeaaGreat
/- THE CELL 'sum', in the pinned program and in every row, IS THE sha256 OF THE DUMP (.gsa) THAT YtcpcagdialnbeaaGreatProg.lean LOADS. Nothing in Lean hashes anything: it is a label: what it is worth is what the hold of that sum in a sandbox is worth. -/
noncomputable def Tryz.pinned : Pinned := { name := "ytcpcagdialnbeaagreat", sum := "a9680ad2e7fc54a2b35d81b5d2500ebb46c7b479e120f4ddafc3f2a702482221", checked := Tryz.checked }
namespace Rows
def none {H : Type} : Left H := { results := [], args := [] }

/-- 'laws.FnCalleesOf': WHATEVER THE INPUT: true; the input reads as it did. -/
def fnCalleesOfSpec : ChangeSpec := { name := "fnCalleesOf", fn := fun _ => fun
  | [d] => { results := [.lit (.bool true)], args := [d] }
  | _ => none }
def fnCalleesOfRow : OpenClaim := { program := "ytcpcagdialnbeaagreat", sum := "a9680ad2e7fc54a2b35d81b5d2500ebb46c7b479e120f4ddafc3f2a702482221", func := "loop.example/refcountml/laws.FnCalleesOf", spec := "fnCalleesOf", recurses := true, apart := false }
def FnCalleesOfSaid : Prop := fnCalleesOfRow.holds Tryz.pinned (OpenSpec.ofChange fnCalleesOfSpec)

/-- ITS FALSE NEIGHBOUR: 'it returns false'. Refute it at one input. -/
def fnCalleesOfWrong : ChangeSpec := { name := "fnCalleesOf", fn := fun _ => fun
  | [d] => { results := [.lit (.bool false)], args := [d] }
  | _ => none }
def FnCalleesOfWrongFalsely : Prop := fnCalleesOfRow.holds Tryz.pinned (OpenSpec.ofChange fnCalleesOfWrong)

/-- 'laws.FnReachedFrom': WHATEVER THE INPUT: true; the input reads as it did. -/
def fnReachedFromSpec : ChangeSpec := { name := "fnReachedFrom", fn := fun _ => fun
  | [d] => { results := [.lit (.bool true)], args := [d] }
  | _ => none }
def fnReachedFromRow : OpenClaim := { program := "ytcpcagdialnbeaagreat", sum := "a9680ad2e7fc54a2b35d81b5d2500ebb46c7b479e120f4ddafc3f2a702482221", func := "loop.example/refcountml/laws.FnReachedFrom", spec := "fnReachedFrom", recurses := true, apart := false }
def FnReachedFromSaid : Prop := fnReachedFromRow.holds Tryz.pinned (OpenSpec.ofChange fnReachedFromSpec)

/-- ITS FALSE NEIGHBOUR: 'it returns false'. Refute it at one input. -/
def fnReachedFromWrong : ChangeSpec := { name := "fnReachedFrom", fn := fun _ => fun
  | [d] => { results := [.lit (.bool false)], args := [d] }
  | _ => none }
def FnReachedFromWrongFalsely : Prop := fnReachedFromRow.holds Tryz.pinned (OpenSpec.ofChange fnReachedFromWrong)

/-- 'laws.FnReachedFromAll': WHATEVER THE INPUT: true; the input reads as it did. -/
def fnReachedFromAllSpec : ChangeSpec := { name := "fnReachedFromAll", fn := fun _ => fun
  | [d] => { results := [.lit (.bool true)], args := [d] }
  | _ => none }
def fnReachedFromAllRow : OpenClaim := { program := "ytcpcagdialnbeaagreat", sum := "a9680ad2e7fc54a2b35d81b5d2500ebb46c7b479e120f4ddafc3f2a702482221", func := "loop.example/refcountml/laws.FnReachedFromAll", spec := "fnReachedFromAll", recurses := true, apart := false }
def FnReachedFromAllSaid : Prop := fnReachedFromAllRow.holds Tryz.pinned (OpenSpec.ofChange fnReachedFromAllSpec)

/-- ITS FALSE NEIGHBOUR: 'it returns false'. Refute it at one input. -/
def fnReachedFromAllWrong : ChangeSpec := { name := "fnReachedFromAll", fn := fun _ => fun
  | [d] => { results := [.lit (.bool false)], args := [d] }
  | _ => none }
def FnReachedFromAllWrongFalsely : Prop := fnReachedFromAllRow.holds Tryz.pinned (OpenSpec.ofChange fnReachedFromAllWrong)

/-- 'laws.FnUnusedParams': WHATEVER THE INPUT: true; the input reads as it did. -/
def fnUnusedParamsSpec : ChangeSpec := { name := "fnUnusedParams", fn := fun _ => fun
  | [d] => { results := [.lit (.bool true)], args := [d] }
  | _ => none }
def fnUnusedParamsRow : OpenClaim := { program := "ytcpcagdialnbeaagreat", sum := "a9680ad2e7fc54a2b35d81b5d2500ebb46c7b479e120f4ddafc3f2a702482221", func := "loop.example/refcountml/laws.FnUnusedParams", spec := "fnUnusedParams", recurses := true, apart := false }
def FnUnusedParamsSaid : Prop := fnUnusedParamsRow.holds Tryz.pinned (OpenSpec.ofChange fnUnusedParamsSpec)

/-- ITS FALSE NEIGHBOUR: 'it returns false'. Refute it at one input. -/
def fnUnusedParamsWrong : ChangeSpec := { name := "fnUnusedParams", fn := fun _ => fun
  | [d] => { results := [.lit (.bool false)], args := [d] }
  | _ => none }
def FnUnusedParamsWrongFalsely : Prop := fnUnusedParamsRow.holds Tryz.pinned (OpenSpec.ofChange fnUnusedParamsWrong)

/-- 'laws.FnMayInline': WHATEVER THE INPUT: true; the input reads as it did. -/
def fnMayInlineSpec : ChangeSpec := { name := "fnMayInline", fn := fun _ => fun
  | [d] => { results := [.lit (.bool true)], args := [d] }
  | _ => none }
def fnMayInlineRow : OpenClaim := { program := "ytcpcagdialnbeaagreat", sum := "a9680ad2e7fc54a2b35d81b5d2500ebb46c7b479e120f4ddafc3f2a702482221", func := "loop.example/refcountml/laws.FnMayInline", spec := "fnMayInline", recurses := true, apart := false }
def FnMayInlineSaid : Prop := fnMayInlineRow.holds Tryz.pinned (OpenSpec.ofChange fnMayInlineSpec)

/-- ITS FALSE NEIGHBOUR: 'it returns false'. Refute it at one input. -/
def fnMayInlineWrong : ChangeSpec := { name := "fnMayInline", fn := fun _ => fun
  | [d] => { results := [.lit (.bool false)], args := [d] }
  | _ => none }
def FnMayInlineWrongFalsely : Prop := fnMayInlineRow.holds Tryz.pinned (OpenSpec.ofChange fnMayInlineWrong)

/-- 'laws.FnCallSites': WHATEVER THE INPUT: true; the input reads as it did. -/
def fnCallSitesSpec : ChangeSpec := { name := "fnCallSites", fn := fun _ => fun
  | [d] => { results := [.lit (.bool true)], args := [d] }
  | _ => none }
def fnCallSitesRow : OpenClaim := { program := "ytcpcagdialnbeaagreat", sum := "a9680ad2e7fc54a2b35d81b5d2500ebb46c7b479e120f4ddafc3f2a702482221", func := "loop.example/refcountml/laws.FnCallSites", spec := "fnCallSites", recurses := true, apart := false }
def FnCallSitesSaid : Prop := fnCallSitesRow.holds Tryz.pinned (OpenSpec.ofChange fnCallSitesSpec)

/-- ITS FALSE NEIGHBOUR: 'it returns false'. Refute it at one input. -/
def fnCallSitesWrong : ChangeSpec := { name := "fnCallSites", fn := fun _ => fun
  | [d] => { results := [.lit (.bool false)], args := [d] }
  | _ => none }
def FnCallSitesWrongFalsely : Prop := fnCallSitesRow.holds Tryz.pinned (OpenSpec.ofChange fnCallSitesWrong)

/-- 'laws.FnValidProgramLet': WHATEVER THE INPUT: true; the input reads as it did. -/
def fnValidProgramLetSpec : ChangeSpec := { name := "fnValidProgramLet", fn := fun _ => fun
  | [d] => { results := [.lit (.bool true)], args := [d] }
  | _ => none }
def fnValidProgramLetRow : OpenClaim := { program := "ytcpcagdialnbeaagreat", sum := "a9680ad2e7fc54a2b35d81b5d2500ebb46c7b479e120f4ddafc3f2a702482221", func := "loop.example/refcountml/laws.FnValidProgramLet", spec := "fnValidProgramLet", recurses := true, apart := false }
def FnValidProgramLetSaid : Prop := fnValidProgramLetRow.holds Tryz.pinned (OpenSpec.ofChange fnValidProgramLetSpec)

/-- ITS FALSE NEIGHBOUR: 'it returns false'. Refute it at one input. -/
def fnValidProgramLetWrong : ChangeSpec := { name := "fnValidProgramLet", fn := fun _ => fun
  | [d] => { results := [.lit (.bool false)], args := [d] }
  | _ => none }
def FnValidProgramLetWrongFalsely : Prop := fnValidProgramLetRow.holds Tryz.pinned (OpenSpec.ofChange fnValidProgramLetWrong)

/- THE SECOND FORM. 'bulk': how many values and letters a reading holds, each counted each time it is reached (what is shared counts as often as it is met; a slice's spare places count too). A statement '..UptoSaid' is the law's where the arguments, and the package variables that the reading takes, are together of bulk at most 1048576: NARROWER than '..Said'. Prove '..Said' where nothing that the law and all that it calls make is longer than what came in: it says more and counts as full. Else prove '..UptoSaid'. A law counts once. -/
mutual
def uptoBulk {H : Type} : DataW H → Nat
  | .lit (.string bytes) => bytes.length + 1
  | .lit _ => 1
  | .nil => 1
  | .ptr d => uptoBulk d + 1
  | .slice elems spare => uptoBulkAll elems + uptoBulkAll spare + 1
  | .agg parts => uptoBulkAll parts + 1
  | .iface _ d => uptoBulk d + 1
  | .map entries => uptoBulkEntries entries + 1
  | .held _ => 1
def uptoBulkAll {H : Type} : List (DataW H) → Nat
  | [] => 0
  | d :: r => uptoBulk d + uptoBulkAll r
def uptoBulkEntries {H : Type} : List (Lit × DataW H) → Nat
  | [] => 0
  | x :: r => uptoBulkEntry x + uptoBulkEntries r
def uptoBulkEntry {H : Type} : Lit × DataW H → Nat
  | (.string bytes, d) => bytes.length + uptoBulk d + 1
  | (_, d) => uptoBulk d + 1
 end
def uptoSmall : (H : Type) → List (DataW H) → Bool := fun _ ds => decide (uptoBulkAll ds ≤ 1048576)
def OpenSpec.upto (s : _root_.Go.ChangeSpec) : _root_.Go.OpenSpec := { _root_.Go.OpenSpec.ofChange s with cond := some uptoSmall }

/-- 'laws.FnCalleesOf', WHERE WHAT IT READS IS OF BULK AT MOST 1048576: true; the input reads as it did. -/
def fnCalleesOfUptoRow : OpenClaim := { program := "ytcpcagdialnbeaagreat", sum := "a9680ad2e7fc54a2b35d81b5d2500ebb46c7b479e120f4ddafc3f2a702482221", func := "loop.example/refcountml/laws.FnCalleesOf", spec := "fnCalleesOf", recurses := true, apart := false, narrowed := true }
def FnCalleesOfUptoSaid : Prop := fnCalleesOfUptoRow.holds Tryz.pinned (OpenSpec.upto fnCalleesOfSpec)

/-- 'laws.FnReachedFrom', WHERE WHAT IT READS IS OF BULK AT MOST 1048576: true; the input reads as it did. -/
def fnReachedFromUptoRow : OpenClaim := { program := "ytcpcagdialnbeaagreat", sum := "a9680ad2e7fc54a2b35d81b5d2500ebb46c7b479e120f4ddafc3f2a702482221", func := "loop.example/refcountml/laws.FnReachedFrom", spec := "fnReachedFrom", recurses := true, apart := false, narrowed := true }
def FnReachedFromUptoSaid : Prop := fnReachedFromUptoRow.holds Tryz.pinned (OpenSpec.upto fnReachedFromSpec)

/-- 'laws.FnReachedFromAll', WHERE WHAT IT READS IS OF BULK AT MOST 1048576: true; the input reads as it did. -/
def fnReachedFromAllUptoRow : OpenClaim := { program := "ytcpcagdialnbeaagreat", sum := "a9680ad2e7fc54a2b35d81b5d2500ebb46c7b479e120f4ddafc3f2a702482221", func := "loop.example/refcountml/laws.FnReachedFromAll", spec := "fnReachedFromAll", recurses := true, apart := false, narrowed := true }
def FnReachedFromAllUptoSaid : Prop := fnReachedFromAllUptoRow.holds Tryz.pinned (OpenSpec.upto fnReachedFromAllSpec)

/-- 'laws.FnUnusedParams', WHERE WHAT IT READS IS OF BULK AT MOST 1048576: true; the input reads as it did. -/
def fnUnusedParamsUptoRow : OpenClaim := { program := "ytcpcagdialnbeaagreat", sum := "a9680ad2e7fc54a2b35d81b5d2500ebb46c7b479e120f4ddafc3f2a702482221", func := "loop.example/refcountml/laws.FnUnusedParams", spec := "fnUnusedParams", recurses := true, apart := false, narrowed := true }
def FnUnusedParamsUptoSaid : Prop := fnUnusedParamsUptoRow.holds Tryz.pinned (OpenSpec.upto fnUnusedParamsSpec)

/-- 'laws.FnMayInline', WHERE WHAT IT READS IS OF BULK AT MOST 1048576: true; the input reads as it did. -/
def fnMayInlineUptoRow : OpenClaim := { program := "ytcpcagdialnbeaagreat", sum := "a9680ad2e7fc54a2b35d81b5d2500ebb46c7b479e120f4ddafc3f2a702482221", func := "loop.example/refcountml/laws.FnMayInline", spec := "fnMayInline", recurses := true, apart := false, narrowed := true }
def FnMayInlineUptoSaid : Prop := fnMayInlineUptoRow.holds Tryz.pinned (OpenSpec.upto fnMayInlineSpec)

/-- 'laws.FnCallSites', WHERE WHAT IT READS IS OF BULK AT MOST 1048576: true; the input reads as it did. -/
def fnCallSitesUptoRow : OpenClaim := { program := "ytcpcagdialnbeaagreat", sum := "a9680ad2e7fc54a2b35d81b5d2500ebb46c7b479e120f4ddafc3f2a702482221", func := "loop.example/refcountml/laws.FnCallSites", spec := "fnCallSites", recurses := true, apart := false, narrowed := true }
def FnCallSitesUptoSaid : Prop := fnCallSitesUptoRow.holds Tryz.pinned (OpenSpec.upto fnCallSitesSpec)

/-- 'laws.FnValidProgramLet', WHERE WHAT IT READS IS OF BULK AT MOST 1048576: true; the input reads as it did. -/
def fnValidProgramLetUptoRow : OpenClaim := { program := "ytcpcagdialnbeaagreat", sum := "a9680ad2e7fc54a2b35d81b5d2500ebb46c7b479e120f4ddafc3f2a702482221", func := "loop.example/refcountml/laws.FnValidProgramLet", spec := "fnValidProgramLet", recurses := true, apart := false, narrowed := true }
def FnValidProgramLetUptoSaid : Prop := fnValidProgramLetUptoRow.holds Tryz.pinned (OpenSpec.upto fnValidProgramLetSpec)

end Rows
end Go.Proofs.YtcpcagdialnbeaaGreat

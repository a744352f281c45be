/-
  NARROWER THAN 'FOR EVERY INPUT', by the rows' own cells (each row's printed sentence says how): FnExactMayInline: loops · FnExactCallSites: loops · FnExactMentionsOf: loops.
  DERIVED. THE GIVEN ROWS OF THIS SEAT. 3 by the template 'for every input the law returns true; each argument reads behind the call as it read before'; 0 by the template 'total and deterministic' (their statements: YtoljlooeiljpfaaTotals.lean).
  GIVEN WITH THE SEED: the statements are not yours to turn. If you find one false, say at which input.
  Laid BY PROGRAM, IN A SANDBOX (cutbox-rows.mjs): the forced cells as the released guide's own fill.sh prints them over the translation 83763a779c9dfd2c… (all of the seat's roots in one cut). By AI agents, Wed Nov 11 2026. No macro, syntax, notation, axiom, sorry.
-/
import Derived.Test.YtoljlooeiljpfaaChecked
import GoSem.Claim
import GoSem.ClaimJoined
import GoSem.ClaimMapViews
import Derived.JoinedTies
import Derived.KernelRfl
namespace Go.Proofs.Ytoljlooeiljpfaa
/- THE CELL 'sum', in the pinned program and in every row, IS THE sha256 OF THE DUMP (.gsa) THAT YtoljlooeiljpfaaProg.lean LOADS. Nothing in Lean hashes anything: it is a label: what it is worth is what the hold of that sum in a sandbox is worth. -/
noncomputable def Try.pinned : Pinned := { name := "ytoljlooeiljpfaa", sum := "83763a779c9dfd2ca256047aa6f6e8d019f444ac3a2256d2c6b618023e9446d0", checked := Try.checked }
namespace Rows
def none {H : Type} : Left H := { results := [], args := [] }

/-- 'laws.FnExactMayInline': WHATEVER THE INPUT: true; the input reads as it did. -/
def fnExactMayInlineSpec : ChangeSpec := { name := "fnExactMayInline", fn := fun _ => fun
  | [d1, d2] => { results := [.lit (.bool true)], args := [d1, d2] }
  | _ => none }
def fnExactMayInlineRow : OpenClaim := { program := "ytoljlooeiljpfaa", sum := "83763a779c9dfd2ca256047aa6f6e8d019f444ac3a2256d2c6b618023e9446d0", func := "loop.example/refcountml/laws.FnExactMayInline", spec := "fnExactMayInline", recurses := true, loops := true, apart := false }
def FnExactMayInlineSaid : Prop := fnExactMayInlineRow.holds Try.pinned (OpenSpec.ofChange fnExactMayInlineSpec)

/-- ITS FALSE NEIGHBOUR: 'it returns false'. Refute it at one input. -/
def fnExactMayInlineWrong : ChangeSpec := { name := "fnExactMayInline", fn := fun _ => fun
  | [d1, d2] => { results := [.lit (.bool false)], args := [d1, d2] }
  | _ => none }
def FnExactMayInlineWrongFalsely : Prop := fnExactMayInlineRow.holds Try.pinned (OpenSpec.ofChange fnExactMayInlineWrong)

/-- 'laws.FnExactCallSites': WHATEVER THE INPUT: true; the input reads as it did. -/
def fnExactCallSitesSpec : ChangeSpec := { name := "fnExactCallSites", fn := fun _ => fun
  | [d1, d2] => { results := [.lit (.bool true)], args := [d1, d2] }
  | _ => none }
def fnExactCallSitesRow : OpenClaim := { program := "ytoljlooeiljpfaa", sum := "83763a779c9dfd2ca256047aa6f6e8d019f444ac3a2256d2c6b618023e9446d0", func := "loop.example/refcountml/laws.FnExactCallSites", spec := "fnExactCallSites", recurses := true, loops := true, apart := false }
def FnExactCallSitesSaid : Prop := fnExactCallSitesRow.holds Try.pinned (OpenSpec.ofChange fnExactCallSitesSpec)

/-- ITS FALSE NEIGHBOUR: 'it returns false'. Refute it at one input. -/
def fnExactCallSitesWrong : ChangeSpec := { name := "fnExactCallSites", fn := fun _ => fun
  | [d1, d2] => { results := [.lit (.bool false)], args := [d1, d2] }
  | _ => none }
def FnExactCallSitesWrongFalsely : Prop := fnExactCallSitesRow.holds Try.pinned (OpenSpec.ofChange fnExactCallSitesWrong)

/-- 'laws.FnExactMentionsOf': WHATEVER THE INPUT: true; the input reads as it did. -/
def fnExactMentionsOfSpec : ChangeSpec := { name := "fnExactMentionsOf", fn := fun _ => fun
  | [d1, d2] => { results := [.lit (.bool true)], args := [d1, d2] }
  | _ => none }
def fnExactMentionsOfRow : OpenClaim := { program := "ytoljlooeiljpfaa", sum := "83763a779c9dfd2ca256047aa6f6e8d019f444ac3a2256d2c6b618023e9446d0", func := "loop.example/refcountml/laws.FnExactMentionsOf", spec := "fnExactMentionsOf", recurses := true, loops := true, apart := false }
def FnExactMentionsOfSaid : Prop := fnExactMentionsOfRow.holds Try.pinned (OpenSpec.ofChange fnExactMentionsOfSpec)

/-- ITS FALSE NEIGHBOUR: 'it returns false'. Refute it at one input. -/
def fnExactMentionsOfWrong : ChangeSpec := { name := "fnExactMentionsOf", fn := fun _ => fun
  | [d1, d2] => { results := [.lit (.bool false)], args := [d1, d2] }
  | _ => none }
def FnExactMentionsOfWrongFalsely : Prop := fnExactMentionsOfRow.holds Try.pinned (OpenSpec.ofChange fnExactMentionsOfWrong)

/- THE SECOND FORM. 'bulk': how many values and letters a reading holds, each counted each time it is reached (what is shared counts as often as it is met; a slice's spare places count too). A statement '..UptoSaid' is the law's where the arguments, and the package variables that the reading takes, are together of bulk at most 1048576: NARROWER than '..Said'. Prove '..Said' where nothing that the law and all that it calls make is longer than what came in: it says more and counts as full. Else prove '..UptoSaid'. A law counts once. -/
mutual
def uptoBulk {H : Type} : DataW H → Nat
  | .lit (.string bytes) => bytes.length + 1
  | .lit _ => 1
  | .nil => 1
  | .ptr d => uptoBulk d + 1
  | .slice elems spare => uptoBulkAll elems + uptoBulkAll spare + 1
  | .agg parts => uptoBulkAll parts + 1
  | .iface _ d => uptoBulk d + 1
  | .map entries => uptoBulkEntries entries + 1
  | .held _ => 1
def uptoBulkAll {H : Type} : List (DataW H) → Nat
  | [] => 0
  | d :: r => uptoBulk d + uptoBulkAll r
def uptoBulkEntries {H : Type} : List (Lit × DataW H) → Nat
  | [] => 0
  | x :: r => uptoBulkEntry x + uptoBulkEntries r
def uptoBulkEntry {H : Type} : Lit × DataW H → Nat
  | (.string bytes, d) => bytes.length + uptoBulk d + 1
  | (_, d) => uptoBulk d + 1
 end
def uptoSmall : (H : Type) → List (DataW H) → Bool := fun _ ds => decide (uptoBulkAll ds ≤ 1048576)
def OpenSpec.upto (s : _root_.Go.ChangeSpec) : _root_.Go.OpenSpec := { _root_.Go.OpenSpec.ofChange s with cond := some uptoSmall }

/-- 'laws.FnExactMayInline', WHERE WHAT IT READS IS OF BULK AT MOST 1048576: true; the input reads as it did. -/
def fnExactMayInlineUptoRow : OpenClaim := { program := "ytoljlooeiljpfaa", sum := "83763a779c9dfd2ca256047aa6f6e8d019f444ac3a2256d2c6b618023e9446d0", func := "loop.example/refcountml/laws.FnExactMayInline", spec := "fnExactMayInline", recurses := true, loops := true, apart := false, narrowed := true }
def FnExactMayInlineUptoSaid : Prop := fnExactMayInlineUptoRow.holds Try.pinned (OpenSpec.upto fnExactMayInlineSpec)

/-- 'laws.FnExactCallSites', WHERE WHAT IT READS IS OF BULK AT MOST 1048576: true; the input reads as it did. -/
def fnExactCallSitesUptoRow : OpenClaim := { program := "ytoljlooeiljpfaa", sum := "83763a779c9dfd2ca256047aa6f6e8d019f444ac3a2256d2c6b618023e9446d0", func := "loop.example/refcountml/laws.FnExactCallSites", spec := "fnExactCallSites", recurses := true, loops := true, apart := false, narrowed := true }
def FnExactCallSitesUptoSaid : Prop := fnExactCallSitesUptoRow.holds Try.pinned (OpenSpec.upto fnExactCallSitesSpec)

/-- 'laws.FnExactMentionsOf', WHERE WHAT IT READS IS OF BULK AT MOST 1048576: true; the input reads as it did. -/
def fnExactMentionsOfUptoRow : OpenClaim := { program := "ytoljlooeiljpfaa", sum := "83763a779c9dfd2ca256047aa6f6e8d019f444ac3a2256d2c6b618023e9446d0", func := "loop.example/refcountml/laws.FnExactMentionsOf", spec := "fnExactMentionsOf", recurses := true, loops := true, apart := false, narrowed := true }
def FnExactMentionsOfUptoSaid : Prop := fnExactMentionsOfUptoRow.holds Try.pinned (OpenSpec.upto fnExactMentionsOfSpec)

end Rows
end Go.Proofs.Ytoljlooeiljpfaa

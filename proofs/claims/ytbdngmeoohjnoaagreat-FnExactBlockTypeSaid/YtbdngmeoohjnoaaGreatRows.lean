/-
  NARROWER THAN 'FOR EVERY INPUT', by the rows' own cells (each row's printed sentence says how): FnExactBlockType: loops · FnExactValidNormal: loops · FnExactIsPlain: loops · FnExactCountsOf: loops.
  DERIVED. THE GIVEN ROWS OF THIS SEAT. 4 by the template 'for every input the law returns true; each argument reads behind the call as it read before'; 0 by the template 'total and deterministic' (their statements: YtbdngmeoohjnoaaGreatTotals.lean).
  GIVEN WITH THE SEED: the statements are not yours to turn. If you find one false, say at which input.
  Laid BY PROGRAM, IN A SANDBOX (cutbox-rows.mjs): the forced cells as the released guide's own fill.sh prints them over the translation f744d09d0467e470… (all of the seat's roots in one cut). By AI agents, Wed Nov 11 2026. No macro, syntax, notation, axiom, sorry.
-/
import Derived.Test.YtbdngmeoohjnoaaGreatChecked
import GoSem.Claim
import GoSem.ClaimJoined
import GoSem.ClaimMapViews
import Derived.JoinedTies
import Derived.KernelRfl
namespace Go.Proofs.YtbdngmeoohjnoaaGreat
/- THE CELL 'sum', in the pinned program and in every row, IS THE sha256 OF THE DUMP (.gsa) THAT YtbdngmeoohjnoaaGreatProg.lean LOADS. Nothing in Lean hashes anything: it is a label: what it is worth is what the hold of that sum in a sandbox is worth. -/
noncomputable def Tryz.pinned : Pinned := { name := "ytbdngmeoohjnoaagreat", sum := "f744d09d0467e470a464a1cd32ef3efd3f9768f4143697bf790c234d249ce22e", checked := Tryz.checked }
namespace Rows
def none {H : Type} : Left H := { results := [], args := [] }

/-- 'laws.FnExactBlockType': WHATEVER THE INPUT: true; the input reads as it did. -/
def fnExactBlockTypeSpec : ChangeSpec := { name := "fnExactBlockType", fn := fun _ => fun
  | [d1, d2, d3] => { results := [.lit (.bool true)], args := [d1, d2, d3] }
  | _ => none }
def fnExactBlockTypeRow : OpenClaim := { program := "ytbdngmeoohjnoaagreat", sum := "f744d09d0467e470a464a1cd32ef3efd3f9768f4143697bf790c234d249ce22e", func := "loop.example/refcountml/laws.FnExactBlockType", spec := "fnExactBlockType", recurses := true, loops := true, apart := false }
def FnExactBlockTypeSaid : Prop := fnExactBlockTypeRow.holds Tryz.pinned (OpenSpec.ofChange fnExactBlockTypeSpec)

/-- ITS FALSE NEIGHBOUR: 'it returns false'. Refute it at one input. -/
def fnExactBlockTypeWrong : ChangeSpec := { name := "fnExactBlockType", fn := fun _ => fun
  | [d1, d2, d3] => { results := [.lit (.bool false)], args := [d1, d2, d3] }
  | _ => none }
def FnExactBlockTypeWrongFalsely : Prop := fnExactBlockTypeRow.holds Tryz.pinned (OpenSpec.ofChange fnExactBlockTypeWrong)

/-- 'laws.FnExactValidNormal': WHATEVER THE INPUT: true; the input reads as it did. -/
def fnExactValidNormalSpec : ChangeSpec := { name := "fnExactValidNormal", fn := fun _ => fun
  | [d] => { results := [.lit (.bool true)], args := [d] }
  | _ => none }
def fnExactValidNormalRow : OpenClaim := { program := "ytbdngmeoohjnoaagreat", sum := "f744d09d0467e470a464a1cd32ef3efd3f9768f4143697bf790c234d249ce22e", func := "loop.example/refcountml/laws.FnExactValidNormal", spec := "fnExactValidNormal", recurses := true, loops := true, apart := false }
def FnExactValidNormalSaid : Prop := fnExactValidNormalRow.holds Tryz.pinned (OpenSpec.ofChange fnExactValidNormalSpec)

/-- ITS FALSE NEIGHBOUR: 'it returns false'. Refute it at one input. -/
def fnExactValidNormalWrong : ChangeSpec := { name := "fnExactValidNormal", fn := fun _ => fun
  | [d] => { results := [.lit (.bool false)], args := [d] }
  | _ => none }
def FnExactValidNormalWrongFalsely : Prop := fnExactValidNormalRow.holds Tryz.pinned (OpenSpec.ofChange fnExactValidNormalWrong)

/-- 'laws.FnExactIsPlain': WHATEVER THE INPUT: true; the input reads as it did. -/
def fnExactIsPlainSpec : ChangeSpec := { name := "fnExactIsPlain", fn := fun _ => fun
  | [d] => { results := [.lit (.bool true)], args := [d] }
  | _ => none }
def fnExactIsPlainRow : OpenClaim := { program := "ytbdngmeoohjnoaagreat", sum := "f744d09d0467e470a464a1cd32ef3efd3f9768f4143697bf790c234d249ce22e", func := "loop.example/refcountml/laws.FnExactIsPlain", spec := "fnExactIsPlain", recurses := true, loops := true, apart := false }
def FnExactIsPlainSaid : Prop := fnExactIsPlainRow.holds Tryz.pinned (OpenSpec.ofChange fnExactIsPlainSpec)

/-- ITS FALSE NEIGHBOUR: 'it returns false'. Refute it at one input. -/
def fnExactIsPlainWrong : ChangeSpec := { name := "fnExactIsPlain", fn := fun _ => fun
  | [d] => { results := [.lit (.bool false)], args := [d] }
  | _ => none }
def FnExactIsPlainWrongFalsely : Prop := fnExactIsPlainRow.holds Tryz.pinned (OpenSpec.ofChange fnExactIsPlainWrong)

/-- 'laws.FnExactCountsOf': WHATEVER THE INPUT: true; the input reads as it did. -/
def fnExactCountsOfSpec : ChangeSpec := { name := "fnExactCountsOf", fn := fun _ => fun
  | [d] => { results := [.lit (.bool true)], args := [d] }
  | _ => none }
def fnExactCountsOfRow : OpenClaim := { program := "ytbdngmeoohjnoaagreat", sum := "f744d09d0467e470a464a1cd32ef3efd3f9768f4143697bf790c234d249ce22e", func := "loop.example/refcountml/laws.FnExactCountsOf", spec := "fnExactCountsOf", recurses := true, loops := true, apart := false }
def FnExactCountsOfSaid : Prop := fnExactCountsOfRow.holds Tryz.pinned (OpenSpec.ofChange fnExactCountsOfSpec)

/-- ITS FALSE NEIGHBOUR: 'it returns false'. Refute it at one input. -/
def fnExactCountsOfWrong : ChangeSpec := { name := "fnExactCountsOf", fn := fun _ => fun
  | [d] => { results := [.lit (.bool false)], args := [d] }
  | _ => none }
def FnExactCountsOfWrongFalsely : Prop := fnExactCountsOfRow.holds Tryz.pinned (OpenSpec.ofChange fnExactCountsOfWrong)

/- THE SECOND FORM. 'bulk': how many values and letters a reading holds, each counted each time it is reached (what is shared counts as often as it is met; a slice's spare places count too). A statement '..UptoSaid' is the law's where the arguments, and the package variables that the reading takes, are together of bulk at most 1048576: NARROWER than '..Said'. Prove '..Said' where nothing that the law and all that it calls make is longer than what came in: it says more and counts as full. Else prove '..UptoSaid'. A law counts once. -/
mutual
def uptoBulk {H : Type} : DataW H → Nat
  | .lit (.string bytes) => bytes.length + 1
  | .lit _ => 1
  | .nil => 1
  | .ptr d => uptoBulk d + 1
  | .slice elems spare => uptoBulkAll elems + uptoBulkAll spare + 1
  | .agg parts => uptoBulkAll parts + 1
  | .iface _ d => uptoBulk d + 1
  | .map entries => uptoBulkEntries entries + 1
  | .held _ => 1
def uptoBulkAll {H : Type} : List (DataW H) → Nat
  | [] => 0
  | d :: r => uptoBulk d + uptoBulkAll r
def uptoBulkEntries {H : Type} : List (Lit × DataW H) → Nat
  | [] => 0
  | x :: r => uptoBulkEntry x + uptoBulkEntries r
def uptoBulkEntry {H : Type} : Lit × DataW H → Nat
  | (.string bytes, d) => bytes.length + uptoBulk d + 1
  | (_, d) => uptoBulk d + 1
 end
def uptoSmall : (H : Type) → List (DataW H) → Bool := fun _ ds => decide (uptoBulkAll ds ≤ 1048576)
def OpenSpec.upto (s : _root_.Go.ChangeSpec) : _root_.Go.OpenSpec := { _root_.Go.OpenSpec.ofChange s with cond := some uptoSmall }

/-- 'laws.FnExactBlockType', WHERE WHAT IT READS IS OF BULK AT MOST 1048576: true; the input reads as it did. -/
def fnExactBlockTypeUptoRow : OpenClaim := { program := "ytbdngmeoohjnoaagreat", sum := "f744d09d0467e470a464a1cd32ef3efd3f9768f4143697bf790c234d249ce22e", func := "loop.example/refcountml/laws.FnExactBlockType", spec := "fnExactBlockType", recurses := true, loops := true, apart := false, narrowed := true }
def FnExactBlockTypeUptoSaid : Prop := fnExactBlockTypeUptoRow.holds Tryz.pinned (OpenSpec.upto fnExactBlockTypeSpec)

/-- 'laws.FnExactValidNormal', WHERE WHAT IT READS IS OF BULK AT MOST 1048576: true; the input reads as it did. -/
def fnExactValidNormalUptoRow : OpenClaim := { program := "ytbdngmeoohjnoaagreat", sum := "f744d09d0467e470a464a1cd32ef3efd3f9768f4143697bf790c234d249ce22e", func := "loop.example/refcountml/laws.FnExactValidNormal", spec := "fnExactValidNormal", recurses := true, loops := true, apart := false, narrowed := true }
def FnExactValidNormalUptoSaid : Prop := fnExactValidNormalUptoRow.holds Tryz.pinned (OpenSpec.upto fnExactValidNormalSpec)

/-- 'laws.FnExactIsPlain', WHERE WHAT IT READS IS OF BULK AT MOST 1048576: true; the input reads as it did. -/
def fnExactIsPlainUptoRow : OpenClaim := { program := "ytbdngmeoohjnoaagreat", sum := "f744d09d0467e470a464a1cd32ef3efd3f9768f4143697bf790c234d249ce22e", func := "loop.example/refcountml/laws.FnExactIsPlain", spec := "fnExactIsPlain", recurses := true, loops := true, apart := false, narrowed := true }
def FnExactIsPlainUptoSaid : Prop := fnExactIsPlainUptoRow.holds Tryz.pinned (OpenSpec.upto fnExactIsPlainSpec)

/-- 'laws.FnExactCountsOf', WHERE WHAT IT READS IS OF BULK AT MOST 1048576: true; the input reads as it did. -/
def fnExactCountsOfUptoRow : OpenClaim := { program := "ytbdngmeoohjnoaagreat", sum := "f744d09d0467e470a464a1cd32ef3efd3f9768f4143697bf790c234d249ce22e", func := "loop.example/refcountml/laws.FnExactCountsOf", spec := "fnExactCountsOf", recurses := true, loops := true, apart := false, narrowed := true }
def FnExactCountsOfUptoSaid : Prop := fnExactCountsOfUptoRow.holds Tryz.pinned (OpenSpec.upto fnExactCountsOfSpec)

end Rows
end Go.Proofs.YtbdngmeoohjnoaaGreat

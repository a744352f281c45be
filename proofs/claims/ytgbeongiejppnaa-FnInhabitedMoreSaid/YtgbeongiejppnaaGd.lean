/- X1 X2 X3 X4: merged texts. -/
import Derived.Test.YtgbeongiejppnaaGc
import Derived.Test.YtgbeongiejppnaaGa
/- What the exact laws ask of their arguments: contracts of the sizes and of the equality of declarations. -/
namespace Go.Proofs.Ytgbeongiejppnaa
open Go.RowKit Go.BigFrame
def SmallC (cs : List (List Int)) : Prop := cs.length ≤ 1048576 ∧ ∀ i, i < cs.length → (nthL cs i).length ≤ 1048576
def SmallD (ds : List Dec) : Prop := ds.length ≤ 1048576 ∧ ∀ i, i < ds.length → SmallC (nthD ds i).cons
end Go.Proofs.Ytgbeongiejppnaa

/- Copies that the exact laws make of declarations: what they read as. -/
namespace Go.Proofs.Ytgbeongiejppnaa
open Go.RowKit Go.BigFrame
theorem infoC : (Try.prog.info? 32).map (fun i => (i.zero, i.size, i.bytes)) = some (some (.agg #[.slice none 0 0]), 1, 24) := by kernel_rfl
theorem infoD : (Try.prog.info? 30).map (fun i => (i.zero, i.size, i.bytes)) = some (some (.agg #[.int .i64 0, .int .i64 0, .slice none 0 0]), 3, 40) := by kernel_rfl
def OCons (w : World) (L U : Nat) (v : Value) (cs : List (List Int)) : Prop := ∃ V : Nat → Value, Blk w L U 32 v cs.length (cellsOf 1 cs.length fun i _ => V i) ∧ ∀ i, i < cs.length → OInts w L U (V i) (nthL cs i)
def ODecs (w : World) (L U : Nat) (v : Value) (ds : List Dec) : Prop := ∃ V : Nat → Value, Blk w L U 30 v ds.length (cellsOf 3 ds.length fun i j => decCell (nthD ds i) (V i) j) ∧ ∀ i, i < ds.length → OCons w L U (V i) (nthD ds i).cons
theorem OCons.keep {w w' : World} {L U : Nat} {v : Value} {cs : List (List Int)} (h : OCons w L U v cs) (s : Same L U w w') : OCons w' L U v cs := by
  obtain ⟨V, h1, h2⟩ := h
  exact ⟨V, h1.keep s, fun i hi => (h2 i hi).keep s⟩
theorem OCons.wide {w : World} {L U L' U' : Nat} {v : Value} {cs : List (List Int)} (h : OCons w L U v cs) (hL : L' ≤ L) (hU : U ≤ U') : OCons w L' U' v cs := by
  obtain ⟨V, h1, h2⟩ := h
  exact ⟨V, h1.wide hL hU, fun i hi => (h2 i hi).wide hL hU⟩
theorem ODecs.keep {w w' : World} {L U : Nat} {v : Value} {ds : List Dec} (h : ODecs w L U v ds) (s : Same L U w w') : ODecs w' L U v ds := by
  obtain ⟨V, h1, h2⟩ := h
  exact ⟨V, h1.keep s, fun i hi => (h2 i hi).keep s⟩
theorem OCons.cons {w : World} {L U : Nat} {v : Value} {cs : List (List Int)} (h : OCons w L U v cs) : Cons w L U v cs := by
  obtain ⟨V, h1, h2⟩ := h
  obtain ⟨g, e, r⟩ := h1.row
  exact ⟨_, _, V, e, r, fun i hi => (h2 i hi).ints⟩
theorem ODecs.decs {w : World} {L U : Nat} {v : Value} {ds : List Dec} (h : ODecs w L U v ds) : Decs w L U v ds := by
  obtain ⟨V, h1, h2⟩ := h
  obtain ⟨g, e, r⟩ := h1.row
  exact ⟨_, _, V, e, r, fun i hi => (h2 i hi).cons⟩
end Go.Proofs.Ytgbeongiejppnaa

/- Copies that the exact laws make of constructors. -/
namespace Go.Proofs.Ytgbeongiejppnaa
open Go.RowKit Go.BigFrame
end Go.Proofs.Ytgbeongiejppnaa

/- Copies of declarations that the exact laws make. -/
namespace Go.Proofs.Ytgbeongiejppnaa
open Go.RowKit Go.BigFrame
end Go.Proofs.Ytgbeongiejppnaa

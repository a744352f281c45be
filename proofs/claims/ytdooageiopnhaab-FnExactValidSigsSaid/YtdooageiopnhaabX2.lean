/- Copies that the exact laws make of declarations: what they read as. -/
import Derived.Test.YtdooageiopnhaabX1
namespace Go.Proofs.Ytdooageiopnhaab
open Go.RowKit Go.BigFrame
theorem infoC : (Try.prog.info? 116).map (fun i => (i.zero, i.size, i.bytes)) = some (some (.agg #[.slice none 0 0]), 1, 24) := by kernel_rfl
theorem infoD : (Try.prog.info? 95).map (fun i => (i.zero, i.size, i.bytes)) = some (some (.agg #[.int .i64 0, .int .i64 0, .slice none 0 0]), 3, 40) := by kernel_rfl
def OCons (w : World) (L U : Nat) (v : Value) (cs : List (List Int)) : Prop := ∃ V : Nat → Value, Blk w L U 116 v cs.length (cellsOf 1 cs.length fun i _ => V i) ∧ ∀ i, i < cs.length → OInts w L U (V i) (nthL cs i)
def ODecs (w : World) (L U : Nat) (v : Value) (ds : List Dec) : Prop := ∃ V : Nat → Value, Blk w L U 95 v ds.length (cellsOf 3 ds.length fun i j => decCell (nthD ds i) (V i) j) ∧ ∀ i, i < ds.length → OCons w L U (V i) (nthD ds i).cons
theorem OCons.keep {w w' : World} {L U : Nat} {v : Value} {cs : List (List Int)} (h : OCons w L U v cs) (s : Same L U w w') : OCons w' L U v cs := by
  obtain ⟨V, h1, h2⟩ := h
  exact ⟨V, h1.keep s, fun i hi => (h2 i hi).keep s⟩
theorem OCons.wide {w : World} {L U L' U' : Nat} {v : Value} {cs : List (List Int)} (h : OCons w L U v cs) (hL : L' ≤ L) (hU : U ≤ U') : OCons w L' U' v cs := by
  obtain ⟨V, h1, h2⟩ := h
  exact ⟨V, h1.wide hL hU, fun i hi => (h2 i hi).wide hL hU⟩
theorem ODecs.keep {w w' : World} {L U : Nat} {v : Value} {ds : List Dec} (h : ODecs w L U v ds) (s : Same L U w w') : ODecs w' L U v ds := by
  obtain ⟨V, h1, h2⟩ := h
  exact ⟨V, h1.keep s, fun i hi => (h2 i hi).keep s⟩
theorem OCons.cons {w : World} {L U : Nat} {v : Value} {cs : List (List Int)} (h : OCons w L U v cs) : Cons w L U v cs := by
  obtain ⟨V, h1, h2⟩ := h
  obtain ⟨g, e, r⟩ := h1.row
  exact ⟨_, _, V, e, r, fun i hi => (h2 i hi).ints⟩
theorem ODecs.decs {w : World} {L U : Nat} {v : Value} {ds : List Dec} (h : ODecs w L U v ds) : Decs w L U v ds := by
  obtain ⟨V, h1, h2⟩ := h
  obtain ⟨g, e, r⟩ := h1.row
  exact ⟨_, _, V, e, r, fun i hi => (h2 i hi).cons⟩
end Go.Proofs.Ytdooageiopnhaab

/- Contracts of chapter 1: the functions that are called from outside. -/
import Derived.Test.YtbhbefgdbfdmnaaE
namespace Go.Proofs.Ytbhbefgdbfdmnaa
open Go.RowKit
/-- The place of a constructor's fields, step by step. -/
theorem con_place {w : World} {L U : Nat} {ds : List Dec} {A : Option Addr} {n d : Nat} {c : Int} {k : Nat} (hv : Decs w L U (.slice A n d) ds) (hk : k < ds.length) (h : conTy ds c = (k : Int) + 1) (h1 : (cnt ds k : Int) ≤ c) (h2 : c < (cnt ds k : Int) + ((nthD ds k).cons.length : Int)) :
    ∃ b o b2 o2 i c' u, A = some ⟨b, o, none⟩ ∧ b < U ∧ b2 < U ∧ c - (cnt ds k : Int) = (i : Nat) ∧ i < (nthD ds k).cons.length ∧ w.cell? ⟨b, o + k * 3 + 2, none⟩ = some (.slice (some ⟨b2, o2, none⟩) (nthD ds k).cons.length c') ∧ w.cell? ⟨b2, o2 + i, none⟩ = some u ∧ Ints w L U u (flds ds c) := by
  obtain ⟨b, o, A', c', rfl, _, hb2, hc0, hc1, hc2, hu⟩ := hv.at_ hk
  obtain ⟨i, hi⟩ : ∃ i : Nat, c - (cnt ds k : Int) = i := ⟨(c - (cnt ds k : Int)).toNat, by omega⟩
  obtain ⟨b2, o2, A2, c2, rfl, _, hb3, hc4, hu2⟩ := hu.at_ (k := i) (by omega)
  refine ⟨b, o, b2, o2, i, c', _, rfl, hb2, hb3, hi, by omega, hc2, hc4, ?_⟩
  rw [flds_at h, hi, Int.toNat_natCast, nthL_of (by omega)]
  exact hu2
end Go.Proofs.Ytbhbefgdbfdmnaa
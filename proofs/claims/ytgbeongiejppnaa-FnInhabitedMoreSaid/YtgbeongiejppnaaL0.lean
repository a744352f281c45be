/- What a law is told of its code. -/
import Derived.Test.YtgbeongiejppnaaS0
import Derived.OpenShut
namespace Go.Proofs.Ytgbeongiejppnaa
open Go.RowKit Go.BigFrame
/-- What a law is told of its code. -/
def Code_ (w : World) (A : Option Addr) (n c : Nat) : Prop := n ≤ c ∧ c ≤ 9223372036854775807 ∧ Bytes w w.heap.size A n
theorem Code_.keep {w w' : World} {A : Option Addr} {n c : Nat} (h : Code_ w A n c) (hB : Below w.heap.size w w') : Code_ w' A n c := by
  obtain ⟨h1, h2, h3⟩ := h
  refine ⟨h1, h2, fun hn => ?_⟩
  obtain ⟨b, o, e, hl, hx⟩ := h3 hn
  exact ⟨b, o, e, Nat.lt_of_lt_of_le hl hB.size, fun i hi => by obtain ⟨u, hu, hy⟩ := hx i hi; exact ⟨u, hu, (hB.cell hl).trans hy⟩⟩
theorem code_of_row {w : World} {x : Addr} {l c : Nat} {zs : List Int} (hl : l ≤ c) (hm : c ≤ maxLen) (hz : zs.length = c) (hcell : ∀ i, i < zs.length → w.cell? (x.add i) = some (.int .u8 (zs.getD i 0))) (hwz : ∀ n ∈ zs, (Lit.int .u8 n).wf = true) : Code_ w (some x) l c := by
  refine ⟨hl, hm, fun hn => ?_⟩
  obtain ⟨b, o, spot⟩ := x
  have h0 := hcell 0 (by omega)
  have hspot : spot = none := by simpa [Addr.add] using World.cell?_spot h0
  subst hspot
  refine ⟨b, o, rfl, World.block_lt_of_cell? w _ (show w.cell? ⟨b, o, none⟩ = _ by simpa [Addr.add] using h0), fun i hi => ?_⟩
  have hc := hcell i (by omega)
  have hw := hwz (zs[i]'(by omega)) (List.getElem_mem _)
  have hb := bounds_u8 hw
  refine ⟨(zs[i]'(by omega)).toNat, by omega, ?_⟩
  have e : (⟨b, o, none⟩ : Addr).add i = ⟨b, o + i, none⟩ := by unfold Addr.add; split <;> simp_all
  rw [e] at hc
  rw [hc, List.getD_eq_getElem?_getD, List.getElem?_eq_getElem (by omega), Option.getD_some, Int.toNat_of_nonneg (by omega)]
end Go.Proofs.Ytgbeongiejppnaa

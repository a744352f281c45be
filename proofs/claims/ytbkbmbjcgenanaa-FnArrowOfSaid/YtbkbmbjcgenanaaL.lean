/- The draws of chapter 1, and the first laws: their walks. -/
import Derived.Test.YtbkbmbjcgenanaaD2
import Derived.Test.YtbkbmbjcgenanaaG
import Derived.OpenShut
namespace Go.Proofs.Ytbkbmbjcgenanaa
open Go.RowKit Go.BigFrame
/-- What a law is told of its code. -/
def Code_ (w : World) (A : Option Addr) (n c : Nat) : Prop := n ≤ c ∧ c ≤ 9223372036854775807 ∧ Bytes w w.heap.size A n
/-- What a draw of declarations gives. -/
def Drew (w : World) (e : Ending) (w' : World) : Prop := ∃ v ds, e = .returned v ∧ ds.length ≤ 6 ∧ Decs w' w.heap.size w'.heap.size v ds ∧ Below w.heap.size w w'
theorem Code_.keep {w w' : World} {A : Option Addr} {n c : Nat} (h : Code_ w A n c) (hB : Below w.heap.size w w') : Code_ w' A n c := by
  obtain ⟨h1, h2, h3⟩ := h
  refine ⟨h1, h2, fun hn => ?_⟩
  obtain ⟨b, o, e, hl, hx⟩ := h3 hn
  exact ⟨b, o, e, Nat.lt_of_lt_of_le hl hB.size, fun i hi => by obtain ⟨u, hu, hy⟩ := hx i hi; exact ⟨u, hu, (hB.cell hl).trans hy⟩⟩
theorem code_of_row {w : World} {x : Addr} {l c : Nat} {zs : List Int} (hl : l ≤ c) (hm : c ≤ maxLen) (hz : zs.length = c) (hcell : ∀ i, i < zs.length → w.cell? (x.add i) = some (.int .u8 (zs.getD i 0))) (hwz : ∀ n ∈ zs, (Lit.int .u8 n).wf = true) : Code_ w (some x) l c := by
  refine ⟨hl, hm, fun hn => ?_⟩
  obtain ⟨b, o, spot⟩ := x
  have h0 := hcell 0 (by omega)
  have hspot : spot = none := by simpa [Addr.add] using World.cell?_spot h0
  subst hspot
  refine ⟨b, o, rfl, World.block_lt_of_cell? w _ (show w.cell? ⟨b, o, none⟩ = _ by simpa [Addr.add] using h0), fun i hi => ?_⟩
  have hc := hcell i (by omega)
  have hw := hwz (zs[i]'(by omega)) (List.getElem_mem _)
  have hb := bounds_u8 hw
  refine ⟨(zs[i]'(by omega)).toNat, by omega, ?_⟩
  have e : (⟨b, o, none⟩ : Addr).add i = ⟨b, o + i, none⟩ := by unfold Addr.add; split <;> simp_all
  rw [e] at hc
  rw [hc, List.getD_eq_getElem?_getD, List.getElem?_eq_getElem (by omega), Option.getD_some, Int.toNat_of_nonneg (by omega)]
set_option maxHeartbeats 400000 in
theorem drawValidTypes (A : Option Addr) (n c : Nat) (w : World) (h : Code_ w A n c) :
    Calls Try.prog 21 #[.slice A n c] w (Drew w) := by
  go_enter Try.func21, Try.ntmps21
  go_wp2_with fail
  refine (newReader_any A n c w.heap.size w h.1 h.2.1 h.2.2 (Nat.le_refl _)).mono ?_
  rintro e w1 ⟨g, rfl, hr, hB, hg⟩
  go_wp2_with fail
  refine (anyDecls_any g 0 w1 hr (by omega)).mono ?_
  rintro e w2 ⟨v, ds, rfl, hl, hd, _, ho⟩
  have hz := hB.size
  have hf : Drew w (.returned v) w2 := ⟨v, ds, rfl, hl, hd.wide hz (Nat.le_refl _), hB.grown ho hz (fun k e => by injection e; omega)⟩
  have HF := Lib.hid hf
  clear hf hd ho
  go_wp2_with fail
  go_ret
  exact HF.out
end Go.Proofs.Ytbkbmbjcgenanaa

/- The draws of chapter 1, and the first laws: their walks. -/
import Derived.Test.YtbhbefgdbfdmnaaD2
import Derived.Test.YtbhbefgdbfdmnaaG
import Derived.Test.YtbhbefgdbfdmnaaL0
namespace Go.Proofs.Ytbhbefgdbfdmnaa
open Go.RowKit Go.BigFrame
/-- What a draw of declarations gives. -/
def Drew (w : World) (e : Ending) (w' : World) : Prop := ∃ v ds, e = .returned v ∧ ds.length ≤ 6 ∧ Decs w' w.heap.size w'.heap.size v ds ∧ Below w.heap.size w w'
set_option maxHeartbeats 400000 in
theorem drawValidTypes (A : Option Addr) (n c : Nat) (w : World) (h : Code_ w A n c) :
    Calls Try.prog 4 #[.slice A n c] w (Drew w) := by
  go_enter Try.func4, Try.ntmps4
  go_wp2_with fail
  refine (newReader_any A n c w.heap.size w h.1 h.2.1 h.2.2 (Nat.le_refl _)).mono ?_
  rintro e w1 ⟨g, rfl, hr, hB, hg⟩
  go_wp2_with fail
  refine (anyDecls_any g 0 w1 hr (by omega)).mono ?_
  rintro e w2 ⟨v, ds, rfl, hl, hd, _, ho⟩
  have hz := hB.size
  have hf : Drew w (.returned v) w2 := ⟨v, ds, rfl, hl, hd.wide hz (Nat.le_refl _), hB.grown ho hz (fun k e => by injection e; omega)⟩
  have HF := Lib.hid hf
  clear hf hd ho
  go_wp2_with fail
  go_ret
  exact HF.out
end Go.Proofs.Ytbhbefgdbfdmnaa

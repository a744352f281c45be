/- The draws of chapter 1, and the first laws: their walks. -/
import Derived.Test.YtgbeongiejppnaaD2
import Derived.Test.YtgbeongiejppnaaG
import Derived.Test.YtgbeongiejppnaaL0
namespace Go.Proofs.Ytgbeongiejppnaa
open Go.RowKit Go.BigFrame
/-- What a draw of declarations gives. -/
def Drew (w : World) (e : Ending) (w' : World) : Prop := ∃ v ds, e = .returned v ∧ ds.length ≤ 6 ∧ Decs w' w.heap.size w'.heap.size v ds ∧ Below w.heap.size w w'
end Go.Proofs.Ytgbeongiejppnaa

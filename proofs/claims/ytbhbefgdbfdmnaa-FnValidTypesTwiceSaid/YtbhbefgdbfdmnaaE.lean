/- Contracts of chapter 1: copies, constructors of a type. -/
import Derived.Test.YtbhbefgdbfdmnaaD
import Derived.Test.YtbhbefgdbfdmnaaOw
import Derived.Laws.AppendOwn
import Derived.Laws.AppendOwnNone
import Derived.Maps.AppendAt
namespace Go.Proofs.Ytbhbefgdbfdmnaa
open Go.RowKit
theorem infoInt : (Try.prog.info? 3).map (fun i => (i.zero, i.size, i.bytes)) = some (some (.int .i64 0), 1, 8) := by kernel_rfl
end Go.Proofs.Ytbhbefgdbfdmnaa
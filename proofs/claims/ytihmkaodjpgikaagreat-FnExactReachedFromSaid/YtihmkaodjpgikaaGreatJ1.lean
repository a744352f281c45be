/- Contracts of chapter 1: inhabited types. -/
import Derived.Test.YtihmkaodjpgikaaGreatJ0
import Derived.Test.YtihmkaodjpgikaaGreatGa
import Derived.Test.YtihmkaodjpgikaaGreatG
namespace Go.Proofs.YtihmkaodjpgikaaGreat
open Go.RowKit Go.BigFrame
end Go.Proofs.YtihmkaodjpgikaaGreat

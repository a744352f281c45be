/- What a step makes: spec's side, all but choices. -/
import Derived.Test.YtgiehkiicmnchaaQf
set_option linter.unusedVariables false
set_option linter.unusedSimpArgs false
namespace Go.Proofs.Ytgiehkiicmnchaa
open Go
section
variable {D : List DM} {R : List RM} (hv : CV D R)
include hv
end
end Go.Proofs.Ytgiehkiicmnchaa

/- Turning a cycle: plain functions. -/
import Derived.Test.YtejbokelbapfmaaMenuM
set_option linter.unusedVariables false
namespace Go.Proofs.Ytejbokelbapfmaa

def turnL (m f k b : Int) : (Int × Int × Int) × Int :=
  if badC m f k then ((0, 0, 0), 1) else ((m, (f + b) % m, k), 0)

end Go.Proofs.Ytejbokelbapfmaa

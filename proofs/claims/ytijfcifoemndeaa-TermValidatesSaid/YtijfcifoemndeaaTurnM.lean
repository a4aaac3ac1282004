/- Turning a cycle: plain functions. -/
import Derived.Test.YtijfcifoemndeaaMenuM
set_option linter.unusedVariables false
namespace Go.Proofs.Ytijfcifoemndeaa

def turnL (m f k b : Int) : (Int × Int × Int) × Int :=
  if badC m f k then ((0, 0, 0), 1) else ((m, (f + b) % m, k), 0)

end Go.Proofs.Ytijfcifoemndeaa

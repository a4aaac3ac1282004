/- Turning a cycle: plain functions. -/
import Derived.Test.YtilolaednbcaoaaMenuM
set_option linter.unusedVariables false
namespace Go.Proofs.Ytilolaednbcaoaa

def turnL (m f k b : Int) : (Int × Int × Int) × Int :=
  if badC m f k then ((0, 0, 0), 1) else ((m, (f + b) % m, k), 0)

end Go.Proofs.Ytilolaednbcaoaa

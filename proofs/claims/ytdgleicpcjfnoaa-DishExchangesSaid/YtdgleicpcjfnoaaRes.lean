/- What a function answers that makes no memory of the caller's. -/
import Derived.Test.YtdgleicpcjfnoaaBase
import Derived.Deep.RegionWith
set_option linter.unusedVariables false
namespace Go.Proofs.Ytdgleicpcjfnoaa
open Go.RowKit

def IntR (w : World) (v : Int) (en : Ending) (w' : World) : Prop := Below w.heap.size w w' ∧ en = .returned (.int .i64 v)
def BoolR (w : World) (v : Bool) (en : Ending) (w' : World) : Prop := Below w.heap.size w w' ∧ en = .returned (.bool v)

end Go.Proofs.Ytdgleicpcjfnoaa

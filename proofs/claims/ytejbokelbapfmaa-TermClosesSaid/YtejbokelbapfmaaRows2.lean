/- Slices of int that the call itself made (see RowsI). -/
import Derived.Test.YtejbokelbapfmaaValid
import Derived.Test.YtejbokelbapfmaaRowsI

/- Slices of int that the call itself made (see RowsI). -/
import Derived.Test.YtilolaednbcaoaaValid
import Derived.Test.YtilolaednbcaoaaRowsI

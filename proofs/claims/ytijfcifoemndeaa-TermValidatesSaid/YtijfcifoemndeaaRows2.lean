/- Slices of int that the call itself made (see RowsI). -/
import Derived.Test.YtijfcifoemndeaaValid
import Derived.Test.YtijfcifoemndeaaRowsI

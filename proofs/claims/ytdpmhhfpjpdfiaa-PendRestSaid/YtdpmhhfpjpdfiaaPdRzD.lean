/-
  PendRest.
-/
import Derived.Test.YtdpmhhfpjpdfiaaDU
import Derived.Test.YtdpmhhfpjpdfiaaDV
namespace Go.Proofs.Ytdpmhhfpjpdfiaa
theorem pendRest_holds : Rows.PendRestSaid := pendRest_of pend_K

end Go.Proofs.Ytdpmhhfpjpdfiaa

/-
  PendTells.
-/
import Derived.Test.YtdpmhhfpjpdfiaaCU
namespace Go.Proofs.Ytdpmhhfpjpdfiaa
theorem pendTells_holds : Rows.PendTellsSaid := pendTells_of pend_K

end Go.Proofs.Ytdpmhhfpjpdfiaa

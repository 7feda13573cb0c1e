/-
  With room for all each message comes once, in order, whenever they are drained; with less the first ones come, and a Whole behind them; then the queue is as at first: so the landed subs does, and it ends without a panic (P13.3). Conditions: those of the statement alone.
-/
import Derived.Test.YtfcoidpkhggnpaaSbRo
import Derived.Test.YtfcoidpkhggnpaaSbL
namespace Go.Proofs.Ytfcoidpkhggnpaa

theorem subsOnce_holds : Rows.SubsOnceSaid := subs_K.elim subsOnce_of

end Go.Proofs.Ytfcoidpkhggnpaa

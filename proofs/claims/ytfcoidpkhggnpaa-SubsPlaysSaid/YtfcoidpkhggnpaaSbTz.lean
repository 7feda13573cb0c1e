/-
  What any deeds come to, one behind the other, of a queue of any room: the landed subs tells what the reference's queue tells, and ends without a panic (P13.1). Conditions: those of the statement alone.
-/
import Derived.Test.YtfcoidpkhggnpaaSbTo
import Derived.Test.YtfcoidpkhggnpaaSbL
namespace Go.Proofs.Ytfcoidpkhggnpaa

theorem subsPlays_holds : Rows.SubsPlaysSaid := subs_K.elim subsPlays_of

end Go.Proofs.Ytfcoidpkhggnpaa

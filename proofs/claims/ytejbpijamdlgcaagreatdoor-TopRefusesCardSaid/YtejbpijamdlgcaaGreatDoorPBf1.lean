/-
  Lemmas of this seat; no claim.
-/
import Derived.Test.YtejbpijamdlgcaaGreatDoorPNf1
import Derived.Test.YtejbpijamdlgcaaGreatDoorBMathP
set_option linter.unusedVariables false
set_option linter.unusedSimpArgs false
open Go.World renaming cell?_alloc_some→au
namespace Go.Proofs.YtejbpijamdlgcaaGreatDoor
open Go.ChangeShapes Go.WideShapes Go.ChangeAt Go.RowKit Go.Sort
attribute [local go_sem] au
abbrev ab7 (A:Option Addr) (n c:Nat) (B:Option Addr) (m d:Nat):Value:= .agg #[.slice A n c,.slice B m d]
theorem I4 {l:List Rn} {k:Nat} {r:Rn} (h:l[k]? =some r) (p:Rn->Bool):(l.take (k+1)).all p=((l.take k).all p&&p r):=by
 rw[List.take_add_one,h,List.all_append];simp
abbrev Vn (n:Nat):Value:= .int .u32 (n:Int)
def yZ (w W:World) (v:Value) (l:List Nat):Prop:=oW 24 1 w W v l.length (l.map Vn)
theorem yZ.ext {w W W':World} {v:Value} {l:List Nat} (h:yZ w W v l) (a:Ext W W'):yZ w W' v l:=oW.ext h a
theorem yZ.open {w W:World} {v:Value} {l:List Nat} (h:yZ w W v l):∃A c,v= .slice A l.length c/\l.length<=c/\Row W A (l.map Vn):=by
 obtain⟨A,c,rfl,a⟩:=oW.form h;exact⟨A,c,rfl,a,oW.row h⟩
end Go.Proofs.YtejbpijamdlgcaaGreatDoor

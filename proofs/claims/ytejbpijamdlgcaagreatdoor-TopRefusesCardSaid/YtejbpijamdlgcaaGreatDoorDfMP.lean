/-
  Changes of texts, in plain lists of characters; texts as bytes and back; no memory; no claim stands here.
-/
import Derived.Test.YtejbpijamdlgcaaGreatDoorPMn1
set_option linter.unusedVariables false
set_option linter.unusedSimpArgs false
namespace Go.Proofs.YtejbpijamdlgcaaGreatDoor
open Go.Lib
theorem adZ (l:List UInt8) (a:l≠[]):Qx ((decodeL l).1:Int):=by
 rw[decodeL_N];have k0:=(l.getD 0 0).toNat_lt;have j:=(l.getD 1 0).toNat_lt;have i:=(l.getD 2 0).toNat_lt;have f:=(l.getD 3 0).toNat_lt;unfold Qx;rcases decodeN_shape l.length (l.getD 0 0).toNat (l.getD 1 0).toNat (l.getD 2 0).toNat (l.getD 3 0).toNat with⟨c,e⟩|⟨c1,c2,c3,cv,e⟩|⟨c1,c2,c3,c4,cv,cs,e⟩|⟨c1,c2,c3,c4,c5,cv,cw,e⟩|e
 all_goals rw[e];dsimp only;omega
theorem LY:∀(k:Nat) (l:List UInt8),l.length<=k->∀n∈oJ l,Qx (n:Int)
 |0,l,h,n,e=>by
  have:l=[]:=List.length_eq_zero_iff.1 ω;subst this;simp[vQ] at e
 |k+1,l,h,n,e=>by
  by_cases a:l=[]
  ·subst a;simp[vQ] at e
  ·rw[uh l a] at e
   rcases List.mem_cons.1 e with rfl|e
   ·exact adZ l a
   ·have f:0<(decodeL l).2:=decodeL_width l
    exact LY k (l.drop (decodeL l).2) (by rw[List.length_drop];have:=List.length_pos_iff.2 a;omega) n e
end Go.Proofs.YtejbpijamdlgcaaGreatDoor

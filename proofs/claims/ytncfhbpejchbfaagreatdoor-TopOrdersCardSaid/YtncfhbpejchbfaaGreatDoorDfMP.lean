/-
  Changes of texts, in plain lists of characters; texts as bytes and back; no memory; no claim stands here.
-/
import Derived.Test.YtncfhbpejchbfaaGreatDoorPMn1
set_option linter.unusedVariables false
set_option linter.unusedSimpArgs false
namespace Go.Proofs.YtncfhbpejchbfaaGreatDoor
open Go.Lib
theorem acf (l:List UInt8) (a:l≠[]):Oe ((decodeL l).1:Int):=by
 rw[decodeL_N];have k0:=(l.getD 0 0).toNat_lt;have j:=(l.getD 1 0).toNat_lt;have i:=(l.getD 2 0).toNat_lt;have f:=(l.getD 3 0).toNat_lt;unfold Oe;rcases decodeN_shape l.length (l.getD 0 0).toNat (l.getD 1 0).toNat (l.getD 2 0).toNat (l.getD 3 0).toNat with⟨c,e⟩|⟨c1,c2,c3,cv,e⟩|⟨c1,c2,c3,c4,cv,cs,e⟩|⟨c1,c2,c3,c4,c5,cv,cw,e⟩|e
 all_goals rw[e];dsimp only;omega
theorem Jo:∀(k:Nat) (l:List UInt8),l.length<=k->∀n∈jK l,Oe (n:Int)
 |0,l,h,n,hn=>by
  have:l=[]:=List.length_eq_zero_iff.1 ω;subst this;simp[qK] at hn
 |k+1,l,h,n,hn=>by
  by_cases a:l=[]
  ·subst a;simp[qK] at hn
  ·rw[oH l a] at hn
   rcases List.mem_cons.1 hn with rfl|hn
   ·exact acf l a
   ·have e:0<(decodeL l).2:=decodeL_width l
    exact Jo k (l.drop (decodeL l).2) (by rw[List.length_drop];have:=List.length_pos_iff.2 a;omega) n hn
end Go.Proofs.YtncfhbpejchbfaaGreatDoor

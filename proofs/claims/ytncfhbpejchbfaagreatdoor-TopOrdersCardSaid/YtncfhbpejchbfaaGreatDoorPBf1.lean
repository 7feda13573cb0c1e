/-
  Lemmas of this seat; no claim.
-/
import Derived.Test.YtncfhbpejchbfaaGreatDoorPNf1
import Derived.Test.YtncfhbpejchbfaaGreatDoorBMathP
set_option linter.unusedVariables false
set_option linter.unusedSimpArgs false
set_option maxRecDepth 100000
set_option maxHeartbeats 4000000
open Bool renaming false_and→et
open Go.Lib renaming hid→ac
open Go.World renaming cell?_alloc_some→ah
open Go.Proofs.Tryz
open Go.Proofs.Tryz renaming prog→pg
namespace Go.Proofs.YtncfhbpejchbfaaGreatDoor
open Go.ChangeShapes Go.WideShapes Go.ChangeAt Go.RowKit Go.Sort
attribute [local go_sem] ah
abbrev Si (A:Option Addr) (n c:Nat) (B:Option Addr) (m d:Nat):Value:= .agg #[.slice A n c,.slice B m d]
def qp (rs:List Rn) (m:Nat):Bool:=decide (rs.length<=40/\m<=40)&&rs.all λr=>decide (r.t.length<=200)
theorem zV {l:List Rn} {k:Nat} {r:Rn} (h:l[k]? =some r) (p:Rn->Bool):(l.take (k+1)).all p=((l.take k).all p&&p r):=by
 rw[List.take_add_one,h,List.all_append];simp
theorem X9 {l:List Rn} {r:Rn} (hm:r∈l) (h:200<r.t.length) (m:Nat):qp l m=false:=by
 unfold qp;rw[show(l.all λr=>decide (r.t.length<=200))=false from ?_,Bool.and_false];rw[List.all_eq_false];exact⟨r,hm,by simp;omega⟩
theorem UJ (A:Option Addr) (n c:Nat) (B:Option Addr) (m d:Nat) (rs:List Rn) (w:World) (hv:RnS w A rs) (hn:rs.length=n):
  Calls pg 6 #[Si A n c B m d] w λe w'=>e= .returned (Vi (if qp rs m then 1 else 0))/\Ext w w':=by
 obtain⟨z,f⟩:∃z:Int,(if qp rs m then 1 else 0)=z:=⟨_,rfl⟩;rw[f];replace f:=ac f;replace hn:=ac hn;replace hv:=ac hv;by_cases X:40<n
 ·have j:=ac (show qp rs m=false by unfold qp;rw[hn.out,decide_eq_false ω,et])
  have M:decide ((40:Int)<(n:Int))=true:=by rw[decide_eq_true_eq];omega
  go_enter func6,ntmps6;go_wp2;go_ret;exact⟨l7 (by rw[<-f.out,j.out];rfl),(Ext.refl _).alloc _⟩
 ·have M:decide ((40:Int)<(n:Int))=false:=by rw[decide_eq_false_iff_not];omega
  by_cases U:40<m
  ·have j:=ac (show qp rs m=false by unfold qp;rw[hn.out,decide_eq_false ω,et])
   have K:decide ((40:Int)<(m:Int))=true:=by rw[decide_eq_true_eq];omega
   go_enter func6,ntmps6;go_wp2;go_ret;exact⟨l7 (by rw[<-f.out,j.out];rfl),(Ext.refl _).alloc _⟩
  ·have K:decide ((40:Int)<(m:Int))=false:=by rw[decide_eq_false_iff_not];omega
   go_enter func6,ntmps6;go_wp2;have x0:Ext w (w.alloc (.cells #[.slice A n c,.slice B m d] 36)):=(Ext.refl _).alloc _;have Y:(w.alloc (.cells #[.slice A n c,.slice B m d] 36)).cell? ⟨w.heap.size,0,none⟩=some (.slice A n c):=σ
   generalize w.alloc (.cells #[.slice A n c,.slice B m d] 36)=w0 at*;generalize w.heap.size=O at*
   go_loopw [3] (λi W=>∃(k:Nat),k<=n/\i=Vi k/\Hid ((rs.take k).all (λr=>decide (r.t.length<=200))=true)/\W=w0) (λi _=>n-(intOf i).toNat)
   case atStart=>exact⟨0,Nat.zero_le _,rfl,ac ι,rfl⟩
   case round=>
        obtain⟨k,Q,rfl,a,rfl⟩:=hrel;by_cases I:k<n
        ·obtain⟨b,o,r,rfl,u,J⟩:=hv.out.at (k:=k) (by rw[hn.out];exact I)
         obtain⟨c0,c1,c2,c3,c4,c5,c6⟩:=J.ext x0;have H:=ac (zV u λr=>decide (r.t.length<=200));by_cases q:200<r.t.length
         ·have j:=ac (X9 (List.mem_of_getElem? u) q m)
          clear u J;go_wp2;go_ret;exact⟨l7 (by rw[<-f.out,j.out];rfl),x0⟩
         ·have N:=ac (show(rs.take (k+1)).all (λr=>decide (r.t.length<=200))=true by rw[H.out,a.out,Bool.true_and];exact decide_eq_true ω)
          clear u J;go_wp2
          go_roundw
          case rel=>exact⟨k+1,ω,ν,N,trivial⟩
          case measure=>simp[intOf];omega
        ·rw[show rs.take k=rs from List.take_of_length_le (by rw[hn.out];omega)] at a
         have j:=ac (show qp rs m=true by unfold qp;rw[a.out,hn.out,Bool.and_true];exact decide_eq_true ω);go_wp2;go_ret;exact⟨l7 (by rw[<-f.out,j.out];rfl),x0⟩
abbrev Vn (n:Nat):Value:= .int .u32 (n:Int)
def uZ (w W:World) (v:Value) (l:List Nat):Prop:=jQ 30 1 w W v l.length (l.map Vn)
theorem uZ.ext {w W W':World} {v:Value} {l:List Nat} (h:uZ w W v l) (a:Ext W W'):uZ w W' v l:=jQ.ext h a
theorem uZ.open {w W:World} {v:Value} {l:List Nat} (h:uZ w W v l):∃A c,v= .slice A l.length c/\l.length<=c/\Row W A (l.map Vn):=by
 obtain⟨A,c,rfl,a⟩:=jQ.form h;exact⟨A,c,rfl,a,jQ.row h⟩
end Go.Proofs.YtncfhbpejchbfaaGreatDoor

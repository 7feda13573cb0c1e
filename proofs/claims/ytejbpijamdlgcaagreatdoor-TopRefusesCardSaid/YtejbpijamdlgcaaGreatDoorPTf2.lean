/-
  Rows of ints; no claim stands here.
-/
import Derived.Test.YtejbpijamdlgcaaGreatDoorPTf1
set_option linter.unusedVariables false
set_option linter.unusedSimpArgs false
open Go renaming World→aj
open Go.World.ownsRow renaming lt→dM
open List renaming length_map→gI
namespace Go.Proofs.YtejbpijamdlgcaaGreatDoor
open Go.ChangeShapes Go.WideShapes Go.ChangeAt Go.RowKit Go.Sort
attribute [local go_sem] World.cell?_alloc_some
theorem aaE:(Tryz.prog.info? 3).map (λi=>(i.zero,i.size,i.bytes))=some (some (.int .i64 0),1,8):=κ
def ZS (w:aj) (A:Option Addr) (l:List Int):Prop:=Row w A (l.map Vi)
theorem ZS.at {w:aj} {A:Option Addr} {l:List Int} (h:ZS w A l) {k:Nat} {z:Int} (a:l[k]? =some z):∃b o,A=some ⟨b,o,none⟩/\w.cell? ⟨b,o+k,none⟩=some (Vi z):=by
 have f:=qC a;obtain⟨b,o,e,i⟩:=h (by rw[gI];omega);exact⟨b,o,e,i k _ (by rw[List.getElem?_map,a];rfl)⟩
theorem JK (l:List Int):∀u∈l.map Vi,u.oneCell'=true:=by intro u a;obtain⟨b,_,rfl⟩:=List.mem_map.1 a;rfl
theorem ZS.new (w:aj) (z:Int):ZS (w.alloc (.cells #[.int .i64 z] 3)) (some ⟨w.heap.size,0,none⟩) [z]:=Row.new w #[.int .i64 z] 3
def qE (w W:aj) (v:Value) (l:List Int):Prop:=oW 3 1 w W v l.length (l.map Vi)
theorem qE.nil (w W:aj):qE w W (.slice none 0 0) []:=oW.nil _ _ _ _
theorem qE.ext {w W W':aj} {v:Value} {l:List Int} (h:qE w W v l) (a:Ext W W'):qE w W' v l:=oW.ext h a
theorem qE.lt {w W:aj} {v:Value} {l:List Int} (h:qE w W v l):∀k,v.ownBlock=some k->w.heap.size<=k/\k<W.heap.size:=dM h
theorem qE.open {w W:aj} {v:Value} {l:List Int} (h:qE w W v l):∃A c,v= .slice A l.length c/\l.length<=c/\ZS W A l:=by
 obtain⟨A,c,rfl,a⟩:=oW.form h;exact⟨A,c,rfl,a,oW.row h⟩
theorem ain (w0 w:aj) (z:TypeId) (v:Value) (l:List Int) (f:qE w0 w v l) (H:w0.heap.size<=w.heap.size) (A:Option Addr) (m c:Nat) (r:List Int) (J:r.length=m) (I:ZS w A r) (O:l.length+r.length<=17000000000000):
  ∃a w',(Builtin.append_ #[23,23] z #[v,.slice A m c]).run Tryz.prog w= .ok a w'/\qE w0 w' a (l++r)/\w.grownBy w' v.ownBlock/\(a.ownBlock=v.ownBlock\/a.ownBlock=some w.heap.size):=by
 obtain⟨i,hi,u,q,j⟩:=info_parts aaE;subst J;obtain⟨a,w',e,N,M,K⟩:=ql (P:=Tryz.prog) w w0.heap.size 23 z 3 i _ 1 8 Tryz.underlying23 hi u q j rfl ω v l.length _ f A r.length c (r.map Vi) (by rw[gI,Nat.mul_one]) I (JK r)
  (by unfold maxLen;omega) ω H
 refine⟨a,w',e,?_,M,K⟩;unfold qE oW;rw[List.map_append,List.length_append];exact N
end Go.Proofs.YtejbpijamdlgcaaGreatDoor

/-
  Worlds in which some blocks have turned and no others; no claim stands here.
-/
import Derived.Test.YtncfhbpejchbfaaGreatDoorPAf1
set_option linter.unusedVariables false
set_option linter.unusedSimpArgs false
open Go renaming World→ae
open Go.RowKit.Below renaming block→av,os→ef,output→dI,tape→dS
open Nat renaming le_trans→az,lt_of_lt_of_le→aV
namespace Go.Proofs.YtncfhbpejchbfaaGreatDoor
open Go.ChangeShapes Go.WideShapes Go.ChangeAt Go.RowKit Go.Sort
def RX (p:Nat) (W W':ae):Prop:=W.grownBy W' (some p)
variable {B p q:Nat} {W W' w:ae} {v:Value}
theorem RX.refl (p:Nat) (W:ae):RX p W W:=⟨rfl,rfl,rfl,Nat.le_refl _,λ_ _ _=>rfl⟩
theorem RX.trans {p:Nat} {a b c:ae} (h:RX p a b) (k:RX p b c):RX p a c:=
 ⟨k.os.trans h.os,k.tape.trans h.tape,k.output.trans h.output,az h.size k.size,λj f e=>(k.block j (aV f h.size) e).trans (h.block j f e)⟩
theorem RX.ext {a b:ae} (h:Ext a b):RX p a b:=⟨ef h,dS h,dI h,h.size,λk e _=>av h k e⟩
theorem RX.down {w0:ae} (a:Ext w0 W) (f:w0.heap.size<=p) (h:RX p W W'):Ext w0 W':=RowKit.Below.grown a h a.size (λk e=>by injection e with e;omega)
theorem RX.cell {p q j:Nat} {W W':ae} {x:Value} (h:RX p W W') (i:W.cell? ⟨q,j,none⟩=some x) (f:q≠p):W'.cell? ⟨q,j,none⟩=some x:=by
 rw[World.cell?_of_block (w:=W) (w':=W') (a:=⟨q,j,none⟩) (h.block q (World.block_lt_of_cell? _ _ i) (λe=>f (by injection e)))];exact i
theorem RX.blk {o:Obj} (h:RX p W W') (f:W.heap[q]? =some o) (a:q≠p):W'.heap[q]? =some o:=by
 rw[h.block q (Array.getElem?_eq_some_iff.1 f).1 (λe=>a (by injection e))];exact f
theorem RX.set (h:RX p W W') (j:Nat) (u:Value) (f:W.heap.size<=q\/q=p):RX p W (W'.setCell ⟨q,j,none⟩ u):=by
 refine⟨by rw[<-h.os];rfl,by rw[<-h.tape];rfl,by rw[<-h.output];rfl,by have:=h.size;simpa[World.setCell] using this,λk i a=>?_⟩;rw[heap_setCell_other _ _ _ _ ?_,h.block k i a];intro e;simp only at e;subst e;rcases f with g|g
 ·omega
 ·exact a (by rw[g])
structure GX (B p q:Nat) (w W:ae):Prop where
 os:W.os=w.os
 tape:W.tape=w.tape
 output:W.output=w.output
 size:B<=W.heap.size
 block:∀k,k<B->k≠p->k≠q->W.heap[k]? =w.heap[k]?
theorem GX.refl (B p q:Nat) (w:ae) (h:B<=w.heap.size):GX B p q w w:=⟨rfl,rfl,rfl,h,λ_ _ _ _=>rfl⟩
theorem GX.on {row:Option Nat} (h:GX B p q w W) (g:W.grownBy W' row) (u:∀k,row=some k->B<=k\/k=p\/k=q):GX B p q w W':=by
 refine⟨g.os.trans h.os,g.tape.trans h.tape,g.output.trans h.output,az h.size g.size,λk f j i=>?_⟩;rw[g.block k (aV f h.size) ?_,h.block k f j i];intro e;rcases u k e.symm with a|a|a
 ·omega
 ·exact j a
 ·exact i a
theorem GX.rx (h:GX B p q w W) (g:RX p W W'):GX B p q w W':=h.on g (λk e=>by injection e with e;exact .inr (.inl e.symm))
theorem GX.set {B p q j:Nat} {w W:ae} (h:GX B p q w W) (u:Value):GX B p q w (W.setCell ⟨q,j,none⟩ u):=h.on (RX.set (RX.refl q W) j u (.inr rfl)) (λk e=>by injection e with e;exact .inr (.inr e.symm))
theorem GX.down {w0:ae} (h:GX B p q w W) (a:Ext w0 w) (j:w.heap.size<=B) (i:w0.heap.size<=p) (f:w0.heap.size<=q):Ext w0 W:=by
 refine⟨h.os.trans (ef a),h.tape.trans (dS a),h.output.trans (dI a),by have:=a.size;have:=h.size;omega,λk e=>?_⟩;rw[h.block k (by have:=a.size;omega) ω ω];exact av a k e
theorem GX.ag3 {i Z:ae} (h:GX B p q i Z) (a:Ext W i) (u:W.heap.size<=B) (z:W.heap.size<=q):RX p W Z:=by
 refine⟨h.os.trans (ef a),h.tape.trans (dS a),h.output.trans (dI a),az u h.size,λk j f=>?_⟩;rw[h.block k ω (λe=>f (by rw[e])) ω];exact av a k j
def far (B:Nat) (v:Value):Prop:=∀k,v.ownBlock=some k->B<=k
theorem far.nil (B:Nat):far B (.slice none 0 0):=λk a=>by cases a
theorem far.mono {C:Nat} (h:far B v) (e:C<=B):far C v:=λk a=>az e (h k a)
theorem far.ne {k:Nat} (h:far B v) (a:k<B):v.ownBlock=none\/v.ownBlock≠some k:= .inr λe=>by have:=h k e;omega
theorem far.on {n:Nat} {f:Value} (h:far B v) (b:f.ownBlock=v.ownBlock\/f.ownBlock=some n) (hn:B<=n):far B f:=λk a=>by
 rcases b with e|e
 ·exact h k (by rw[<-e];exact a)
 ·rw[e] at a;injection a with a;omega
end Go.Proofs.YtncfhbpejchbfaaGreatDoor

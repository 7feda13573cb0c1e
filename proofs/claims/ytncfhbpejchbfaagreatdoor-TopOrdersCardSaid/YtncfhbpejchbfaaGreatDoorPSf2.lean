/-
  Lemmas of this seat; no claim.
-/
import Derived.Test.YtncfhbpejchbfaaGreatDoorPSf1
set_option linter.unusedVariables false
set_option linter.unusedSimpArgs false
open Go renaming World→ae
open Go.Region renaming wanted→bD
open Option.some renaming inj→cO
namespace Go.Proofs.YtncfhbpejchbfaaGreatDoor
open Go.ChangeShapes Go.WideShapes Go.ChangeAt Go.RowKit Go.Sort
section
def sq1 (P:Program) (l:List Oper) (n k0:Nat) (T:List lU) (Rel Pre:ae->Prop) (S S0:ae->ae->Prop):SqC:=⟨P,l,n,k0,T,Rel,Pre,S,S0⟩
def rw0 (k:Nat) (R:ae->Prop):lU:=⟨k,9999,none,false,λ_ _ W=>R W⟩
def rwB (k:Nat) (R:Value->ae->Prop):lU:=⟨k,9999,none,true,λv _ W=>R v W⟩
section
variable {P:Program} {l:List Oper} {n k0:Nat} {T:List lU} {Rel Pre:ae->Prop} {S S0:ae->ae->Prop} {ρ:Nat->Value} {E:Act->Prop}
theorem SqW.s1 {k:Nat} {A e:Act} (m:Nat) (b:Bool) (J:List Nat) (f:∀W,Rel W->(b=true->Pre W)->(sq1 P l n k0 T Rel Pre S S0).fj ρ W J->rT P l.toArray W (λa=>a=e) ((l.drop k).take m) A) (h:SqW (sq1 P l n k0 T Rel Pre S S0) ρ E (k+m) e)
  (j:(sq1 P l n k0 T Rel Pre S S0).aa6 J b k m=true:=by kernel_rfl) (i:blank ((l.drop k).take m) e=blank ((l.drop k).take m) A:=by kernel_rfl):SqW (sq1 P l n k0 T Rel Pre S S0) ρ E k A:=
 .seg m J b e j f i h
theorem SqW.o1 {k:Nat} {A:Act} (i:Nat) (b:Bool) (J:List Nat) {r:lU} {o:Oper} (a:∀W,Rel W->(b=true->Pre W)->(sq1 P l n k0 T Rel Pre S S0).fj ρ W J->∀N:Value->ae->Prop,(∀v W',(∀u,r.is=some u->v=u)->r.R v (ρ r.d) W'->S W W'->N v W')->jH P N ((execOp A.eval o).run P W))
  (h:SqW (sq1 P l n k0 T Rel Pre S S0) ρ E (k+1) (A.put o.dst (ρ k))) (hi:T[i]? =some r:=by exact rfl) (e:l[k]? =some o:=by exact rfl) (j:k≠k0:=by decide) (z:(sq1 P l n k0 T Rel Pre S S0).rowB J b k i=true:=by kernel_rfl) (q:bD o (yielded l.toArray A.tmps)=true:=by kernel_rfl):SqW (sq1 P l n k0 T Rel Pre S S0) ρ E k A:=
 .row i J b r o hi e z (λW x p f=>LG q (a W x p f _ λv W' K I H=>⟨K,I,by
  rw[if_neg (show¬k=(sq1 P l n k0 T Rel Pre S S0).k0 from j)];exact H⟩)) h
theorem SqW.o0 {k:Nat} {A:Act} (i:Nat) (J:List Nat) {r:lU} {o:Oper} (a:∀W,Rel W->Pre W->(sq1 P l n k0 T Rel Pre S S0).fj ρ W J->∀N:Value->ae->Prop,(∀v W',(∀u,r.is=some u->v=u)->r.R v (ρ r.d) W'->Rel W'->S0 W W'->N v W')->jH P N ((execOp A.eval o).run P W))
  (h:SqW (sq1 P l n k0 T Rel Pre S S0) ρ E (k+1) (A.put o.dst (ρ k))) (hi:T[i]? =some r:=by exact rfl) (e:l[k]? =some o:=by exact rfl) (j:k=k0:=by exact rfl) (z:(sq1 P l n k0 T Rel Pre S S0).rowB J true k i=true:=by kernel_rfl) (q:bD o (yielded l.toArray A.tmps)=true:=by kernel_rfl):SqW (sq1 P l n k0 T Rel Pre S S0) ρ E k A:=
 .row i J true r o hi e z (λW x p f=>LG q (a W x (p rfl) f _ λv W' M K I H=>⟨M,K,by
  rw[if_pos (show k=(sq1 P l n k0 T Rel Pre S S0).k0 from j)];exact⟨I,H⟩⟩)) h
theorem SqW.kv1 {k:Nat} {A:Act} (I:(sq1 P l n k0 T Rel Pre S S0).Is ρ) (i:Nat) (v:Value) {o:Oper} {f:FuncId} {args:Array Value} (J:∀W,Rel W->Calls P f args W λe W'=>e= .returned v/\S W W') (h:SqW (sq1 P l n k0 T Rel Pre S S0) ρ E (k+1) (A.put o.dst v))
  (hi:T[i]? =some (rwI k v):=by exact rfl) (j:l[k]? =some o:=by exact rfl) (q:k≠k0:=by decide) (K:(sq1 P l n k0 T Rel Pre S S0).rowB [] false k i=true:=by kernel_rfl)
  (z:bD o (yielded l.toArray A.tmps)=true:=by kernel_rfl) (a:∀W,(execOp A.eval o).run P W= .ok (.enter f args) W:=by intro W;go_simp):SqW (sq1 P l n k0 T Rel Pre S S0) ρ E k A:=
 SqW.o1 i false [] (λW x _ _ N H=>by
  rw[a W];exact(J W x).mono λe W' h=>⟨v,h.1,H v W' (λu e=>cO e) trivial h.2⟩) (by rw[show ρ k=v from I (rwI k v) (List.mem_of_getElem? hi) v rfl];exact h) hi j q K z
end
theorem ou {P:Program} {l:List Oper} (n k0:Nat) (T:List lU) (Rel Pre:ae->Prop) (S S0:ae->ae->Prop) {Q:Exit->Act->ae->Prop} {a:Act} {w:ae} {id:Nat}
  (j:Rel w.drew) (q:Pre w.drew) (hR:∀W W',Rel W->S W W'->Rel W') (u:∀W W',Pre W->S W W'->Pre W') (f:(sq1 P l n k0 T Rel Pre S S0).Ol T)
  (H:∀ρ,(sq1 P l n k0 T Rel Pre S S0).Is ρ->SqW (sq1 P l n k0 T Rel Pre S S0) ρ (λB=>∀W,Rel W->SqC.Xb ρ W T->wpList P l.toArray Q (l.drop n) B W) 0 a)
  (hm:P.follows .mixedOrders=true:=by kernel_rfl) (i:KP l n a.tmps.size=true:=by kernel_rfl) (e:(sq1 P l n k0 T Rel Pre S S0).SI=true:=by kernel_rfl):(Code.region id l.toArray true).wp P Q a w:=
 Xm (sq1 P l n k0 T Rel Pre S S0) hm i e j q hR u f H
end
end Go.Proofs.YtncfhbpejchbfaaGreatDoor

/-
  Lemmas of this seat; no claim.
-/
import Derived.StillTailTactics
import Derived.Test.YtejbpijamdlgcaaGreatDoorPAf1
set_option linter.unusedVariables false
set_option linter.unusedSimpArgs false
open Array renaming getElem?_eq_some_iff→aC,getElem?_setIfInBounds_ne→kV,getElem?_setIfInBounds_self→dw
open Bool renaming and_eq_true→aQ,or_eq_true→dV
open Go renaming Program→fZ,Value→aI,World→aj,execOp_congr→kK,execOp→jc,getD_replicate_false→iB,yielded→jf
open Go.Act renaming put→jJ
open Go.Region renaming binds→gF,wanted→bX
open Go.RowKit.Below renaming block→aJ
open List renaming all_cons→jS,all_eq_true→fK,getD_eq_getElem?_getD→eu,getElem?_eq_getElem→aO,getElem?_eq_none→eF,length_append→ay,length_singleton→dJ,map_cons→bU,mem_cons→aS,mem_map→dH,mem_of_getElem?→aP,mem_range→jT,mem_take_iff_getElem→jq,nodup_cons→iH,range→jm,replicate→fF
open Nat renaming le_refl→aD,lt_or_ge→dD
open Option.some renaming inj→fI
open Or renaming inl→jV,inr→mQ
namespace Go.Proofs.YtejbpijamdlgcaaGreatDoor
open Go.ChangeShapes Go.WideShapes Go.ChangeAt Go.RowKit Go.Sort
section
def oK (o:Oper) (a:Act) (w:aj) (next:Act->Prop):Result Next->Prop
 | .ok (.value v) w'=>w'=w/\next (a.put o.dst v)
 | .ok .skip w'=>w'=w/\next (a.put o.dst undef)
 |_=>False
def calm (P:fZ) (o:Oper) (a:Act) (w:aj) (next:Act->Prop):Prop:=oK o a w next ((jc a.eval o).run P w)
def wN (P:fZ) (e:Array Oper) (w:aj) (Q:Act->Prop):List Oper->Act->Prop
 |[],a=>Q a
 |o::r,a=>if bX o (jf e a.tmps) then calm P o a w (wN P e w Q r) else wN P e w Q r (a.put o.dst undef)
theorem SC {P:fZ} {e:Array Oper} {w:aj} {Q:Act->Prop} {a:Act} (h:Q a):wN P e w Q [] a:=h
theorem PN {P:fZ} {e:Array Oper} {w:aj} {Q:Act->Prop} {a:Act} {o:Oper} {r:List Oper}
  (h:∀K:Act->Prop,(∀a,wN P e w Q r a->K a)->if bX o (jf e a.tmps) then calm P o a w K else K (a.put o.dst undef)):wN P e w Q (o::r) a:=h _ λ_ h=>h
def oG (P:fZ) (K:aI->aj->Prop):Result Next->Prop
 | .ok (.value v) w'=>K v w'
 | .ok .skip w'=>K undef w'
 | .ok (.enter f args) w'=>Calls P f args w' λe a=>∃v,e= .returned v/\K v a
 |_=>False
def loud (P:fZ) (e:Array Oper) (o:Oper) (a:Act) (w:aj) (K:aI->aj->Prop):Prop:=
 if bX o (jf e a.tmps) then oG P K ((jc a.eval o).run P w) else K undef w
theorem ada {P:fZ} {i:Array Oper} {o:Oper} {a:Act} {w:aj} {K:aI->aj->Prop} {Q:Exit->Act->aj->Prop} {k:Nat} {N:Act->aj->Prop} (u:i[k]? =some o) (q:∀v W',K v W'->N (a.put o.dst v) W') (h:loud P i o a w K):wpOp P i Q k N a w:=by
 unfold wpOp;simp only[u];unfold loud at h
 split at h
 ·rename_i j
  rw[if_pos j];refine jV ?_;unfold Oper.wp;generalize(jc a.eval o).run P w=r at*;cases r with
  |ok n w'=>
   cases n <;> simp only[oG] at h <;> simp only[Oper.upon]
   case enter f args=>exact h.mono λe W ⟨v,z,hv⟩=>by subst z;exact q _ _ hv
   all_goals exact q _ _ h
  |halt x w'=>simp only[oG] at h
 ·rename_i j
  rw[if_neg j];exact q _ _ h
def Py:List Oper->List Nat->List Nat
 |[],acc=>acc
 |o::r,acc=>Py r (acc++[o.after.toList.foldl (λm e=>if gF .any e then m|||(1<<<e.on|||acc.getD e.on 0) else m) 0])
def ajC (l:List Oper):List Nat:=Py l []
def anc (A:List Nat) (j k:Nat):Bool:=(A.getD k 0).testBit j
theorem testBit_fold (f:Edge->Nat) (b:Edge->Bool) (j:Nat):∀(l:List Edge) (m:Nat),(l.foldl (λm e=>if b e then m|||f e else m) m).testBit j=true->m.testBit j=true\/∃e∈l,b e=true/\(f e).testBit j=true
 |[],m,h=>jV h
 |e::l,m,h=>by
  rcases testBit_fold f b j l _ h with h|⟨u,q,a,i⟩
  ·simp only at h
   split at h
   ·rename_i a
    rw[Nat.testBit_or,dV] at h;exact h.imp id λh=>⟨e,ι,a,h⟩
   ·exact jV h
  ·exact mQ ⟨u,by simp[q],a,i⟩
theorem Hz {X:Nat->Nat->Prop} {l0:List Oper} (H:∀(k:Nat) (o:Oper),l0[k]? =some o->∀e∈o.after.toList,gF .any e=true->X e.on k/\∀j,X j e.on->X j k):
  ∀(l:List Oper) (f:List Nat),(∀i,l[i]? =l0[f.length+i]?)->(∀j k,k<f.length->(f.getD k 0).testBit j=true->X j k)->∀j k,((Py l f).getD k 0).testBit j=true->X j k
 |[],f,_,h,j,k,q=>by
  rcases dD k f.length with u|u
  ·exact h j k u q
  ·rw[Py,eu,eF u] at q;simp at q
 |o::l,f,hl,h,j,k,q=>by
  refine Hz H l _ (λi=>?_) (λj k u q=>?_) j k q
  ·have:=hl (i+1)
   rw[List.getElem?_cons_succ] at this;rw[this,ay,dJ]
   congr 1
   omega
  ·rw[ay,dJ] at u
   rcases dD k f.length with z|z
   ·rw[eu,List.getElem?_append_left z,<-eu] at q
    exact h j k z q
   ·obtain rfl:k=f.length:=ω
    rw[eu,List.getElem?_append_right (aD _),Nat.sub_self] at q;have J:l0[f.length]? =some o:=by have:=hl 0;simpa using this.symm
    rcases testBit_fold _ _ j _ _ q with I|⟨e,K,M,a⟩
    ·simp at I
    ·obtain⟨O,N⟩:=H _ o J e K M
     rw[Nat.testBit_or,dV] at a;rcases a with a|a
     ·rw[Nat.one_shiftLeft,Nat.testBit_two_pow] at a
      have:e.on=j:=by simpa using a
      exact this▸O
     ·refine N j ?_
      rcases dD e.on f.length with u|u
      ·exact h j _ u a
      ·rw[eu,eF u] at a;simp at a
structure qO where
 k:Nat
 d:Nat
 is:Option aI
 bef:Bool
 R:aI->aI->aj->Prop
structure SqC where
 P:fZ
 l:List Oper
 n:Nat
 k0:Nat
 T:List qO
 Rel:aj->Prop
 Pre:aj->Prop
 S:aj->aj->Prop
 S0:aj->aj->Prop
def SqC.anc (c:SqC) (j k:Nat):Bool:=Go.Proofs.YtejbpijamdlgcaaGreatDoor.anc (ajC c.l) j k
def SqC.pre (c:SqC) (k:Nat):Bool:=k==c.k0||c.anc k c.k0
def qO.at (r:qO) (a:Nat->aI) (W:aj):Prop:=r.R (a r.k) (a r.d) W
def SqC.fj (c:SqC) (a:Nat->aI) (W:aj):List Nat->Prop
 |[]=>True
 |i::J=>(match c.T[i]? with|some r=>r.at a W|none=>True)/\SqC.fj c a W J
def SqC.acR (c:SqC) (J:List Nat) (b:Bool) (k m:Nat):Bool:=decide (k+m<=c.n)&&(jm m).all λi=>(!b||c.pre (k+i))&&c.T.all (λr=>r.k !=k+i)&&J.all λj=>match c.T[j]? with|some r=>c.anc r.k (k+i)&&(!r.bef||c.pre (k+i))|none=>true
def SqC.rowB (c:SqC) (J:List Nat) (b:Bool) (k i:Nat):Bool:=decide (k<c.n)&&(match c.T[i]? with|some r=>r.k==k|none=>false)&&(!b||c.pre k)&&J.all λj=>match c.T[j]? with|some r=>c.anc r.k k&&(!r.bef||c.pre k)|none=>true
def blank:List Oper->Act->Act
 |[],a=>a
 |o::r,a=>blank r (a.put o.dst undef)
inductive SqW (c:SqC) (ρ:Nat->aI) (E:Act->Prop):Nat->Act->Prop
 |fin {A:Act} (h:E A):SqW c ρ E c.n A
 |seg {k:Nat} {A:Act} (m:Nat) (J:List Nat) (b:Bool) (A':Act) (hB:c.acR J b k m=true) (hw:∀W,c.Rel W->(b=true->c.Pre W)->c.fj ρ W J->wN c.P c.l.toArray W (λa=>a=A') ((c.l.drop k).take m) A) (hM:blank ((c.l.drop k).take m) A'=blank ((c.l.drop k).take m) A) (h:SqW c ρ E (k+m) A'):SqW c ρ E k A
 |row {k:Nat} {A:Act} (i:Nat) (J:List Nat) (b:Bool) (r:qO) (o:Oper) (hi:c.T[i]? =some r) (ho:c.l[k]? =some o) (hB:c.rowB J b k i=true)
   (hw:∀W,c.Rel W->(b=true->c.Pre W)->c.fj ρ W J->loud c.P c.l.toArray o A W λv W'=>(∀u,r.is=some u->v=u)/\r.R v (ρ r.d) W'/\(if k=c.k0 then c.Rel W'/\c.S0 W W' else c.S W W'))
   (h:SqW c ρ E (k+1) (A.put o.dst (ρ k))):SqW c ρ E k A
theorem SqW.mono {c:SqC} {f:Nat->aI} {E j:Act->Prop} (z:∀B,E B->j B) {k:Nat} {A:Act} (h:SqW c f E k A):SqW c f j k A:=by
 induction h with
 |fin h=>exact .fin (z _ h)
 |seg m J b H e a u h ih=>exact .seg m J b H e a u ih
 |row i J b r o hi q e a h ih=>exact .row i J b r o hi q e a ih
def Same (A B:Act) (t:Nat):Prop:=A.tmps[t]? =B.tmps[t]?
theorem zO {a:Array Oper} {A B:Act} {o:Oper} (h:∀t∈o.looksAt a,Same A B t):∀x∈o.op.operands,A.eval x=B.eval x:=by
 intro x e;cases x with
 |tmp t=>
  have:=h t (List.mem_append_left _ (List.mem_filterMap.2 ⟨.tmp t,by simpa using e,rfl⟩));simp only[Act.eval,Array.getD_eq_getD_getElem?,show A.tmps[t]? =B.tmps[t]? from this]
 |_=>rfl
theorem uP {a:Array Oper} {A B:Act} {o:Oper} (h:∀t∈o.looksAt a,Same A B t):bX o (jf a A.tmps)=bX o (jf a B.tmps):=by
 unfold bX;cases e:o.guard with
 |none=>rfl
 |some p=>
  obtain⟨g,b⟩:=p;simp only[jf];cases f:(a[g]?).bind (·.dst) with
  |none=>rfl
  |some t=>
   have:=h t (List.mem_append_right _ (by rw[e];simp[f]));simp only[Option.bind_some,show A.tmps[t]? =B.tmps[t]? from this]
def tN (P:fZ) (e:Array Oper) (o:Oper) (A:Act) (W:aj):Prop:=
 if bX o (jf e A.tmps) then calm P o A W (λa=>∀d,o.dst=some d->Same a A d) else ∀d,o.dst=some d->Same (A.put o.dst undef) A d
theorem tN.same {P:fZ} {q:Array Oper} {o:Oper} {A B:Act} {W:aj} (H:∀J b,o.op≠ .select J b) (z:A.tmps.size=B.tmps.size) (h:∀t∈o.looksAt q,Same A B t) (a:tN P q o A W) (f:tN P q o B W):∀d,o.dst=some d->Same A B d:=by
 intro d e;have I:jc A.eval o=jc B.eval o:=kK o H (zO h);have put:∀v,Same (A.put (some d) v) (B.put (some d) v) d:=λv=>by
  simp only[Same,jJ,dw,z]
 unfold tN at a f;rw[uP h] at a
 split at a
 ·rename_i u
  rw[if_pos u] at f;unfold calm at a f;rw[I] at a;generalize(jc B.eval o).run P W=r at*;cases r with
  |ok n w'=>
   cases n <;> simp only[oK] at a f
   ·have j:=a.2 d e;have i:=f.2 d e;rw[e] at j i;exact j.symm.trans ((put _).trans i)
   ·have j:=a.2 d e;have i:=f.2 d e;rw[e] at j i;exact j.symm.trans ((put _).trans i)
  |halt x w'=>simp only[oK] at a
 ·rename_i u
  rw[if_neg u] at f;have j:=a d e;have i:=f d e;rw[e] at j i;exact j.symm.trans ((put _).trans i)
theorem tN.to {P:fZ} {f:Array Oper} {o:Oper} {A B:Act} {W:aj} (u:∀I b,o.op≠ .select I b) (q:A.tmps.size=B.tmps.size) (h:∀t∈o.looksAt f,Same A B t) (H:∀d,o.dst=some d->Same A B d) (a:tN P f o A W):tN P f o B W:=by
 have z:jc A.eval o=jc B.eval o:=kK o u (zO h);have put:∀d v,o.dst=some d->Same (A.put o.dst v) A d->Same (B.put o.dst v) B d:=λd v e j=>by
  rw[e] at j⊢;simp only[Same,jJ,dw,q] at j⊢;exact j.trans (H d e)
 unfold tN at a⊢;rw[uP h] at a
 split at a
 ·rename_i i
  rw[if_pos i];unfold calm at a⊢;rw[z] at a;generalize(jc B.eval o).run P W=r at*;cases r with
  |ok n w'=>
   cases n <;> simp only[oK] at a⊢
   ·exact⟨a.1,λd e=>put d _ e (a.2 d e)⟩
   ·exact⟨a.1,λd e=>put d _ e (a.2 d e)⟩
  |halt x w'=>simp only[oK] at a
 ·rename_i i
  rw[if_neg i];exact λd e=>put d _ e (a d e)
theorem KO:∀(l:List Oper) (A B:Act),blank l A=blank l B->A.tmps.size=B.tmps.size/\A.defers=B.defers/\∀t,(∀o∈l,o.dst≠some t)->Same A B t
 |[],A,B,h=>by cases h;exact⟨rfl,rfl,λ_ _=>rfl⟩
 |o::l,A,B,h=>by
  obtain⟨i,f,q⟩:=KO l _ _ h;cases H:o.dst with
  |none=>rw[H] at i f q;exact⟨i,f,λt j=>q t λu a=>j u (by simp[a])⟩
  |some d=>
   rw[H] at i f q;simp only[jJ,Array.size_setIfInBounds] at i f;refine⟨i,f,λt j=>?_⟩;have z:d≠t:=λe=>j o ι (by rw[H,e])
   have:=q t λu a=>j u (by simp[a])
   simpa only[Same,jJ,kV z] using this
theorem zx {A:Act} {o:Option Tmp} {v:aI} {t:Nat} (h:o≠some t):Same (A.put o v) A t:=by
 cases o with
 |none=>rfl
 |some d=>
  have a:d≠t:=λe=>h (by rw[e])
  simp only[Same,jJ,kV a]
theorem Bt (A:Act) (o:Option Tmp) (v:aI):(A.put o v).tmps.size=A.tmps.size:=by cases o <;> simp[jJ]
theorem put_defers (A:Act) (o:Option Tmp) (v:aI):(A.put o v).defers=A.defers:=by cases o <;> rfl
structure SqF (l:List Oper) (n sz:Nat):Prop where
 sel:∀(k:Nat) (o:Oper),k<n->l[k]? =some o->∀cs b,o.op≠ .select cs b
 nd:∀(i j:Nat) (x y:Oper) (d:Nat),i<n->j<n->l[i]? =some x->l[j]? =some y->x.dst=some d->y.dst=some d->i=j
 looks:∀(k:Nat) (o:Oper),k<n->l[k]? =some o->∀t∈o.looksAt l.toArray,(∀(i:Nat) (x:Oper),i<n->l[i]? =some x->x.dst≠some t)\/∃e∈o.after.toList,gF .any e=true/\e.on<k/\∃x,l[e.on]? =some x/\x.dst=some t
 size:∀(k:Nat) (o:Oper) (d:Nat),k<n->l[k]? =some o->o.dst=some d->d<sz
 back:∀(k:Nat) (o:Oper),k<n->l[k]? =some o->∀e∈o.after.toList,gF .any e=true->e.on<k
theorem SqF.early {l:List Oper} {n u:Nat} (F:SqF l n u) {k:Nat} {o:Oper} (M:k<n) (I:l[k]? =some o):∀t∈o.looksAt l.toArray,∀(j:Nat) (x:Oper),k<=j->j<n->l[j]? =some x->x.dst≠some t:=by
 intro t H j x K i f q;rcases F.looks k o M I t H with h|⟨e,N,O,J,y,z,a⟩
 ·exact h j x i f q
 ·have:=F.nd _ _ _ _ _ ω i z f a q
  omega
theorem Nl {P:fZ} {l:List Oper} {n X:Nat} {W:aj} (F:SqF l n X) (O:n<=l.length):∀(m k:Nat) (A e:Act),k+m<=n->A.tmps.size=X->wN P l.toArray W (λa=>a=e) ((l.drop k).take m) A->
  e.tmps.size=A.tmps.size/\(∀t,(∀(j:Nat) (o:Oper),k<=j->j<k+m->l[j]? =some o->o.dst≠some t)->Same e A t)/\∀(j:Nat) (o:Oper),k<=j->j<k+m->l[j]? =some o->tN P l.toArray o e W
 |0,k,A,e,hm,hz,h=>by
  rw[List.take_zero] at h;obtain rfl:A=e:=h;exact⟨rfl,λ_ _=>rfl,λj o u I _=>ω⟩
 |m+1,k,A,e,hm,hz,h=>by
  have Z:k<l.length:=ω
  have f:l[k]? =some l[k]:=aO Z;rw[List.drop_eq_getElem_cons Z,List.take_succ_cons] at h;generalize l[k]=o at*;have H:∀v,wN P l.toArray W (λa=>a=e) ((l.drop (k+1)).take m) (A.put o.dst v)->e.tmps.size=A.tmps.size/\(∀t,(∀(j:Nat) (x:Oper),k<=j->j<k+(m+1)->l[j]? =some x->x.dst≠some t)->Same e A t)/\(∀d,o.dst=some d->Same (e.put o.dst v) e d)/\(∀t∈o.looksAt l.toArray,Same A e t)/\∀(j:Nat) (x:Oper),k+1<=j->j<k+(m+1)->l[j]? =some x->tN P l.toArray x e W:=by
   intro v hv;obtain⟨u,I,Q⟩:=Nl F O m (k+1) _ e ω (by rw[Bt];exact hz) hv;rw[Bt] at u;have out:∀t,(∀(j:Nat) (x:Oper),k<=j->j<k+(m+1)->l[j]? =some x->x.dst≠some t)->Same e A t:=λt K=>
    (I t λj x z J i=>K j x ω ω i).trans (zx (K k o (aD _) ω f))
   refine⟨u,out,λd q=>?_,λt K=>?_,λj x z J i=>Q j x z ω i⟩
   ·have U:=I d λj x z J i gd=>by have:=F.nd _ _ _ _ _ ω ω f i q gd;omega
    rw[q] at U⊢;have a0:=F.size k o d ω f q;simp only[Same,jJ,dw] at U⊢;rw[U,u]
   ·exact(out t λj x z J i=>F.early ω f t K j x z ω i).symm
  have fin:(∃v,wN P l.toArray W (λa=>a=e) ((l.drop (k+1)).take m) (A.put o.dst v)/\((∀t∈o.looksAt l.toArray,Same A e t)->(∀d,o.dst=some d->Same (e.put o.dst v) e d)->tN P l.toArray o e W)):=by
   unfold wN at h
   split at h
   ·rename_i N
    unfold calm at h;generalize Y:(jc A.eval o).run P W=r at h;have go:∀v,((jc A.eval o).run P W= .ok (.value v) W\/(jc A.eval o).run P W= .ok .skip W/\v=undef)->(∀t∈o.looksAt l.toArray,Same A e t)->(∀d,o.dst=some d->Same (e.put o.dst v) e d)->tN P l.toArray o e W:=by
     intro v hv M q;unfold tN;rw[<-uP M,if_pos N];unfold calm;rw[<-kK o (F.sel k o ω f) (zO M)];rcases hv with hv|⟨hv,rfl⟩
     ·rw[hv];exact⟨rfl,q⟩
     ·rw[hv];exact⟨rfl,q⟩
    cases r with
    |ok x w'=>
     cases x <;> simp only[oK] at h
     ·obtain⟨rfl,h⟩:=h;exact⟨_,h,go _ (jV Y)⟩
     ·obtain⟨rfl,h⟩:=h;exact⟨_,h,go _ (mQ ⟨Y,rfl⟩)⟩
    |halt x w'=>simp only[oK] at h
   ·rename_i N
    refine⟨undef,h,λM q=>?_⟩;unfold tN;rw[<-uP M,if_neg N];exact q
  obtain⟨v,hv,hc⟩:=fin;obtain⟨u,I,Q,h4,h5⟩:=H v hv;refine⟨u,I,λj x z J i=>?_⟩;rcases dD k j with g|g
  ·exact h5 j x g J i
  ·obtain rfl:j=k:=ω
   obtain rfl:x=o:=by rw[f] at i;exact(fI i).symm
   exact hc h4 Q
def SqC.facts (c:SqC) (a:Nat->aI) (k:Nat) (W:aj):Prop:=∀r∈c.T,c.anc r.k k=true->(r.bef=true->c.pre k=true)->r.at a W
def SqC.leaves (c:SqC) (a:Nat->aI) (r:qO) (W:aj) (v:aI) (W':aj):Prop:=(∀u,r.is=some u->v=u)/\r.R v (a r.d) W'/\(if r.k=c.k0 then c.Rel W'/\c.S0 W W' else c.S W W')
def SqC.ok (c:SqC) (a:Nat->aI) (A:Act) (k:Nat) (o:Oper):Prop:=
 ((∀r∈c.T,r.k≠k)/\∀W,c.Rel W->(c.pre k=true->c.Pre W)->c.facts a k W->tN c.P c.l.toArray o A W)\/
 ∃r∈c.T,r.k=k/\(∀d,o.dst=some d->A.tmps[d]? =some (a k))/\∀W,c.Rel W->(c.pre k=true->c.Pre W)->c.facts a k W->loud c.P c.l.toArray o A W (c.leaves a r W)
theorem VI {P:fZ} {a:Array Oper} {o:Oper} {A B:Act} {W:aj} {K:aI->aj->Prop} (f:∀i b,o.op≠ .select i b) (h:∀t∈o.looksAt a,Same A B t) (e:loud P a o A W K):loud P a o B W K:=by
 unfold loud at e⊢;rw[<-uP h,<-kK o f (zO h)];exact e
theorem BF {a:Bool} {p:Bool} (h:(!a||p)=true) (e:a=true):p=true:=by cases a <;> simp_all
theorem abk {c:SqC} {a:Nat->aI} {W:aj} {k:Nat} (e:c.facts a k W):∀(J:List Nat),(J.all λj=>match c.T[j]? with|some r=>c.anc r.k k&&(!r.bef||c.pre k)|none=>true)=true->c.fj a W J
 |[],_=>trivial
 |i::J,h=>by
  rw[jS,aQ] at h;refine⟨?_,abk e J h.2⟩;have:=h.1;cases f:c.T[i]? with
  |none=>trivial
  |some r=>
   rw[f] at this;simp only[aQ] at this;exact e r (aP f) this.1 (BF this.2)
theorem SqW.spec {c:SqC} {sz:Nat} (F:SqF c.l c.n sz) (a0:c.n<=c.l.length) {ρ:Nat->aI} {E:Act->Prop}:∀{k:Nat} {A:Act},SqW c ρ E k A->A.tmps.size=sz->
  ∃B,E B/\B.tmps.size=A.tmps.size/\B.defers=A.defers/\(∀t,(∀(j:Nat) (o:Oper),k<=j->j<c.n->c.l[j]? =some o->o.dst≠some t)->Same B A t)/\∀(j:Nat) (o:Oper),k<=j->j<c.n->c.l[j]? =some o->c.ok ρ B j o:=by
 intro k A h
 induction h with
 |fin h=>exact λ_=>⟨_,h,rfl,rfl,λ_ _=>rfl,λj o N a _=>ω⟩
 |@seg k A m J b A' u hw hM h ih=>
  intro hz;unfold SqC.acR at u;rw[aQ,decide_eq_true_eq] at u;obtain⟨a2,u⟩:=u;obtain⟨z1,z2,z3⟩:=KO _ _ _ hM;obtain⟨B,b1,Z,b3,X,b5⟩:=ih (by rw[z1];exact hz);have inl:∀o∈(c.l.drop k).take m,∃j,k<=j/\j<k+m/\c.l[j]? =some o:=λo U=>by
   obtain⟨i,hi,e⟩:=jq.1 U;refine⟨k+i,ω,ω,?_⟩;rw[<-e,List.getElem_drop,aO]
  refine⟨B,b1,Z.trans z1,b3.trans z2,?_,?_⟩
  ·intro t q
   refine(X t λj o N a go=>q j o ω a go).trans (z3 t λo U=>?_);obtain⟨j,N,a,g3⟩:=inl o U;exact q j o N ω g3
  ·intro j o N a go
   rcases dD j (k+m) with g|g
   ·have hb:=fK.1 u (j-k) (jT.2 ω)
    rw[show k+(j-k)=j by omega] at hb;simp only[aQ] at hb;obtain⟨⟨M,a3⟩,K⟩:=hb;have looks:∀t∈o.looksAt c.l.toArray,Same A' B t:=λt q=>(X t λi x H Q O=>F.early a go t q i x ω Q O).symm
    refine jV ⟨λr hr e=>?_,λW w1 w2 w3=>?_⟩
    ·have:=fK.1 a3 r hr
     simp[e] at this
    ·have hc:=Nl F a0 m k A A' a2 hz (hw W w1 (λI=>w2 (BF M I)) (abk w3 J K))
     refine(hc.2.2 j o N g go).to (F.sel j o a go) Z.symm looks ?_;intro d Y;refine(X d λi x H Q O e4=>?_).symm;have:=F.nd _ _ _ _ _ a Q go O Y e4;omega
   ·exact b5 j o g a go
 |@row k A i J b r o hi U u hw h ih=>
  intro hz;unfold SqC.rowB at u;simp only[aQ,decide_eq_true_eq] at u;obtain⟨⟨⟨a1,f⟩,M⟩,K⟩:=u;rw[hi] at f;have f:r.k=k:=by simpa using f
  obtain⟨B,b1,Z,b3,X,b5⟩:=ih (by rw[Bt];exact hz);rw[Bt] at Z;have out:∀t,(∀(j:Nat) (x:Oper),k<=j->j<c.n->c.l[j]? =some x->x.dst≠some t)->Same B A t:=λt q=>
   (X t λj x N a z=>q j x ω a z).trans (zx (q k o (aD _) a1 U))
  refine⟨B,b1,Z,b3.trans (put_defers ..),out,?_⟩;intro j x N a z;rcases dD k j with g|g
  ·exact b5 j x g a z
  ·obtain rfl:j=k:=ω
   obtain rfl:x=o:=by rw[U] at z;exact(fI z).symm
   have looks:∀t∈x.looksAt c.l.toArray,Same A B t:=λt q=>(out t λi y H Q O=>F.early a z t q i y H Q O).symm
   refine mQ ⟨r,aP hi,f,λd Y=>?_,λW w1 w2 w3=>?_⟩
   ·have H:=X d λi y H Q O e4=>by
     have:=F.nd _ _ _ _ _ a Q z O Y e4;omega
    have a4:=F.size j x d a z Y;rw[Y] at H;simp only[Same,jJ,dw] at H;rw[H,if_pos ω]
   ·refine VI (F.sel j x a z) looks ?_
    have:=hw W w1 (λI=>w2 (BF M I)) (abk w3 J K);unfold SqC.leaves;rw[f];exact this
def SqC.Is (c:SqC) (a:Nat->aI):Prop:=∀r∈c.T,∀u,r.is=some u->a r.k=u
structure WJ (c:SqC) (E:(Nat->aI)->Act->Prop) (a0:Act) (ρ:Nat->aI) (B:Act):Prop where
 fin:E ρ B
 size:B.tmps.size=a0.tmps.size
 defers:B.defers=a0.defers
 out:∀t,(∀(j:Nat) (o:Oper),j<c.n->c.l[j]? =some o->o.dst≠some t)->Same B a0 t
 ok:∀(j:Nat) (o:Oper),j<c.n->c.l[j]? =some o->c.ok ρ B j o
structure SqT (c:SqC):Prop where
 lt:∀r∈c.T,r.k<c.n
 one:∀r∈c.T,∀r'∈c.T,r.k=r'.k->r=r'
 dep:∀r∈c.T,c.n<=r.d\/c.anc r.d r.k=true
 self:∀r∈c.T,r.d≠r.k
 S:∀r∈c.T,∀x y W W',r.R x y W->c.S W W'->r.R x y W'
 S0:∀r∈c.T,r.bef=false->r.k≠c.k0->∀x y W W',r.R x y W->c.S0 W W'->r.R x y W'
 rel:∀W W',c.Rel W->c.S W W'->c.Rel W'
 pre:∀W W',c.Pre W->c.S W W'->c.Pre W'
structure aci (c:SqC) (E:(Nat->aI)->Act->Prop) (a0 a:Act) (W:aj) (listed:Array Bool) (ρ:Nat->aI) (B:Act):Prop where
 is:c.Is ρ
 fin:WJ c E a0 ρ B
 facts:∀r∈c.T,listed.getD r.k false=true->(r.bef=true->listed.getD c.k0 false=false)->r.at ρ W
 out:∀t,(∀(j:Nat) (o:Oper),j<c.n->c.l[j]? =some o->o.dst≠some t)->Same a a0 t
 told:∀(j:Nat) (o:Oper) (d:Nat),j<c.n->c.l[j]? =some o->listed.getD j false=true->o.dst=some d->Same a B d
 rel:c.Rel W
 pre:listed.getD c.k0 false=false->c.Pre W
 size:a.tmps.size=a0.tmps.size
 defers:a.defers=a0.defers
 wit:∀j,j<c.n->listed.getD j false=true->∃Wj,c.Rel Wj/\(c.pre j=true->c.Pre Wj)/\c.facts ρ j Wj
theorem xY {c:SqC} {n:Nat} {a:Array Bool} (f:HeadInv .any c.l.toArray n a) {j k:Nat} (h:c.anc j k=true) (u:∀o,c.l[k]? =some o->∀e∈o.after.toList,gF .any e=true->a.getD e.on false=true):a.getD j false=true:=by
 have key:=Hz (X:=λj k=>(∀o,c.l[k]? =some o->∀e∈o.after.toList,gF .any e=true->a.getD e.on false=true)->a.getD j false=true) (l0:=c.l) (λk o I e J K=>⟨λg=>g o I e J K,λj N g=>N λM q O z H=>f.closed e.on M (by simpa using q) (g o I e J K) O (by simpa using z) H⟩) c.l [] (λi=>ι) (λj k u=>by simp at u);exact key j k h u
theorem aed {P:fZ} {f:Array Oper} {o:Oper} {A a:Act} {W:aj} {k:Nat} {Q:Exit->Act->aj->Prop} {N:Act->aj->Prop} (u:f[k]? =some o) (q:∀z b,o.op≠ .select z b) (h:∀t∈o.looksAt f,Same A a t) (e:tN P f o A W) (j:∀v,(∀d,o.dst=some d->Same (A.put o.dst v) A d)->N (a.put o.dst v) W):wpOp P f Q k N a W:=by
 unfold wpOp;simp only[u];unfold tN at e;rw[uP h] at e
 split at e
 ·rename_i i
  rw[if_pos i];refine jV ?_;unfold Oper.wp;unfold calm at e;rw[kK o q (zO h)] at e;generalize(jc a.eval o).run P W=r at*;cases r with
  |ok x w'=>
   cases x <;> simp only[oK] at e <;> simp only[Oper.upon]
   ·obtain⟨rfl,e⟩:=e;exact j _ e
   ·obtain⟨rfl,e⟩:=e;exact j _ e
  |halt x w'=>simp only[oK] at e
 ·rename_i i
  rw[if_neg i];exact j _ e
theorem aci.next {c:SqC} {sz:Nat} (F:SqF c.l c.n sz) (HT:SqT c) {E:(Nat->aI)->Act->Prop} {a0:Act} (hz:a0.tmps.size=sz) (G:∀ρ,c.Is ρ->∃B,WJ c E a0 ρ B) {Q:Exit->Act->aj->Prop} {f:Array Bool} {a:Act} {W:aj} {ρ:Nat->aI} {B:Act} (K:HeadInv .any c.l.toArray c.n f)
  (h:aci c E a0 a W f ρ B) {i:Nat} (hin:i<c.n) (b0:f.getD i true=false) {o:Oper} (ho:c.l[i]? =some o) (b9:∀e∈o.after.toList,gF .any e=true->f.getD e.on false=true) {N:Act->aj->Prop}
  (hN:∀a' W' H B',aci c E a0 a' W' (f.setIfInBounds i true) H B'->N a' W'):wpOp c.P c.l.toArray Q i N a W:=by
 have b7:∀o',c.l[i]? =some o'->∀e∈o'.after.toList,gF .any e=true->f.getD e.on false=true:=λo' h'=>by rw[ho] at h';obtain rfl:=fI h';exact b9
 have O:=getD_both b0;have b8:∀j x d,j<c.n->c.l[j]? =some x->f.getD j false=true->x.dst=some d->o.dst≠some d:=λj x d g I M U e=>by
  have:=F.nd _ _ _ _ _ hin g ho I e U;rw[this,M] at O;cases O
 have looks:∀t∈o.looksAt c.l.toArray,Same B a t:=λt ht=>by
  rcases F.looks i o hin ho t ht with g|⟨e,he,X,b1,x,hx,d2⟩
  ·exact(h.fin.out t g).trans (h.out t g).symm
  ·exact(h.told e.on x t ω hx (b9 e he X) d2).symm
 have b5:c.pre i=true->f.getD c.k0 false=false:=λhp=>by
  unfold SqC.pre at hp;rw[dV,beq_iff_eq] at hp;rcases hp with rfl|hp
  ·exact O
  ·cases hl:f.getD c.k0 false with
   |false=>rfl
   |true=>
    have:=xY K hp λo' h' e he X=>K.closed c.k0 o' (by simpa using h') hl e (by simpa using he) X
    rw[O] at this;cases this
 have a8:∀j,f.getD j false=true->j≠i:=λj g e=>by rw[e,O] at g;cases g
 have OU:c.facts ρ i W:=λr hr ha X=>h.facts r hr (xY K ha b7) λe=>b5 (X e)
 have Y:c.pre i=true->c.Pre W:=λhp=>h.pre (b5 hp)
 have J:∀j,(f.setIfInBounds i true).getD j false=true->j=i\/f.getD j false=true:=λj g=>by
  by_cases e:i=j
  ·exact jV e.symm
  ·rw[getD_set_ne false e] at g;exact mQ g
 have Q9:(f.setIfInBounds i true).getD c.k0 false=false->f.getD c.k0 false=false/\i≠c.k0:=λg=>by
  by_cases e:i=c.k0
  ·exfalso
   have d4:i<f.size:=by
        rcases dD i f.size with h|h
        ·exact h
        ·simp[Array.getElem?_eq_none h] at b0
   rw[<-e] at g;simp[d4] at g
  ·rw[getD_set_ne false e] at g;exact⟨g,e⟩
 have a9:∀v,(a.put o.dst v).tmps.size=a0.tmps.size:=λv=>by rw[Bt];exact h.size
 have a2:∀v t,(∀(j:Nat) (x:Oper),j<c.n->c.l[j]? =some x->x.dst≠some t)->Same (a.put o.dst v) a0 t:=λv t ht=>(zx (ht i o hin ho)).trans (h.out t ht)
 rcases h.fin.ok i o hin ho with⟨h1,h2⟩|⟨r,hr,hrk,hv,h2⟩
 ·refine aed (by simpa using ho) (F.sel i o hin ho) looks (h2 W h.rel Y OU) λv d3=>hN _ _ ρ B ⟨h.is,h.fin,λr hr hl X=>?_,a2 v,λj x d g I M U=>?_,h.rel,λg=>h.pre (Q9 g).1,a9 v,by rw[put_defers];exact h.defers,λj g M=>?_⟩
  ·rcases J _ hl with e|e
   ·exact absurd e (h1 r hr)
   ·exact h.facts r hr e λe'=>(Q9 (X e')).1
  ·rcases J _ M with e|e
   ·subst e
    obtain rfl:x=o:=by rw[ho] at I;exact(fI I).symm
    have e1:=d3 d U;rw[U] at e1⊢;refine Eq.trans ?_ e1;simp only[jJ,dw,h.size,h.fin.size]
   ·exact(zx (b8 j x d g I e U)).trans (h.told j x d g I e U)
  ·rcases J _ M with e|e
   ·subst e;exact⟨W,h.rel,Y,OU⟩
   ·exact h.wit j g e
 ·refine ada (by simpa using ho) (λv W' hl=>?_) (VI (F.sel i o hin ho) looks (h2 W h.rel Y OU))
  obtain⟨l1,l2,l3⟩:=hl;obtain⟨H,a3⟩:∃H:Nat->aI,H=λj=>if j=i then v else ρ j:=⟨_,rfl⟩
  have a4:H i=v:=by rw[a3];simp
  have a1:∀j,j≠i->H j=ρ j:=λj e=>by rw[a3];simp[e]
  have b4:c.Is H:=λz q u hu=>by
   by_cases e:z.k=i
   ·obtain rfl:=HT.one z q r hr (e.trans hrk.symm)
    rw[e,a4];exact l1 u hu
   ·rw[a1 _ e];exact h.is z q u hu
  obtain⟨B',Z⟩:=G H b4;have a7:∀z∈c.T,f.getD z.k false=true->∀W,z.at ρ W->z.at H W:=λz q hl W g=>by
   unfold qO.at at g⊢;rw[a1 _ (a8 _ hl),a1 z.d]
   ·exact g
   ·rcases HT.dep z q with e|e
    ·omega
    ·refine a8 _ (xY K e λo' h' e' a5 a6=>K.closed z.k o' (by simpa using h') hl e' (by simpa using a5) a6)
  have d7:∀j k,f.getD j false=true->c.anc k j=true->f.getD k false=true:=λj k M ga=>xY K ga λo' h' e' a5 a6=>K.closed j o' (by simpa using h') M e' (by simpa using a5) a6
  have b6:∀j,j<c.n->f.getD j false=true->∃Wj,c.Rel Wj/\(c.pre j=true->c.Pre Wj)/\c.facts ρ j Wj/\c.facts H j Wj:=λj g M=>by
   obtain⟨Wj,w1,w2,w3⟩:=h.wit j g M;exact⟨Wj,w1,w2,w3,λz q ha X=>a7 z q (d7 j _ M ha) Wj (w3 z q ha X)⟩
  have same:∀j,j<c.n->f.getD j false=true->∀x d,c.l[j]? =some x->x.dst=some d->Same B B' d:=by
   intro j
   induction j using Nat.strongRecOn with
   |ind j ih=>
    intro g M x d I U;rcases h.fin.ok j x g I with⟨p1,p2⟩|⟨r1,hr1,hk1,p1,p2⟩
    ·rcases Z.ok j x g I with⟨q1,q2⟩|⟨r2,hr2,hk2,q1,q2⟩
     ·obtain⟨Wj,w1,w2,w3,w4⟩:=b6 j g M
      refine tN.same (F.sel j x g I) (h.fin.size.trans Z.size.symm) (λt ht=>?_) (p2 Wj w1 w2 w3) (q2 Wj w1 w2 w4) d U;rcases F.looks j x g I t ht with e|⟨e,he,X,b1,y,hy,d1⟩
      ·exact(h.fin.out t e).trans (Z.out t e).symm
      ·exact ih e.on b1 ω (K.closed j x (by simpa using I) M e (by simpa using he) X) y t hy d1
     ·exact absurd hk2 (p1 r2 hr2)
    ·rcases Z.ok j x g I with⟨q1,q2⟩|⟨r2,hr2,hk2,q1,q2⟩
     ·exact absurd hk1 (q1 r1 hr1)
     ·have e1:=p1 d U
      have e2:=q1 d U;rw[a1 j (a8 j M)] at e2;exact e1.trans e2.symm
  refine hN _ _ H B' ⟨b4,Z,λz q hl X=>?_,a2 v,λj x d g I M U=>?_,?_,λg=>?_,a9 v,by rw[put_defers];exact h.defers,λj g M=>?_⟩
  ·by_cases e:z.k=i
   ·obtain rfl:=HT.one z q r hr (e.trans hrk.symm)
    unfold qO.at;rw[e,a4,a1 z.d (λe'=>HT.self z q (e'.trans e.symm))];exact l2
   ·have b2:=(J _ hl).resolve_left e
    refine a7 z q b2 W' ?_;have g:=h.facts z q b2 λe'=>(Q9 (X e')).1
    split at l3
    ·rename_i b3
     refine HT.S0 z q ?_ (λe'=>e (e'.trans (b3.symm.trans hrk))) _ _ _ _ g l3.2;cases d6:z.bef with
     |false=>rfl
     |true=>exact absurd (hrk.symm.trans b3) (Q9 (X d6)).2
    ·exact HT.S z q _ _ _ _ g l3
  ·rcases J _ M with e|e
   ·subst e
    obtain rfl:x=o:=by rw[ho] at I;exact(fI I).symm
    rcases Z.ok j x g I with⟨q1,q2⟩|⟨r2,hr2,hk2,q1,q2⟩
    ·exact absurd hrk (q1 r hr)
    ·refine Eq.trans ?_ (q1 d U).symm
     have d5:=F.size j x d g I U;rw[U,a4];simp only[jJ,dw];rw[if_pos (by rw[h.size,hz];exact d5)]
   ·exact((zx (b8 j x d g I e U)).trans (h.told j x d g I e U)).trans (same j g e x d I U)
  ·split at l3
   ·exact l3.1
   ·exact HT.rel _ _ h.rel l3
  ·obtain⟨g1,g2⟩:=Q9 g
   rw[if_neg (λe=>g2 (hrk.symm.trans e))] at l3;exact HT.pre _ _ (h.pre g1) l3
  ·rcases J _ M with e|e
   ·subst e
    refine⟨W,h.rel,Y,λz q ha X=>a7 z q (xY K ha b7) W (OU z q ha X)⟩
   ·obtain⟨Wj,w1,w2,w3,w4⟩:=b6 j g e
    exact⟨Wj,w1,w2,w4⟩
def DF (n m:Nat):Array Bool:=(fF n true++fF (m-n) false).toArray
theorem YW {c:SqC} {sz:Nat} (F:SqF c.l c.n sz) (HT:SqT c) {E:(Nat->aI)->Act->Prop} {a0:Act} (hz:a0.tmps.size=sz) (G:∀H,c.Is H->∃B,WJ c E a0 H B) {Q:Exit->Act->aj->Prop} {rest:List Oper}
  (hn:c.n<=c.l.length) (O:∀q,HeadInv .any c.l.toArray c.n q->∀Y,Y<c.n->q.getD Y true=false->∀i,i∈Region.ready .any c.l.toArray q->i<c.n)
  (N:∀j,rest[j]? =c.l.toArray[c.n+j]?) (Z:Region.seqB .any c.l.toArray rest.length c.n (DF c.n c.l.toArray.size)=true)
  (a4:∀H B W,E H B->c.Rel W->(∀r∈c.T,r.bef=false->r.at H W)->wpList c.P c.l.toArray Q rest B W):
  ∀(f:Nat) (q:Array Bool) (a:Act) (W:aj) (H:Nat->aI) (B:Act),HeadInv .any c.l.toArray c.n q->(q.toList.take c.n).count false=f->aci c E a0 a W q H B->wpAny c.P .any c.l.toArray Q (f+rest.length) q a W:=by
 intro f
 induction f with
 |zero=>
  intro q a W H B u a5 I;have e:q=DF c.n c.l.toArray.size:=by
   apply Array.ext
   ·rw[u.size];simp[DF];omega
   ·intro i z X
    rcases dD i c.n with h|h
    ·have K:q[i]∈q.toList.take c.n:=by
      rw[jq];exact⟨i,by simp;omega,ι⟩
     have b1:q[i]≠false:=λe=>by
      rw[e] at K;have:=List.count_pos_iff.2 K;omega
     have:q[i]=true:=by simpa using b1
     rw[this];simp[DF,h]
    ·have:=u.tail i h (by rw[<-u.size];exact z)
     have U:q[i]=false:=by simpa[Array.getD,z] using this
     rw[U];simp[DF,List.getElem_append,Nat.not_lt.2 h]
  have M:∀j,j<c.n->q.getD j false=true:=λj hj=>by
   have b4:j<q.size:=by rw[u.size];simp;omega
   rw[e] at b4⊢;simp[DF,hj,List.getElem?_append]
  have hB:a=B:=by
   have ht:a.tmps=B.tmps:=by
        apply Array.ext_getElem?;intro t;by_cases J:∃j o,j<c.n/\c.l[j]? =some o/\o.dst=some t
        ·obtain⟨j,o,z,X,U⟩:=J
         exact I.told j o t z X (M j z) U
        ·have a1:∀(j:Nat) (o:Oper),j<c.n->c.l[j]? =some o->o.dst≠some t:=λj o z X U=>J ⟨j,o,z,X,U⟩
         exact(I.out t a1).trans (I.fin.out t a1).symm
   cases a;cases B;have:=I.defers.trans I.fin.defers.symm;simp only at ht this;subst ht;subst this;rfl
  subst hB;have hl:=a4 H a W I.fin.fin I.rel λr hr hb=>I.facts r hr (M _ (HT.lt r hr)) λh=>by rw[hb] at h;cases h
  rw[Nat.zero_add];subst e;exact wpAny_of_seq (md:= .any) rest c.n _ a W N Z hl
 |succ f ih=>
  intro q a W H B u a5 I;have J:∃i,i<c.n/\q.getD i true=false:=by
   have K:false∈q.toList.take c.n:=List.count_pos_iff.1 ω;rw[jq] at K;obtain⟨i,z,X⟩:=K;have a6:i<c.n/\i<q.size:=by simp at z;omega
   refine⟨i,a6.1,?_⟩;simp[Array.getD,a6.2];simpa using X
  obtain⟨Y,a3,a7⟩:=J;rw[show f+1+rest.length=(f+rest.length)+1 by omega];refine⟨λhr=>?_,λi hi=>?_⟩
  ·exfalso
   have key:∀k,k<c.n->q.getD k false=true:=by
        intro k
        induction k using Nat.strongRecOn with
        |ind k b0=>
         intro hk;rcases hb:q.getD k false with _|_
         ·exfalso
          have b3:k<q.size:=by rw[u.size];simp;omega
          have a2:k<c.l.length:=ω
          have K:k∈Region.ready .any c.l.toArray q:=by
             rw[mem_ready];refine⟨getD_in b3 hb,c.l[k],by simp[a2],λe he b5=>?_⟩;have b2:=F.back k c.l[k] hk (by simp[a2]) e (by simpa using he) b5;exact b0 e.on b2 ω
          rw[hr] at K;cases K
         ·rfl
   have h9:=key Y a3;rw[getD_both a7] at h9;cases h9
  ·have hin:i<c.n:=O q u Y a3 a7 i hi
   obtain⟨z,o,ho,b7⟩:=mem_ready.1 hi;refine aci.next F HT hz G u I hin z (by simpa using ho) (λe he hb=>b7 e (by simpa using he) hb) λa' W' a9 B' b6=>ih _ _ _ a9 B' (u.set hi hin) ?_ b6
   have a8:i<q.size:=by rw[u.size];simp;omega
   have e:(q.toList.take c.n)[i]? =some false:=by
        have U:q[i]=false:=by simpa[Array.getD,a8] using z
        rw[List.getElem?_take,if_pos hin];simp[a8,U]
   have key:∀(l:List Bool) (i:Nat),l[i]? =some false->(l.set i true).count false+1=l.count false:=by
        intro l
        induction l with
        |nil=>intro i h;simp at h
        |cons b l ih=>
         intro i h;cases i with
         |zero=>obtain rfl:b=false:=by simpa using h
                simp
         |succ i=>
          have:=ih i (by simpa using h);rw[List.set_cons_succ,List.count_cons,List.count_cons];omega
   have:=key _ i e;rw[Array.toList_setIfInBounds,List.take_set];omega
def Bg (l:List Oper) (n a k:Nat) (o:Oper):Bool:=
 (match o.op with| .select _ _=>false|_=>true)&&
 (match o.dst with|some d=>decide (d<a)&&(jm k).all λi=>(l[i]?.bind (·.dst))!=some d|none=>true)&&
 ((o.looksAt l.toArray).all λt=>((jm n).all λi=>(l[i]?.bind (·.dst))!=some t)||o.after.toList.any λe=>gF .any e&&(l[e.on]?.bind (·.dst))==some t)&&
 o.after.toList.all λe=> !Region.binds .any e||decide (e.on<k)
def NW (l:List Oper) (n a:Nat):Bool:=
 decide (n<=l.length)&&(decide (n=l.length)||Region.sinkB .any l.toArray n&&Region.chainB .any l.toArray n)&&Region.seqB .any l.toArray (l.length-n) n (DF n l.length)&&
 (jm n).all λk=>match l[k]? with|some o=>Bg l n a k o|none=>true
theorem SqF.of {l:List Oper} {n K:Nat} (h:((jm n).all λk=>match l[k]? with|some o=>Bg l n K k o|none=>true)=true):SqF l n K:=by
 have key:∀k o,k<n->l[k]? =some o->Bg l n K k o=true:=λk o f a=>by
  have:=fK.1 h k (jT.2 f);rw[a] at this;exact this
 have back:∀(k:Nat) (o:Oper),k<n->l[k]? =some o->∀e∈o.after.toList,gF .any e=true->e.on<k:=λk o f a e z U=>by
  have:=key k o f a;unfold Bg at this;rw[aQ] at this;have:=fK.1 this.2 e z;simpa[U] using this
 have early:∀(i j:Nat) (x y:Oper) (d:Nat),i<j->j<n->l[i]? =some x->l[j]? =some y->x.dst=some d->y.dst=some d->False:=λi j x y d N M q u I H=>by
  have:=key j y M u;unfold Bg at this;simp only[aQ] at this;have:=this.1.1.2;rw[H] at this;simp only[aQ] at this;have:=fK.1 this.2 i (jT.2 N);rw[q] at this;simp[I] at this
 refine⟨λk o f a X b e=>?_,λi j x y d hi M q u I H=>?_,λk o f a t O=>?_,λk o d f a Q=>?_,back⟩
 ·have:=key k o f a
  unfold Bg at this;rw[e] at this;simp at this
 ·rcases Nat.lt_trichotomy i j with g|g|g
  ·exact(early i j x y d g M q u I H).elim
  ·exact g
  ·exact(early j i y x d g hi u q H I).elim
 ·have:=key k o f a
  unfold Bg at this;simp only[aQ] at this;have:=fK.1 this.1.2 t O;rw[dV] at this;rcases this with g|g
  ·refine jV λi x hi q W=>?_
   have:=fK.1 g i (jT.2 hi);rw[q] at this;simp[W] at this
  ·obtain⟨e,z,g⟩:=List.any_eq_true.1 g
   rw[aQ] at g;refine mQ ⟨e,z,g.1,back k o f a e z g.1,?_⟩;have J:=eq_of_beq g.2;cases q:l[e.on]? with
   |none=>rw[q] at J;cases J
   |some x=>rw[q] at J;exact⟨x,rfl,J⟩
 ·have:=key k o f a
  unfold Bg at this;simp only[aQ] at this;have:=this.1.1.2;rw[Q] at this;simp only[aQ,decide_eq_true_eq] at this;exact this.1
def SqC.Vk (c:SqC):Bool:=c.T.all (λr=>decide (r.k<c.n)&&(decide (c.n<=r.d)||c.anc r.d r.k)&&r.d !=r.k)&&decide (c.T.map (·.k)).Nodup
def SqC.QE (c:SqC):List qO->Prop
 |[]=>True
 |r::T=>(∀x y W W',r.R x y W->c.S W W'->r.R x y W')/\(r.bef=false->r.k≠c.k0->∀x y W W',r.R x y W->c.S0 W W'->r.R x y W')/\SqC.QE c T
theorem DV {c:SqC}:∀{T:List qO},c.QE T->∀r∈T,(∀x y W W',r.R x y W->c.S W W'->r.R x y W')/\(r.bef=false->r.k≠c.k0->∀x y W W',r.R x y W->c.S0 W W'->r.R x y W')
 |r::T,h,r',a=>by
  rcases aS.1 a with rfl|a
  ·exact⟨h.1,h.2.1⟩
  ·exact DV h.2.2 r' a
def SqC.YJ (a:Nat->aI) (W:aj):List qO->Prop
 |[]=>True
 |r::T=>(r.bef=false->r.at a W)/\SqC.YJ a W T
theorem WH {a:Nat->aI} {W:aj}:∀{T:List qO},(∀r∈T,r.bef=false->r.at a W)->SqC.YJ a W T
 |[],_=>trivial
 |r::T,h=>⟨h r ι,WH λe f=>h e (by simp[f])⟩
def ZM:List qO->Nat->aI
 |[],_=>undef
 |r::T,k=>if r.k=k then r.is.getD undef else ZM T k
theorem FU:∀{T:List qO},(T.map (·.k)).Nodup->∀r∈T,∀u,r.is=some u->ZM T r.k=u
 |r::T,h,r',a,u,hu=>by
  rw[bU,iH] at h;unfold ZM;rcases aS.1 a with rfl|a
  ·rw[if_pos rfl,hu];rfl
  ·rw[if_neg (show¬r.k=r'.k from λe=>h.1 (e▸dH.2 ⟨r',a,rfl⟩))]
   exact FU h.2 r' a u hu
theorem Z0:∀{T:List qO},(T.map (·.k)).Nodup->∀r∈T,∀a∈T,r.k=a.k->r=a
 |x::T,h,r,hr,a,hr',e=>by
  rw[bU,iH] at h;rcases aS.1 hr with rfl|g <;> rcases aS.1 hr' with rfl|f
  ·rfl
  ·exact absurd (dH.2 ⟨a,f,e.symm⟩) h.1
  ·exact absurd (dH.2 ⟨r,g,e⟩) h.1
  ·exact Z0 h.2 r g a f e
theorem YV (c:SqC) {Q:Exit->Act->aj->Prop} {a:Act} {w:aj} {id:Nat} (hm:c.P.follows .mixedOrders=true) (q:NW c.l c.n a.tmps.size=true) (f:c.Vk=true)
  (hw:c.Rel { w with drawn:=w.drawn+1 }) (hp:c.Pre { w with drawn:=w.drawn+1 }) (hR:∀W W',c.Rel W->c.S W W'->c.Rel W') (hP:∀W W',c.Pre W->c.S W W'->c.Pre W') (J:c.QE c.T)
  (H:∀u,c.Is u->SqW c u (λB=>∀W,c.Rel W->SqC.YJ u W c.T->wpList c.P c.l.toArray Q (c.l.drop c.n) B W) 0 a):(Code.region id c.l.toArray true).wp c.P Q a w:=by
 unfold NW at q;simp only[aQ,dV,decide_eq_true_eq] at q;obtain⟨⟨⟨hn,N⟩,hq⟩,hF⟩:=q;unfold SqC.Vk at f;rw[aQ,decide_eq_true_eq] at f;obtain⟨a0,K⟩:=f;have F:=SqF.of hF;have z:∀r∈c.T,r.k<c.n/\(c.n<=r.d\/c.anc r.d r.k=true)/\r.d≠r.k:=λr I=>by
  have:=fK.1 a0 r I;simp only[aQ,dV,decide_eq_true_eq,bne_iff_ne] at this;exact⟨this.1.1,this.1.2,this.2⟩
 have HT:SqT c:=⟨λr I=>(z r I).1,Z0 K,λr I=>(z r I).2.1,λr I=>(z r I).2.2,λr I=>(DV J r I).1,λr I=>(DV J r I).2,hR,hP⟩;have G:∀u,c.Is u->∃B,WJ c (λu B=>∀W,c.Rel W->SqC.YJ u W c.T->wpList c.P c.l.toArray Q (c.l.drop c.n) B W) a u B:=λu Y=>by
  obtain⟨B,b1,b2,b3,b4,b5⟩:=(H u Y).spec F hn rfl;exact⟨B,b1,b2,b3,λt ht=>b4 t λj o _ g2 go=>ht j o g2 go,λj o g go=>b5 j o (Nat.zero_le _) g go⟩
 obtain⟨B0,a1⟩:=G (ZM c.T) (FU K);have M:HeadInv .any c.l.toArray c.n (Array.replicate c.l.toArray.size false):=
  ⟨ι,λj oj _ hl=>(by rw[iB] at hl;cases hl),λt _ ht=>getD_in (by simpa using ht) (iB _ _)⟩
 refine wp_region_any hm ?_;have O:(c.l.drop c.n).length=c.l.length-c.n:=ι
 have:=YW F HT (Q:=Q) rfl G hn (λU X i0 h0 Z i hi=>by
   rcases N with N|N
   ·obtain⟨_,o,ho,_⟩:=mem_ready.1 hi
    have:=(aC.1 ho).1;simp at this;omega
   ·rcases dD i c.n with g|g
    ·exact g
    ·obtain⟨_,o,ho,_⟩:=mem_ready.1 hi
     have hl:=(aC.1 ho).1;exact absurd hi (tail_waits N.1 N.2 ω X _ i0 rfl h0 Z i g)) (rest:=c.l.drop c.n) (λj=>by simp[List.getElem?_drop]) (by rw[O];simpa using hq)
  (λu B W hE hW hf=>hE W hW (WH hf)) c.n (Array.replicate c.l.toArray.size false) a { w with drawn:=w.drawn+1 } (ZM c.T) B0 M (by simp;omega)
  ⟨FU K,a1,λr _ h=>by(rw[iB] at h;cases h),λ_ _=>rfl,λj o d _ _ h=>by(rw[iB] at h;cases h),hw,λ_=>hp,rfl,rfl,λj _ h=>by(rw[iB] at h;cases h)⟩
 rw[O] at this;have e:c.n+(c.l.length-c.n)=c.l.toArray.size:=by simp;omega
 rw[e] at this;exact this
def rw1 (k:Nat) (R:aI->aj->Prop):qO:=⟨k,9999,none,false,λv _ W=>R v W⟩
def rwI (k:Nat) (v:aI):qO:=⟨k,9999,some v,false,λ_ _ _=>True⟩
def rw2 (k d:Nat) (R:aI->aI->aj->Prop):qO:=⟨k,d,none,false,R⟩
def sq0 (P:fZ) (l:List Oper) (n:Nat) (T:List qO) (w:aj):SqC:=⟨P,l,n,99999,T,Ext w,λ_=>True,Ext,Ext⟩
def aac:List qO->Prop
 |[]=>True
 |r::T=>(∀x y W W',r.R x y W->Ext W W'->r.R x y W')/\aac T
theorem JE {P:fZ} {l:List Oper} {n:Nat} {a:List qO} {w:aj}:∀{T:List qO},aac T->(sq0 P l n a w).QE T
 |[],_=>trivial
 |r::T,h=>⟨h.1,λ_ _=>h.1,JE h.2⟩
section
variable {P:fZ} {l:List Oper} {n:Nat} {T:List qO} {w:aj} {ρ:Nat->aI} {E:Act->Prop}
theorem XB {j:Array Oper} {o:Oper} {a:Act} {K u:aI->aj->Prop} (h:∀v W,K v W->u v W) (i:loud P j o a w K):loud P j o a w u:=by
 unfold loud at i⊢
 split
 ·rename_i q
  rw[if_pos q] at i;generalize(jc a.eval o).run P w=r at*;cases r with
  |ok x w'=>
   cases x <;> simp only[oG] at i⊢
   case enter f args=>exact i.mono λe W ⟨v,z,hv⟩=>⟨v,z,h _ _ hv⟩
   all_goals exact h _ _ i
  |halt x w'=>simp only[oG] at i
 ·rename_i q
  rw[if_neg q] at i;exact h _ _ i
theorem SqW.c {k:Nat} {A:Act} (i:Nat) {R:aI->aj->Prop} {o:Oper} (hi:T[i]? =some (rw1 k R)) (j:l[k]? =some o) (z:k<9999) (q:(sq0 P l n T w).rowB [] false k i=true) (f:∀W,Ext w W->loud P l.toArray o A W λv W'=>R v W'/\Ext W W')
  (h:SqW (sq0 P l n T w) ρ E (k+1) (A.put o.dst (ρ k))):SqW (sq0 P l n T w) ρ E k A:=
 .row i [] false _ o hi j q (λW x _ _=>by
  have a:¬k=(sq0 P l n T w).k0:=by show¬k=99999;omega
  exact XB (λv W' h=>⟨λu e=>(by cases e),h.1,(by rw[if_neg a];exact h.2)⟩) (f W x)) h
end
attribute [local go_sem] calm oK oG
theorem oz {p:Prop} (h:p:=by
 repeat(refine PN λK hK=>?_;go_simp;refine hK _ ?_;clear hK K)
 exact SC rfl):p:=h
theorem Ext.same {w W:aj} (x:Ext w W) (p:Addr) (h:(w.cell? p).isSome=true):W.cell? p=w.cell? p:=by
 cases e:w.cell? p with
 |none=>rw[e] at h;cases h
 |some v=>exact x.keep e
section
variable {P:fZ} {l:List Oper} {n:Nat} {T:List qO} {w:aj} {ρ:Nat->aI} {E:Act->Prop}
theorem SqW.s {k:Nat} {A e:Act} (m:Nat) (f:∀W,Ext w W->(∀p,(w.cell? p).isSome=true->W.cell? p=w.cell? p)->wN P l.toArray W (λa=>a=e) ((l.drop k).take m) A) (h:SqW (sq0 P l n T w) ρ E (k+m) e)
  (j:(sq0 P l n T w).acR [] false k m=true:=by kernel_rfl) (i:blank ((l.drop k).take m) e=blank ((l.drop k).take m) A:=by kernel_rfl):SqW (sq0 P l n T w) ρ E k A:=
 .seg m [] false e j (λW x _ _=>f W x λp h=>Ext.same x p h) i h
theorem SqW.k {k:Nat} {A:Act} (i:Nat) {R:aI->aj->Prop} {o:Oper} {f:FuncId} {args:Array aI} (z:∀W,Ext w W->Calls P f args W λe W'=>∃v,e= .returned v/\R v W'/\Ext W W') (h:SqW (sq0 P l n T w) ρ E (k+1) (A.put o.dst (ρ k)))
  (hi:T[i]? =some (rw1 k R):=by exact rfl) (j:l[k]? =some o:=by exact rfl) (q:k<9999:=by decide) (H:(sq0 P l n T w).rowB [] false k i=true:=by kernel_rfl)
  (u:bX o (jf l.toArray A.tmps)=true:=by kernel_rfl) (a:∀W,(jc A.eval o).run P W= .ok (.enter f args) W:=by intro W;go_simp):SqW (sq0 P l n T w) ρ E k A:=
 .c i hi j q H (λW x=>by
  unfold loud;rw[if_pos u,a W];exact z W x) h
end
section
variable {P:fZ} {l:List Oper} {n:Nat} {T:List qO} {w:aj} {ρ:Nat->aI} {E:Act->Prop}
theorem Oz {e:Array Oper} {o:Oper} {a:Act} {W:aj} {K:aI->aj->Prop} (f:bX o (jf e a.tmps)=true) (h:oG P K ((jc a.eval o).run P W)):loud P e o a W K:=by
 unfold loud;rw[if_pos f];exact h
theorem SqW.o {k:Nat} {A:Act} (i:Nat) (J:List Nat) {r:qO} {o:Oper} (a:∀W,Ext w W->(∀p,(w.cell? p).isSome=true->W.cell? p=w.cell? p)->(sq0 P l n T w).fj ρ W J->∀N:aI->aj->Prop,(∀v W',(∀u,r.is=some u->v=u)->r.R v (ρ r.d) W'->Ext W W'->N v W')->oG P N ((jc A.eval o).run P W))
  (h:SqW (sq0 P l n T w) ρ E (k+1) (A.put o.dst (ρ k))) (hi:T[i]? =some r:=by exact rfl) (e:l[k]? =some o:=by exact rfl) (K:k<9999:=by decide) (q:(sq0 P l n T w).rowB J false k i=true:=by kernel_rfl) (j:bX o (jf l.toArray A.tmps)=true:=by kernel_rfl):SqW (sq0 P l n T w) ρ E k A:=
 .row i J false r o hi e q (λW x _ f=>Oz j (a W x (λp h=>Ext.same x p h) f _ λv W' I H z=>⟨I,H,by
  rw[if_neg (show¬k=(sq0 P l n T w).k0 by show¬k=99999;omega)];exact z⟩)) h
theorem SqW.v {k:Nat} {A:Act} (K:(sq0 P l n T w).Is ρ) (i:Nat) (J:List Nat) (v:aI) {o:Oper} (j:∀W,Ext w W->(∀p,(w.cell? p).isSome=true->W.cell? p=w.cell? p)->(sq0 P l n T w).fj ρ W J->∀N:aI->aj->Prop,(∀W',Ext W W'->N v W')->oG P N ((jc A.eval o).run P W))
  (h:SqW (sq0 P l n T w) ρ E (k+1) (A.put o.dst v)) (hi:T[i]? =some (rwI k v):=by exact rfl) (q:l[k]? =some o:=by exact rfl) (z:k<9999:=by decide) (M:(sq0 P l n T w).rowB J false k i=true:=by kernel_rfl) (H:bX o (jf l.toArray A.tmps)=true:=by kernel_rfl):SqW (sq0 P l n T w) ρ E k A:=
 SqW.o i J (λW x y f N I=>j W x y f N λW' a=>I v W' (λu e=>fI e) trivial a) (by rw[show ρ k=v from K (rwI k v) (aP hi) v rfl];exact h) hi q z M H
theorem SqW.kv {k:Nat} {A:Act} (H:(sq0 P l n T w).Is ρ) (i:Nat) (v:aI) {o:Oper} {f:FuncId} {args:Array aI} (I:∀W,Ext w W->Calls P f args W λe W'=>e= .returned v/\Ext W W') (h:SqW (sq0 P l n T w) ρ E (k+1) (A.put o.dst v))
  (hi:T[i]? =some (rwI k v):=by exact rfl) (j:l[k]? =some o:=by exact rfl) (q:k<9999:=by decide) (J:(sq0 P l n T w).rowB [] false k i=true:=by kernel_rfl)
  (u:bX o (jf l.toArray A.tmps)=true:=by kernel_rfl) (a:∀W,(jc A.eval o).run P W= .ok (.enter f args) W:=by intro W;go_simp):SqW (sq0 P l n T w) ρ E k A:=
 SqW.v H i [] v (λW x _ _ N z=>by
  rw[a W];exact(I W x).mono λe W' h=>⟨v,h.1,z W' h.2⟩) h hi j q J u
end
theorem Ext.blk {W W':aj} (e:Ext W W') {q:Nat} {o:Obj} (h:W.heap[q]? =some o):W'.heap[q]? =some o:=by
 rw[aJ e q (aC.1 h).1];exact h
def agH (ρ:Nat->aI) (W:aj):List qO->Prop
 |[]=>True
 |r::T=>r.R (ρ r.k) (ρ r.d) W/\agH ρ W T
theorem WI {ρ:Nat->aI} {W:aj}:∀{T:List qO},T.all (λr=> !r.bef)=true->SqC.YJ ρ W T->agH ρ W T
 |[],_,_=>trivial
 |r::T,hb,h=>by
  rw[jS,aQ] at hb;exact⟨h.1 (by simpa using hb.1),WI hb.2 h.2⟩
theorem qX {P:fZ} {l:List Oper} (n:Nat) (T:List qO) {Q:Exit->Act->aj->Prop} {a:Act} {w:aj} {id:Nat} (f:aac T)
  (H:∀ρ,(sq0 P l n T w).Is ρ->SqW (sq0 P l n T w) ρ (λB=>∀W,Ext w W->agH ρ W T->wpList P l.toArray Q (l.drop n) B W) 0 a)
  (j:P.follows .mixedOrders=true:=by kernel_rfl) (i:NW l n a.tmps.size=true:=by kernel_rfl) (e:(sq0 P l n T w).Vk=true:=by kernel_rfl) (q:T.all (λr=> !r.bef)=true:=by kernel_rfl):(Code.region id l.toArray true).wp P Q a w:=
 YV (sq0 P l n T w) j i e ((Ext.refl w).drew) trivial (λ_ _=>Ext.trans) (λ_ _ _ _=>trivial) (JE f) λρ h=>(H ρ h).mono λB g W u z=>g W u (WI q z)
end
end Go.Proofs.YtejbpijamdlgcaaGreatDoor

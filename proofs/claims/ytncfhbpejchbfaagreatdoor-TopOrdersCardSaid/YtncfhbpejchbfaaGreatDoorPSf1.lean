/-
  Lemmas of this seat; no claim.
-/
import Derived.StillTailTactics
import Derived.Test.YtncfhbpejchbfaaGreatDoorPAf1
set_option linter.unusedVariables false
set_option linter.unusedSimpArgs false
open Array renaming getElem?_eq_some_iff→an,getElem?_setIfInBounds_ne→gL,getElem?_setIfInBounds_self→bI
open Bool renaming and_eq_true→aC,or_eq_true→cE
open Go renaming Program→dz,Value→au,World→ae,execOp_congr→gv,execOp→eQ,getD_replicate_false→ec,yielded→eU
open Go.Act renaming put→fE
open Go.Region renaming binds→dF,wanted→bD
open Go.RowKit.Below renaming block→av
open List renaming all_cons→fR,all_eq_true→dw,getD_eq_getElem?_getD→cQ,getElem?_eq_getElem→ay,getElem?_eq_none→cU,length_append→ag,length_singleton→cy,map_cons→bA,mem_cons→aE,mem_map→cG,mem_of_getElem?→aD,mem_range→fP,mem_take_iff_getElem→fg,nodup_cons→dZ,range→fQ,replicate→dr
open Nat renaming le_refl→am,lt_or_ge→bL
open Option.some renaming inj→cO
open Or renaming inl→fU,inr→iL
namespace Go.Proofs.YtncfhbpejchbfaaGreatDoor
open Go.ChangeShapes Go.WideShapes Go.ChangeAt Go.RowKit Go.Sort
section
def jL (o:Oper) (a:Act) (w:ae) (next:Act->Prop):Result Next->Prop
 | .ok (.value v) w'=>w'=w/\next (a.put o.dst v)
 | .ok .skip w'=>w'=w/\next (a.put o.dst undef)
 |_=>False
def calm (P:dz) (o:Oper) (a:Act) (w:ae) (next:Act->Prop):Prop:=jL o a w next ((eQ a.eval o).run P w)
def rT (P:dz) (e:Array Oper) (w:ae) (Q:Act->Prop):List Oper->Act->Prop
 |[],a=>Q a
 |o::r,a=>if bD o (eU e a.tmps) then calm P o a w (rT P e w Q r) else rT P e w Q r (a.put o.dst undef)
theorem Qg {P:dz} {e:Array Oper} {w:ae} {Q:Act->Prop} {a:Act} (h:Q a):rT P e w Q [] a:=h
theorem Nc {P:dz} {e:Array Oper} {w:ae} {Q:Act->Prop} {a:Act} {o:Oper} {r:List Oper}
  (h:∀K:Act->Prop,(∀a,rT P e w Q r a->K a)->if bD o (eU e a.tmps) then calm P o a w K else K (a.put o.dst undef)):rT P e w Q (o::r) a:=h _ λ_ h=>h
def jH (P:dz) (K:au->ae->Prop):Result Next->Prop
 | .ok (.value v) w'=>K v w'
 | .ok .skip w'=>K undef w'
 | .ok (.enter f args) w'=>Calls P f args w' λe a=>∃v,e= .returned v/\K v a
 |_=>False
def loud (P:dz) (e:Array Oper) (o:Oper) (a:Act) (w:ae) (K:au->ae->Prop):Prop:=
 if bD o (eU e a.tmps) then jH P K ((eQ a.eval o).run P w) else K undef w
theorem abx {P:dz} {i:Array Oper} {o:Oper} {a:Act} {w:ae} {K:au->ae->Prop} {Q:Exit->Act->ae->Prop} {k:Nat} {N:Act->ae->Prop} (u:i[k]? =some o) (q:∀v W',K v W'->N (a.put o.dst v) W') (h:loud P i o a w K):wpOp P i Q k N a w:=by
 unfold wpOp;simp only[u];unfold loud at h
 split at h
 ·rename_i j
  rw[if_pos j];refine fU ?_;unfold Oper.wp;generalize(eQ a.eval o).run P w=r at*;cases r with
  |ok n w'=>
   cases n <;> simp only[jH] at h <;> simp only[Oper.upon]
   case enter f args=>exact h.mono λe W ⟨v,z,hv⟩=>by subst z;exact q _ _ hv
   all_goals exact q _ _ h
  |halt x w'=>simp only[jH] at h
 ·rename_i j
  rw[if_neg j];exact q _ _ h
def M6:List Oper->List Nat->List Nat
 |[],acc=>acc
 |o::r,acc=>M6 r (acc++[o.after.toList.foldl (λm e=>if dF .any e then m|||(1<<<e.on|||acc.getD e.on 0) else m) 0])
def ah3 (l:List Oper):List Nat:=M6 l []
def anc (A:List Nat) (j k:Nat):Bool:=(A.getD k 0).testBit j
theorem testBit_fold (f:Edge->Nat) (b:Edge->Bool) (j:Nat):∀(l:List Edge) (m:Nat),(l.foldl (λm e=>if b e then m|||f e else m) m).testBit j=true->m.testBit j=true\/∃e∈l,b e=true/\(f e).testBit j=true
 |[],m,h=>fU h
 |e::l,m,h=>by
  rcases testBit_fold f b j l _ h with h|⟨u,q,a,i⟩
  ·simp only at h
   split at h
   ·rename_i a
    rw[Nat.testBit_or,cE] at h;exact h.imp id λh=>⟨e,ι,a,h⟩
   ·exact fU h
  ·exact iL ⟨u,by simp[q],a,i⟩
theorem EH {X:Nat->Nat->Prop} {l0:List Oper} (H:∀(k:Nat) (o:Oper),l0[k]? =some o->∀e∈o.after.toList,dF .any e=true->X e.on k/\∀j,X j e.on->X j k):
  ∀(l:List Oper) (f:List Nat),(∀i,l[i]? =l0[f.length+i]?)->(∀j k,k<f.length->(f.getD k 0).testBit j=true->X j k)->∀j k,((M6 l f).getD k 0).testBit j=true->X j k
 |[],f,_,h,j,k,q=>by
  rcases bL k f.length with u|u
  ·exact h j k u q
  ·rw[M6,cQ,cU u] at q;simp at q
 |o::l,f,hl,h,j,k,q=>by
  refine EH H l _ (λi=>?_) (λj k u q=>?_) j k q
  ·have:=hl (i+1)
   rw[List.getElem?_cons_succ] at this;rw[this,ag,cy]
   congr 1
   omega
  ·rw[ag,cy] at u
   rcases bL k f.length with z|z
   ·rw[cQ,List.getElem?_append_left z,<-cQ] at q
    exact h j k z q
   ·obtain rfl:k=f.length:=ω
    rw[cQ,List.getElem?_append_right (am _),Nat.sub_self] at q;have J:l0[f.length]? =some o:=by have:=hl 0;simpa using this.symm
    rcases testBit_fold _ _ j _ _ q with I|⟨e,K,M,a⟩
    ·simp at I
    ·obtain⟨O,N⟩:=H _ o J e K M
     rw[Nat.testBit_or,cE] at a;rcases a with a|a
     ·rw[Nat.one_shiftLeft,Nat.testBit_two_pow] at a
      have:e.on=j:=by simpa using a
      exact this▸O
     ·refine N j ?_
      rcases bL e.on f.length with u|u
      ·exact h j _ u a
      ·rw[cQ,cU u] at a;simp at a
structure lU where
 k:Nat
 d:Nat
 is:Option au
 bef:Bool
 R:au->au->ae->Prop
structure SqC where
 P:dz
 l:List Oper
 n:Nat
 k0:Nat
 T:List lU
 Rel:ae->Prop
 Pre:ae->Prop
 S:ae->ae->Prop
 S0:ae->ae->Prop
def SqC.anc (c:SqC) (j k:Nat):Bool:=Go.Proofs.YtncfhbpejchbfaaGreatDoor.anc (ah3 c.l) j k
def SqC.pre (c:SqC) (k:Nat):Bool:=k==c.k0||c.anc k c.k0
def lU.at (r:lU) (a:Nat->au) (W:ae):Prop:=r.R (a r.k) (a r.d) W
def SqC.fj (c:SqC) (a:Nat->au) (W:ae):List Nat->Prop
 |[]=>True
 |i::J=>(match c.T[i]? with|some r=>r.at a W|none=>True)/\SqC.fj c a W J
def SqC.aa6 (c:SqC) (J:List Nat) (b:Bool) (k m:Nat):Bool:=decide (k+m<=c.n)&&(fQ m).all λi=>(!b||c.pre (k+i))&&c.T.all (λr=>r.k !=k+i)&&J.all λj=>match c.T[j]? with|some r=>c.anc r.k (k+i)&&(!r.bef||c.pre (k+i))|none=>true
def SqC.rowB (c:SqC) (J:List Nat) (b:Bool) (k i:Nat):Bool:=decide (k<c.n)&&(match c.T[i]? with|some r=>r.k==k|none=>false)&&(!b||c.pre k)&&J.all λj=>match c.T[j]? with|some r=>c.anc r.k k&&(!r.bef||c.pre k)|none=>true
def blank:List Oper->Act->Act
 |[],a=>a
 |o::r,a=>blank r (a.put o.dst undef)
inductive SqW (c:SqC) (ρ:Nat->au) (E:Act->Prop):Nat->Act->Prop
 |fin {A:Act} (h:E A):SqW c ρ E c.n A
 |seg {k:Nat} {A:Act} (m:Nat) (J:List Nat) (b:Bool) (A':Act) (hB:c.aa6 J b k m=true) (hw:∀W,c.Rel W->(b=true->c.Pre W)->c.fj ρ W J->rT c.P c.l.toArray W (λa=>a=A') ((c.l.drop k).take m) A) (hM:blank ((c.l.drop k).take m) A'=blank ((c.l.drop k).take m) A) (h:SqW c ρ E (k+m) A'):SqW c ρ E k A
 |row {k:Nat} {A:Act} (i:Nat) (J:List Nat) (b:Bool) (r:lU) (o:Oper) (hi:c.T[i]? =some r) (ho:c.l[k]? =some o) (hB:c.rowB J b k i=true)
   (hw:∀W,c.Rel W->(b=true->c.Pre W)->c.fj ρ W J->loud c.P c.l.toArray o A W λv W'=>(∀u,r.is=some u->v=u)/\r.R v (ρ r.d) W'/\(if k=c.k0 then c.Rel W'/\c.S0 W W' else c.S W W'))
   (h:SqW c ρ E (k+1) (A.put o.dst (ρ k))):SqW c ρ E k A
theorem SqW.mono {c:SqC} {f:Nat->au} {E j:Act->Prop} (z:∀B,E B->j B) {k:Nat} {A:Act} (h:SqW c f E k A):SqW c f j k A:=by
 induction h with
 |fin h=>exact .fin (z _ h)
 |seg m J b H e a u h ih=>exact .seg m J b H e a u ih
 |row i J b r o hi q e a h ih=>exact .row i J b r o hi q e a ih
def Same (A B:Act) (t:Nat):Prop:=A.tmps[t]? =B.tmps[t]?
theorem wF {a:Array Oper} {A B:Act} {o:Oper} (h:∀t∈o.looksAt a,Same A B t):∀x∈o.op.operands,A.eval x=B.eval x:=by
 intro x e;cases x with
 |tmp t=>
  have:=h t (List.mem_append_left _ (List.mem_filterMap.2 ⟨.tmp t,by simpa using e,rfl⟩));simp only[Act.eval,Array.getD_eq_getD_getElem?,show A.tmps[t]? =B.tmps[t]? from this]
 |_=>rfl
theorem pR {a:Array Oper} {A B:Act} {o:Oper} (h:∀t∈o.looksAt a,Same A B t):bD o (eU a A.tmps)=bD o (eU a B.tmps):=by
 unfold bD;cases e:o.guard with
 |none=>rfl
 |some p=>
  obtain⟨g,b⟩:=p;simp only[eU];cases f:(a[g]?).bind (·.dst) with
  |none=>rfl
  |some t=>
   have:=h t (List.mem_append_right _ (by rw[e];simp[f]));simp only[Option.bind_some,show A.tmps[t]? =B.tmps[t]? from this]
def nZ (P:dz) (e:Array Oper) (o:Oper) (A:Act) (W:ae):Prop:=
 if bD o (eU e A.tmps) then calm P o A W (λa=>∀d,o.dst=some d->Same a A d) else ∀d,o.dst=some d->Same (A.put o.dst undef) A d
theorem nZ.same {P:dz} {q:Array Oper} {o:Oper} {A B:Act} {W:ae} (H:∀J b,o.op≠ .select J b) (z:A.tmps.size=B.tmps.size) (h:∀t∈o.looksAt q,Same A B t) (a:nZ P q o A W) (f:nZ P q o B W):∀d,o.dst=some d->Same A B d:=by
 intro d e;have I:eQ A.eval o=eQ B.eval o:=gv o H (wF h);have put:∀v,Same (A.put (some d) v) (B.put (some d) v) d:=λv=>by
  simp only[Same,fE,bI,z]
 unfold nZ at a f;rw[pR h] at a
 split at a
 ·rename_i u
  rw[if_pos u] at f;unfold calm at a f;rw[I] at a;generalize(eQ B.eval o).run P W=r at*;cases r with
  |ok n w'=>
   cases n <;> simp only[jL] at a f
   ·have j:=a.2 d e;have i:=f.2 d e;rw[e] at j i;exact j.symm.trans ((put _).trans i)
   ·have j:=a.2 d e;have i:=f.2 d e;rw[e] at j i;exact j.symm.trans ((put _).trans i)
  |halt x w'=>simp only[jL] at a
 ·rename_i u
  rw[if_neg u] at f;have j:=a d e;have i:=f d e;rw[e] at j i;exact j.symm.trans ((put _).trans i)
theorem nZ.to {P:dz} {f:Array Oper} {o:Oper} {A B:Act} {W:ae} (u:∀I b,o.op≠ .select I b) (q:A.tmps.size=B.tmps.size) (h:∀t∈o.looksAt f,Same A B t) (H:∀d,o.dst=some d->Same A B d) (a:nZ P f o A W):nZ P f o B W:=by
 have z:eQ A.eval o=eQ B.eval o:=gv o u (wF h);have put:∀d v,o.dst=some d->Same (A.put o.dst v) A d->Same (B.put o.dst v) B d:=λd v e j=>by
  rw[e] at j⊢;simp only[Same,fE,bI,q] at j⊢;exact j.trans (H d e)
 unfold nZ at a⊢;rw[pR h] at a
 split at a
 ·rename_i i
  rw[if_pos i];unfold calm at a⊢;rw[z] at a;generalize(eQ B.eval o).run P W=r at*;cases r with
  |ok n w'=>
   cases n <;> simp only[jL] at a⊢
   ·exact⟨a.1,λd e=>put d _ e (a.2 d e)⟩
   ·exact⟨a.1,λd e=>put d _ e (a.2 d e)⟩
  |halt x w'=>simp only[jL] at a
 ·rename_i i
  rw[if_neg i];exact λd e=>put d _ e (a d e)
theorem Iy:∀(l:List Oper) (A B:Act),blank l A=blank l B->A.tmps.size=B.tmps.size/\A.defers=B.defers/\∀t,(∀o∈l,o.dst≠some t)->Same A B t
 |[],A,B,h=>by cases h;exact⟨rfl,rfl,λ_ _=>rfl⟩
 |o::l,A,B,h=>by
  obtain⟨i,f,q⟩:=Iy l _ _ h;cases H:o.dst with
  |none=>rw[H] at i f q;exact⟨i,f,λt j=>q t λu a=>j u (by simp[a])⟩
  |some d=>
   rw[H] at i f q;simp only[fE,Array.size_setIfInBounds] at i f;refine⟨i,f,λt j=>?_⟩;have z:d≠t:=λe=>j o ι (by rw[H,e])
   have:=q t λu a=>j u (by simp[a])
   simpa only[Same,fE,gL z] using this
theorem vQ {A:Act} {o:Option Tmp} {v:au} {t:Nat} (h:o≠some t):Same (A.put o v) A t:=by
 cases o with
 |none=>rfl
 |some d=>
  have a:d≠t:=λe=>h (by rw[e])
  simp only[Same,fE,gL a]
theorem xV (A:Act) (o:Option Tmp) (v:au):(A.put o v).tmps.size=A.tmps.size:=by cases o <;> simp[fE]
theorem put_defers (A:Act) (o:Option Tmp) (v:au):(A.put o v).defers=A.defers:=by cases o <;> rfl
structure SqF (l:List Oper) (n sz:Nat):Prop where
 sel:∀(k:Nat) (o:Oper),k<n->l[k]? =some o->∀cs b,o.op≠ .select cs b
 nd:∀(i j:Nat) (x y:Oper) (d:Nat),i<n->j<n->l[i]? =some x->l[j]? =some y->x.dst=some d->y.dst=some d->i=j
 looks:∀(k:Nat) (o:Oper),k<n->l[k]? =some o->∀t∈o.looksAt l.toArray,(∀(i:Nat) (x:Oper),i<n->l[i]? =some x->x.dst≠some t)\/∃e∈o.after.toList,dF .any e=true/\e.on<k/\∃x,l[e.on]? =some x/\x.dst=some t
 size:∀(k:Nat) (o:Oper) (d:Nat),k<n->l[k]? =some o->o.dst=some d->d<sz
 back:∀(k:Nat) (o:Oper),k<n->l[k]? =some o->∀e∈o.after.toList,dF .any e=true->e.on<k
theorem SqF.early {l:List Oper} {n sz:Nat} (F:SqF l n sz) {k:Nat} {o:Oper} (K:k<n) (H:l[k]? =some o):∀t∈o.looksAt l.toArray,∀(j:Nat) (x:Oper),k<=j->j<n->l[j]? =some x->x.dst≠some t:=by
 intro t z j x J i f q;rcases F.looks k o K H t z with h|⟨e,M,N,I,y,u,a⟩
 ·exact h j x i f q
 ·have:=F.nd _ _ _ _ _ ω i u f a q
  omega
theorem J8 {P:dz} {l:List Oper} {n sz:Nat} {W:ae} (F:SqF l n sz) (O:n<=l.length):∀(m k:Nat) (A e:Act),k+m<=n->A.tmps.size=sz->rT P l.toArray W (λa=>a=e) ((l.drop k).take m) A->
  e.tmps.size=A.tmps.size/\(∀t,(∀(j:Nat) (o:Oper),k<=j->j<k+m->l[j]? =some o->o.dst≠some t)->Same e A t)/\∀(j:Nat) (o:Oper),k<=j->j<k+m->l[j]? =some o->nZ P l.toArray o e W
 |0,k,A,e,hm,hz,h=>by
  rw[List.take_zero] at h;obtain rfl:A=e:=h;exact⟨rfl,λ_ _=>rfl,λj o u I _=>ω⟩
 |m+1,k,A,e,hm,hz,h=>by
  have Y:k<l.length:=ω
  have f:l[k]? =some l[k]:=ay Y;rw[List.drop_eq_getElem_cons Y,List.take_succ_cons] at h;generalize l[k]=o at*;have H:∀v,rT P l.toArray W (λa=>a=e) ((l.drop (k+1)).take m) (A.put o.dst v)->e.tmps.size=A.tmps.size/\(∀t,(∀(j:Nat) (x:Oper),k<=j->j<k+(m+1)->l[j]? =some x->x.dst≠some t)->Same e A t)/\(∀d,o.dst=some d->Same (e.put o.dst v) e d)/\(∀t∈o.looksAt l.toArray,Same A e t)/\∀(j:Nat) (x:Oper),k+1<=j->j<k+(m+1)->l[j]? =some x->nZ P l.toArray x e W:=by
   intro v hv;obtain⟨u,I,Q⟩:=J8 F O m (k+1) _ e ω (by rw[xV];exact hz) hv;rw[xV] at u;have out:∀t,(∀(j:Nat) (x:Oper),k<=j->j<k+(m+1)->l[j]? =some x->x.dst≠some t)->Same e A t:=λt K=>
    (I t λj x z J i=>K j x ω ω i).trans (vQ (K k o (am _) ω f))
   refine⟨u,out,λd q=>?_,λt K=>?_,λj x z J i=>Q j x z ω i⟩
   ·have U:=I d λj x z J i gd=>by have:=F.nd _ _ _ _ _ ω ω f i q gd;omega
    rw[q] at U⊢;have Z:=F.size k o d ω f q;simp only[Same,fE,bI] at U⊢;rw[U,u]
   ·exact(out t λj x z J i=>F.early ω f t K j x z ω i).symm
  have fin:(∃v,rT P l.toArray W (λa=>a=e) ((l.drop (k+1)).take m) (A.put o.dst v)/\((∀t∈o.looksAt l.toArray,Same A e t)->(∀d,o.dst=some d->Same (e.put o.dst v) e d)->nZ P l.toArray o e W)):=by
   unfold rT at h
   split at h
   ·rename_i N
    unfold calm at h;generalize X:(eQ A.eval o).run P W=r at h;have go:∀v,((eQ A.eval o).run P W= .ok (.value v) W\/(eQ A.eval o).run P W= .ok .skip W/\v=undef)->(∀t∈o.looksAt l.toArray,Same A e t)->(∀d,o.dst=some d->Same (e.put o.dst v) e d)->nZ P l.toArray o e W:=by
     intro v hv M q;unfold nZ;rw[<-pR M,if_pos N];unfold calm;rw[<-gv o (F.sel k o ω f) (wF M)];rcases hv with hv|⟨hv,rfl⟩
     ·rw[hv];exact⟨rfl,q⟩
     ·rw[hv];exact⟨rfl,q⟩
    cases r with
    |ok x w'=>
     cases x <;> simp only[jL] at h
     ·obtain⟨rfl,h⟩:=h;exact⟨_,h,go _ (fU X)⟩
     ·obtain⟨rfl,h⟩:=h;exact⟨_,h,go _ (iL ⟨X,rfl⟩)⟩
    |halt x w'=>simp only[jL] at h
   ·rename_i N
    refine⟨undef,h,λM q=>?_⟩;unfold nZ;rw[<-pR M,if_neg N];exact q
  obtain⟨v,hv,hc⟩:=fin;obtain⟨u,I,Q,h4,h5⟩:=H v hv;refine⟨u,I,λj x z J i=>?_⟩;rcases bL k j with g|g
  ·exact h5 j x g J i
  ·obtain rfl:j=k:=ω
   obtain rfl:x=o:=by rw[f] at i;exact(cO i).symm
   exact hc h4 Q
def SqC.facts (c:SqC) (a:Nat->au) (k:Nat) (W:ae):Prop:=∀r∈c.T,c.anc r.k k=true->(r.bef=true->c.pre k=true)->r.at a W
def SqC.leaves (c:SqC) (a:Nat->au) (r:lU) (W:ae) (v:au) (W':ae):Prop:=(∀u,r.is=some u->v=u)/\r.R v (a r.d) W'/\(if r.k=c.k0 then c.Rel W'/\c.S0 W W' else c.S W W')
def SqC.ok (c:SqC) (a:Nat->au) (A:Act) (k:Nat) (o:Oper):Prop:=
 ((∀r∈c.T,r.k≠k)/\∀W,c.Rel W->(c.pre k=true->c.Pre W)->c.facts a k W->nZ c.P c.l.toArray o A W)\/
 ∃r∈c.T,r.k=k/\(∀d,o.dst=some d->A.tmps[d]? =some (a k))/\∀W,c.Rel W->(c.pre k=true->c.Pre W)->c.facts a k W->loud c.P c.l.toArray o A W (c.leaves a r W)
theorem Tm {P:dz} {a:Array Oper} {o:Oper} {A B:Act} {W:ae} {K:au->ae->Prop} (f:∀i b,o.op≠ .select i b) (h:∀t∈o.looksAt a,Same A B t) (e:loud P a o A W K):loud P a o B W K:=by
 unfold loud at e⊢;rw[<-pR h,<-gv o f (wF h)];exact e
theorem yc {a:Bool} {p:Bool} (h:(!a||p)=true) (e:a=true):p=true:=by cases a <;> simp_all
theorem ZN {c:SqC} {a:Nat->au} {W:ae} {k:Nat} (e:c.facts a k W):∀(J:List Nat),(J.all λj=>match c.T[j]? with|some r=>c.anc r.k k&&(!r.bef||c.pre k)|none=>true)=true->c.fj a W J
 |[],_=>trivial
 |i::J,h=>by
  rw[fR,aC] at h;refine⟨?_,ZN e J h.2⟩;have:=h.1;cases f:c.T[i]? with
  |none=>trivial
  |some r=>
   rw[f] at this;simp only[aC] at this;exact e r (aD f) this.1 (yc this.2)
theorem SqW.spec {c:SqC} {sz:Nat} (F:SqF c.l c.n sz) (a0:c.n<=c.l.length) {ρ:Nat->au} {E:Act->Prop}:∀{k:Nat} {A:Act},SqW c ρ E k A->A.tmps.size=sz->
  ∃B,E B/\B.tmps.size=A.tmps.size/\B.defers=A.defers/\(∀t,(∀(j:Nat) (o:Oper),k<=j->j<c.n->c.l[j]? =some o->o.dst≠some t)->Same B A t)/\∀(j:Nat) (o:Oper),k<=j->j<c.n->c.l[j]? =some o->c.ok ρ B j o:=by
 intro k A h
 induction h with
 |fin h=>exact λ_=>⟨_,h,rfl,rfl,λ_ _=>rfl,λj o N a _=>ω⟩
 |@seg k A m J b A' u hw hM h ih=>
  intro hz;unfold SqC.aa6 at u;rw[aC,decide_eq_true_eq] at u;obtain⟨a2,u⟩:=u;obtain⟨z1,z2,z3⟩:=Iy _ _ _ hM;obtain⟨B,b1,Z,b3,X,b5⟩:=ih (by rw[z1];exact hz);have inl:∀o∈(c.l.drop k).take m,∃j,k<=j/\j<k+m/\c.l[j]? =some o:=λo U=>by
   obtain⟨i,hi,e⟩:=fg.1 U;refine⟨k+i,ω,ω,?_⟩;rw[<-e,List.getElem_drop,ay]
  refine⟨B,b1,Z.trans z1,b3.trans z2,?_,?_⟩
  ·intro t q
   refine(X t λj o N a go=>q j o ω a go).trans (z3 t λo U=>?_);obtain⟨j,N,a,g3⟩:=inl o U;exact q j o N ω g3
  ·intro j o N a go
   rcases bL j (k+m) with g|g
   ·have hb:=dw.1 u (j-k) (fP.2 ω)
    rw[show k+(j-k)=j by omega] at hb;simp only[aC] at hb;obtain⟨⟨M,a3⟩,K⟩:=hb;have looks:∀t∈o.looksAt c.l.toArray,Same A' B t:=λt q=>(X t λi x H Q O=>F.early a go t q i x ω Q O).symm
    refine fU ⟨λr hr e=>?_,λW w1 w2 w3=>?_⟩
    ·have:=dw.1 a3 r hr
     simp[e] at this
    ·have hc:=J8 F a0 m k A A' a2 hz (hw W w1 (λI=>w2 (yc M I)) (ZN w3 J K))
     refine(hc.2.2 j o N g go).to (F.sel j o a go) Z.symm looks ?_;intro d Y;refine(X d λi x H Q O e4=>?_).symm;have:=F.nd _ _ _ _ _ a Q go O Y e4;omega
   ·exact b5 j o g a go
 |@row k A i J b r o hi U u hw h ih=>
  intro hz;unfold SqC.rowB at u;simp only[aC,decide_eq_true_eq] at u;obtain⟨⟨⟨a1,f⟩,M⟩,K⟩:=u;rw[hi] at f;have f:r.k=k:=by simpa using f
  obtain⟨B,b1,Z,b3,X,b5⟩:=ih (by rw[xV];exact hz);rw[xV] at Z;have out:∀t,(∀(j:Nat) (x:Oper),k<=j->j<c.n->c.l[j]? =some x->x.dst≠some t)->Same B A t:=λt q=>
   (X t λj x N a z=>q j x ω a z).trans (vQ (q k o (am _) a1 U))
  refine⟨B,b1,Z,b3.trans (put_defers ..),out,?_⟩;intro j x N a z;rcases bL k j with g|g
  ·exact b5 j x g a z
  ·obtain rfl:j=k:=ω
   obtain rfl:x=o:=by rw[U] at z;exact(cO z).symm
   have looks:∀t∈x.looksAt c.l.toArray,Same A B t:=λt q=>(out t λi y H Q O=>F.early a z t q i y H Q O).symm
   refine iL ⟨r,aD hi,f,λd Y=>?_,λW w1 w2 w3=>?_⟩
   ·have H:=X d λi y H Q O e4=>by
     have:=F.nd _ _ _ _ _ a Q z O Y e4;omega
    have a4:=F.size j x d a z Y;rw[Y] at H;simp only[Same,fE,bI] at H;rw[H,if_pos ω]
   ·refine Tm (F.sel j x a z) looks ?_
    have:=hw W w1 (λI=>w2 (yc M I)) (ZN w3 J K);unfold SqC.leaves;rw[f];exact this
def SqC.Is (c:SqC) (a:Nat->au):Prop:=∀r∈c.T,∀u,r.is=some u->a r.k=u
structure Us (c:SqC) (E:(Nat->au)->Act->Prop) (a0:Act) (ρ:Nat->au) (B:Act):Prop where
 fin:E ρ B
 size:B.tmps.size=a0.tmps.size
 defers:B.defers=a0.defers
 out:∀t,(∀(j:Nat) (o:Oper),j<c.n->c.l[j]? =some o->o.dst≠some t)->Same B a0 t
 ok:∀(j:Nat) (o:Oper),j<c.n->c.l[j]? =some o->c.ok ρ B j o
structure SqT (c:SqC):Prop where
 lt:∀r∈c.T,r.k<c.n
 one:∀r∈c.T,∀r'∈c.T,r.k=r'.k->r=r'
 dep:∀r∈c.T,c.n<=r.d\/c.anc r.d r.k=true
 self:∀r∈c.T,r.d≠r.k
 S:∀r∈c.T,∀x y W W',r.R x y W->c.S W W'->r.R x y W'
 S0:∀r∈c.T,r.bef=false->r.k≠c.k0->∀x y W W',r.R x y W->c.S0 W W'->r.R x y W'
 rel:∀W W',c.Rel W->c.S W W'->c.Rel W'
 pre:∀W W',c.Pre W->c.S W W'->c.Pre W'
structure aaG (c:SqC) (E:(Nat->au)->Act->Prop) (a0 a:Act) (W:ae) (listed:Array Bool) (ρ:Nat->au) (B:Act):Prop where
 is:c.Is ρ
 fin:Us c E a0 ρ B
 facts:∀r∈c.T,listed.getD r.k false=true->(r.bef=true->listed.getD c.k0 false=false)->r.at ρ W
 out:∀t,(∀(j:Nat) (o:Oper),j<c.n->c.l[j]? =some o->o.dst≠some t)->Same a a0 t
 told:∀(j:Nat) (o:Oper) (d:Nat),j<c.n->c.l[j]? =some o->listed.getD j false=true->o.dst=some d->Same a B d
 rel:c.Rel W
 pre:listed.getD c.k0 false=false->c.Pre W
 size:a.tmps.size=a0.tmps.size
 defers:a.defers=a0.defers
 wit:∀j,j<c.n->listed.getD j false=true->∃Wj,c.Rel Wj/\(c.pre j=true->c.Pre Wj)/\c.facts ρ j Wj
theorem tT {c:SqC} {n:Nat} {a:Array Bool} (f:HeadInv .any c.l.toArray n a) {j k:Nat} (h:c.anc j k=true) (u:∀o,c.l[k]? =some o->∀e∈o.after.toList,dF .any e=true->a.getD e.on false=true):a.getD j false=true:=by
 have key:=EH (X:=λj k=>(∀o,c.l[k]? =some o->∀e∈o.after.toList,dF .any e=true->a.getD e.on false=true)->a.getD j false=true) (l0:=c.l) (λk o I e J K=>⟨λg=>g o I e J K,λj N g=>N λM q O z H=>f.closed e.on M (by simpa using q) (g o I e J K) O (by simpa using z) H⟩) c.l [] (λi=>ι) (λj k u=>by simp at u);exact key j k h u
theorem acr {P:dz} {f:Array Oper} {o:Oper} {A a:Act} {W:ae} {k:Nat} {Q:Exit->Act->ae->Prop} {N:Act->ae->Prop} (u:f[k]? =some o) (q:∀z b,o.op≠ .select z b) (h:∀t∈o.looksAt f,Same A a t) (e:nZ P f o A W) (j:∀v,(∀d,o.dst=some d->Same (A.put o.dst v) A d)->N (a.put o.dst v) W):wpOp P f Q k N a W:=by
 unfold wpOp;simp only[u];unfold nZ at e;rw[pR h] at e
 split at e
 ·rename_i i
  rw[if_pos i];refine fU ?_;unfold Oper.wp;unfold calm at e;rw[gv o q (wF h)] at e;generalize(eQ a.eval o).run P W=r at*;cases r with
  |ok x w'=>
   cases x <;> simp only[jL] at e <;> simp only[Oper.upon]
   ·obtain⟨rfl,e⟩:=e;exact j _ e
   ·obtain⟨rfl,e⟩:=e;exact j _ e
  |halt x w'=>simp only[jL] at e
 ·rename_i i
  rw[if_neg i];exact j _ e
theorem aaG.next {c:SqC} {sz:Nat} (F:SqF c.l c.n sz) (HT:SqT c) {E:(Nat->au)->Act->Prop} {a0:Act} (hz:a0.tmps.size=sz) (G:∀ρ,c.Is ρ->∃B,Us c E a0 ρ B) {Q:Exit->Act->ae->Prop} {f:Array Bool} {a:Act} {W:ae} {ρ:Nat->au} {B:Act} (K:HeadInv .any c.l.toArray c.n f)
  (h:aaG c E a0 a W f ρ B) {i:Nat} (hin:i<c.n) (b0:f.getD i true=false) {o:Oper} (ho:c.l[i]? =some o) (b9:∀e∈o.after.toList,dF .any e=true->f.getD e.on false=true) {N:Act->ae->Prop}
  (hN:∀a' W' H B',aaG c E a0 a' W' (f.setIfInBounds i true) H B'->N a' W'):wpOp c.P c.l.toArray Q i N a W:=by
 have b8:∀o',c.l[i]? =some o'->∀e∈o'.after.toList,dF .any e=true->f.getD e.on false=true:=λo' h'=>by rw[ho] at h';obtain rfl:=cO h';exact b9
 have O:=getD_both b0;have b7:∀j x d,j<c.n->c.l[j]? =some x->f.getD j false=true->x.dst=some d->o.dst≠some d:=λj x d g I M U e=>by
  have:=F.nd _ _ _ _ _ hin g ho I e U;rw[this,M] at O;cases O
 have looks:∀t∈o.looksAt c.l.toArray,Same B a t:=λt ht=>by
  rcases F.looks i o hin ho t ht with g|⟨e,he,X,b1,x,hx,d2⟩
  ·exact(h.fin.out t g).trans (h.out t g).symm
  ·exact(h.told e.on x t ω hx (b9 e he X) d2).symm
 have b5:c.pre i=true->f.getD c.k0 false=false:=λhp=>by
  unfold SqC.pre at hp;rw[cE,beq_iff_eq] at hp;rcases hp with rfl|hp
  ·exact O
  ·cases hl:f.getD c.k0 false with
   |false=>rfl
   |true=>
    have:=tT K hp λo' h' e he X=>K.closed c.k0 o' (by simpa using h') hl e (by simpa using he) X
    rw[O] at this;cases this
 have a8:∀j,f.getD j false=true->j≠i:=λj g e=>by rw[e,O] at g;cases g
 have Md:c.facts ρ i W:=λr hr ha X=>h.facts r hr (tT K ha b8) λe=>b5 (X e)
 have Y:c.pre i=true->c.Pre W:=λhp=>h.pre (b5 hp)
 have J:∀j,(f.setIfInBounds i true).getD j false=true->j=i\/f.getD j false=true:=λj g=>by
  by_cases e:i=j
  ·exact fU e.symm
  ·rw[getD_set_ne false e] at g;exact iL g
 have OU:(f.setIfInBounds i true).getD c.k0 false=false->f.getD c.k0 false=false/\i≠c.k0:=λg=>by
  by_cases e:i=c.k0
  ·exfalso
   have d4:i<f.size:=by
        rcases bL i f.size with h|h
        ·exact h
        ·simp[Array.getElem?_eq_none h] at b0
   rw[<-e] at g;simp[d4] at g
  ·rw[getD_set_ne false e] at g;exact⟨g,e⟩
 have a9:∀v,(a.put o.dst v).tmps.size=a0.tmps.size:=λv=>by rw[xV];exact h.size
 have a2:∀v t,(∀(j:Nat) (x:Oper),j<c.n->c.l[j]? =some x->x.dst≠some t)->Same (a.put o.dst v) a0 t:=λv t ht=>(vQ (ht i o hin ho)).trans (h.out t ht)
 rcases h.fin.ok i o hin ho with⟨h1,h2⟩|⟨r,hr,hrk,hv,h2⟩
 ·refine acr (by simpa using ho) (F.sel i o hin ho) looks (h2 W h.rel Y Md) λv d3=>hN _ _ ρ B ⟨h.is,h.fin,λr hr hl X=>?_,a2 v,λj x d g I M U=>?_,h.rel,λg=>h.pre (OU g).1,a9 v,by rw[put_defers];exact h.defers,λj g M=>?_⟩
  ·rcases J _ hl with e|e
   ·exact absurd e (h1 r hr)
   ·exact h.facts r hr e λe'=>(OU (X e')).1
  ·rcases J _ M with e|e
   ·subst e
    obtain rfl:x=o:=by rw[ho] at I;exact(cO I).symm
    have e1:=d3 d U;rw[U] at e1⊢;refine Eq.trans ?_ e1;simp only[fE,bI,h.size,h.fin.size]
   ·exact(vQ (b7 j x d g I e U)).trans (h.told j x d g I e U)
  ·rcases J _ M with e|e
   ·subst e;exact⟨W,h.rel,Y,Md⟩
   ·exact h.wit j g e
 ·refine abx (by simpa using ho) (λv W' hl=>?_) (Tm (F.sel i o hin ho) looks (h2 W h.rel Y Md))
  obtain⟨l1,l2,l3⟩:=hl;obtain⟨H,a3⟩:∃H:Nat->au,H=λj=>if j=i then v else ρ j:=⟨_,rfl⟩
  have a4:H i=v:=by rw[a3];simp
  have a1:∀j,j≠i->H j=ρ j:=λj e=>by rw[a3];simp[e]
  have b4:c.Is H:=λz q u hu=>by
   by_cases e:z.k=i
   ·obtain rfl:=HT.one z q r hr (e.trans hrk.symm)
    rw[e,a4];exact l1 u hu
   ·rw[a1 _ e];exact h.is z q u hu
  obtain⟨B',Z⟩:=G H b4;have a7:∀z∈c.T,f.getD z.k false=true->∀W,z.at ρ W->z.at H W:=λz q hl W g=>by
   unfold lU.at at g⊢;rw[a1 _ (a8 _ hl),a1 z.d]
   ·exact g
   ·rcases HT.dep z q with e|e
    ·omega
    ·refine a8 _ (tT K e λo' h' e' a5 a6=>K.closed z.k o' (by simpa using h') hl e' (by simpa using a5) a6)
  have d7:∀j k,f.getD j false=true->c.anc k j=true->f.getD k false=true:=λj k M ga=>tT K ga λo' h' e' a5 a6=>K.closed j o' (by simpa using h') M e' (by simpa using a5) a6
  have b6:∀j,j<c.n->f.getD j false=true->∃Wj,c.Rel Wj/\(c.pre j=true->c.Pre Wj)/\c.facts ρ j Wj/\c.facts H j Wj:=λj g M=>by
   obtain⟨Wj,w1,w2,w3⟩:=h.wit j g M;exact⟨Wj,w1,w2,w3,λz q ha X=>a7 z q (d7 j _ M ha) Wj (w3 z q ha X)⟩
  have same:∀j,j<c.n->f.getD j false=true->∀x d,c.l[j]? =some x->x.dst=some d->Same B B' d:=by
   intro j
   induction j using Nat.strongRecOn with
   |ind j ih=>
    intro g M x d I U;rcases h.fin.ok j x g I with⟨p1,p2⟩|⟨r1,hr1,hk1,p1,p2⟩
    ·rcases Z.ok j x g I with⟨q1,q2⟩|⟨r2,hr2,hk2,q1,q2⟩
     ·obtain⟨Wj,w1,w2,w3,w4⟩:=b6 j g M
      refine nZ.same (F.sel j x g I) (h.fin.size.trans Z.size.symm) (λt ht=>?_) (p2 Wj w1 w2 w3) (q2 Wj w1 w2 w4) d U;rcases F.looks j x g I t ht with e|⟨e,he,X,b1,y,hy,d1⟩
      ·exact(h.fin.out t e).trans (Z.out t e).symm
      ·exact ih e.on b1 ω (K.closed j x (by simpa using I) M e (by simpa using he) X) y t hy d1
     ·exact absurd hk2 (p1 r2 hr2)
    ·rcases Z.ok j x g I with⟨q1,q2⟩|⟨r2,hr2,hk2,q1,q2⟩
     ·exact absurd hk1 (q1 r1 hr1)
     ·have e1:=p1 d U
      have e2:=q1 d U;rw[a1 j (a8 j M)] at e2;exact e1.trans e2.symm
  refine hN _ _ H B' ⟨b4,Z,λz q hl X=>?_,a2 v,λj x d g I M U=>?_,?_,λg=>?_,a9 v,by rw[put_defers];exact h.defers,λj g M=>?_⟩
  ·by_cases e:z.k=i
   ·obtain rfl:=HT.one z q r hr (e.trans hrk.symm)
    unfold lU.at;rw[e,a4,a1 z.d (λe'=>HT.self z q (e'.trans e.symm))];exact l2
   ·have b2:=(J _ hl).resolve_left e
    refine a7 z q b2 W' ?_;have g:=h.facts z q b2 λe'=>(OU (X e')).1
    split at l3
    ·rename_i b3
     refine HT.S0 z q ?_ (λe'=>e (e'.trans (b3.symm.trans hrk))) _ _ _ _ g l3.2;cases d6:z.bef with
     |false=>rfl
     |true=>exact absurd (hrk.symm.trans b3) (OU (X d6)).2
    ·exact HT.S z q _ _ _ _ g l3
  ·rcases J _ M with e|e
   ·subst e
    obtain rfl:x=o:=by rw[ho] at I;exact(cO I).symm
    rcases Z.ok j x g I with⟨q1,q2⟩|⟨r2,hr2,hk2,q1,q2⟩
    ·exact absurd hrk (q1 r hr)
    ·refine Eq.trans ?_ (q1 d U).symm
     have d5:=F.size j x d g I U;rw[U,a4];simp only[fE,bI];rw[if_pos (by rw[h.size,hz];exact d5)]
   ·exact((vQ (b7 j x d g I e U)).trans (h.told j x d g I e U)).trans (same j g e x d I U)
  ·split at l3
   ·exact l3.1
   ·exact HT.rel _ _ h.rel l3
  ·obtain⟨g1,g2⟩:=OU g
   rw[if_neg (λe=>g2 (hrk.symm.trans e))] at l3;exact HT.pre _ _ (h.pre g1) l3
  ·rcases J _ M with e|e
   ·subst e
    refine⟨W,h.rel,Y,λz q ha X=>a7 z q (tT K ha b8) W (Md z q ha X)⟩
   ·obtain⟨Wj,w1,w2,w3,w4⟩:=b6 j g e
    exact⟨Wj,w1,w2,w4⟩
def zO (n m:Nat):Array Bool:=(dr n true++dr (m-n) false).toArray
theorem Xo {c:SqC} {sz:Nat} (F:SqF c.l c.n sz) (HT:SqT c) {E:(Nat->au)->Act->Prop} {a0:Act} (hz:a0.tmps.size=sz) (G:∀H,c.Is H->∃B,Us c E a0 H B) {Q:Exit->Act->ae->Prop} {rest:List Oper}
  (hn:c.n<=c.l.length) (N:∀q,HeadInv .any c.l.toArray c.n q->∀X,X<c.n->q.getD X true=false->∀i,i∈Region.ready .any c.l.toArray q->i<c.n)
  (M:∀j,rest[j]? =c.l.toArray[c.n+j]?) (Y:Region.seqB .any c.l.toArray rest.length c.n (zO c.n c.l.toArray.size)=true)
  (a3:∀H B W,E H B->c.Rel W->(∀r∈c.T,r.bef=false->r.at H W)->wpList c.P c.l.toArray Q rest B W):
  ∀(f:Nat) (q:Array Bool) (a:Act) (W:ae) (H:Nat->au) (B:Act),HeadInv .any c.l.toArray c.n q->(q.toList.take c.n).count false=f->aaG c E a0 a W q H B->wpAny c.P .any c.l.toArray Q (f+rest.length) q a W:=by
 intro f
 induction f with
 |zero=>
  intro q a W H B u a4 I;have e:q=zO c.n c.l.toArray.size:=by
   apply Array.ext
   ·rw[u.size];simp[zO];omega
   ·intro i z U
    rcases bL i c.n with h|h
    ·have hm:q[i]∈q.toList.take c.n:=by
      rw[fg];exact⟨i,by simp;omega,ι⟩
     have b0:q[i]≠false:=λe=>by
      rw[e] at hm;have:=List.count_pos_iff.2 hm;omega
     have:q[i]=true:=by simpa using b0
     rw[this];simp[zO,h]
    ·have:=u.tail i h (by rw[<-u.size];exact z)
     have O:q[i]=false:=by simpa[Array.getD,z] using this
     rw[O];simp[zO,List.getElem_append,Nat.not_lt.2 h]
  have K:∀j,j<c.n->q.getD j false=true:=λj hj=>by
   have b3:j<q.size:=by rw[u.size];simp;omega
   rw[e] at b3⊢;simp[zO,hj,List.getElem?_append]
  have hB:a=B:=by
   have ht:a.tmps=B.tmps:=by
        apply Array.ext_getElem?;intro t;by_cases J:∃j o,j<c.n/\c.l[j]? =some o/\o.dst=some t
        ·obtain⟨j,o,z,U,O⟩:=J
         exact I.told j o t z U (K j z) O
        ·have Z:∀(j:Nat) (o:Oper),j<c.n->c.l[j]? =some o->o.dst≠some t:=λj o z U O=>J ⟨j,o,z,U,O⟩
         exact(I.out t Z).trans (I.fin.out t Z).symm
   cases a;cases B;have:=I.defers.trans I.fin.defers.symm;simp only at ht this;subst ht;subst this;rfl
  subst hB;have hl:=a3 H a W I.fin.fin I.rel λr hr hb=>I.facts r hr (K _ (HT.lt r hr)) λh=>by rw[hb] at h;cases h
  rw[Nat.zero_add];subst e;exact wpAny_of_seq (md:= .any) rest c.n _ a W M Y hl
 |succ f ih=>
  intro q a W H B u a4 I;have J:∃i,i<c.n/\q.getD i true=false:=by
   have hm:false∈q.toList.take c.n:=List.count_pos_iff.1 ω;rw[fg] at hm;obtain⟨i,z,U⟩:=hm;have a5:i<c.n/\i<q.size:=by simp at z;omega
   refine⟨i,a5.1,?_⟩;simp[Array.getD,a5.2];simpa using U
  obtain⟨X,a2,a6⟩:=J;rw[show f+1+rest.length=(f+rest.length)+1 by omega];refine⟨λhr=>?_,λi hi=>?_⟩
  ·exfalso
   have key:∀k,k<c.n->q.getD k false=true:=by
        intro k
        induction k using Nat.strongRecOn with
        |ind k a9=>
         intro hk;rcases hb:q.getD k false with _|_
         ·exfalso
          have b2:k<q.size:=by rw[u.size];simp;omega
          have a1:k<c.l.length:=ω
          have hm:k∈Region.ready .any c.l.toArray q:=by
             rw[mem_ready];refine⟨getD_in b2 hb,c.l[k],by simp[a1],λe he b4=>?_⟩;have b1:=F.back k c.l[k] hk (by simp[a1]) e (by simpa using he) b4;exact a9 e.on b1 ω
          rw[hr] at hm;cases hm
         ·rfl
   have h9:=key X a2;rw[getD_both a6] at h9;cases h9
  ·have hin:i<c.n:=N q u X a2 a6 i hi
   obtain⟨z,o,ho,b6⟩:=mem_ready.1 hi;refine aaG.next F HT hz G u I hin z (by simpa using ho) (λe he hb=>b6 e (by simpa using he) hb) λa' W' a8 B' b5=>ih _ _ _ a8 B' (u.set hi hin) ?_ b5
   have a7:i<q.size:=by rw[u.size];simp;omega
   have e:(q.toList.take c.n)[i]? =some false:=by
        have O:q[i]=false:=by simpa[Array.getD,a7] using z
        rw[List.getElem?_take,if_pos hin];simp[a7,O]
   have key:∀(l:List Bool) (i:Nat),l[i]? =some false->(l.set i true).count false+1=l.count false:=by
        intro l
        induction l with
        |nil=>intro i h;simp at h
        |cons b l ih=>
         intro i h;cases i with
         |zero=>obtain rfl:b=false:=by simpa using h
                simp
         |succ i=>
          have:=ih i (by simpa using h);rw[List.set_cons_succ,List.count_cons,List.count_cons];omega
   have:=key _ i e;rw[Array.toList_setIfInBounds,List.take_set];omega
def xP (l:List Oper) (n sz k:Nat) (o:Oper):Bool:=
 (match o.op with| .select _ _=>false|_=>true)&&
 (match o.dst with|some d=>decide (d<sz)&&(fQ k).all λi=>(l[i]?.bind (·.dst))!=some d|none=>true)&&
 ((o.looksAt l.toArray).all λt=>((fQ n).all λi=>(l[i]?.bind (·.dst))!=some t)||o.after.toList.any λe=>dF .any e&&(l[e.on]?.bind (·.dst))==some t)&&
 o.after.toList.all λe=> !Region.binds .any e||decide (e.on<k)
def KP (l:List Oper) (n sz:Nat):Bool:=
 decide (n<=l.length)&&(decide (n=l.length)||Region.sinkB .any l.toArray n&&Region.chainB .any l.toArray n)&&Region.seqB .any l.toArray (l.length-n) n (zO n l.length)&&
 (fQ n).all λk=>match l[k]? with|some o=>xP l n sz k o|none=>true
theorem SqF.of {l:List Oper} {n sz:Nat} (h:((fQ n).all λk=>match l[k]? with|some o=>xP l n sz k o|none=>true)=true):SqF l n sz:=by
 have key:∀k o,k<n->l[k]? =some o->xP l n sz k o=true:=λk o f a=>by
  have:=dw.1 h k (fP.2 f);rw[a] at this;exact this
 have back:∀(k:Nat) (o:Oper),k<n->l[k]? =some o->∀e∈o.after.toList,dF .any e=true->e.on<k:=λk o f a e z Q=>by
  have:=key k o f a;unfold xP at this;rw[aC] at this;have:=dw.1 this.2 e z;simpa[Q] using this
 have early:∀(i j:Nat) (x y:Oper) (d:Nat),i<j->j<n->l[i]? =some x->l[j]? =some y->x.dst=some d->y.dst=some d->False:=λi j x y d M K q u I H=>by
  have:=key j y K u;unfold xP at this;simp only[aC] at this;have:=this.1.1.2;rw[H] at this;simp only[aC] at this;have:=dw.1 this.2 i (fP.2 M);rw[q] at this;simp[I] at this
 refine⟨λk o f a W b e=>?_,λi j x y d hi K q u I H=>?_,λk o f a t N=>?_,λk o d f a O=>?_,back⟩
 ·have:=key k o f a
  unfold xP at this;rw[e] at this;simp at this
 ·rcases Nat.lt_trichotomy i j with g|g|g
  ·exact(early i j x y d g K q u I H).elim
  ·exact g
  ·exact(early j i y x d g hi u q H I).elim
 ·have:=key k o f a
  unfold xP at this;simp only[aC] at this;have:=dw.1 this.1.2 t N;rw[cE] at this;rcases this with g|g
  ·refine fU λi x hi q U=>?_
   have:=dw.1 g i (fP.2 hi);rw[q] at this;simp[U] at this
  ·obtain⟨e,z,g⟩:=List.any_eq_true.1 g
   rw[aC] at g;refine iL ⟨e,z,g.1,back k o f a e z g.1,?_⟩;have J:=eq_of_beq g.2;cases q:l[e.on]? with
   |none=>rw[q] at J;cases J
   |some x=>rw[q] at J;exact⟨x,rfl,J⟩
 ·have:=key k o f a
  unfold xP at this;simp only[aC] at this;have:=this.1.1.2;rw[O] at this;simp only[aC,decide_eq_true_eq] at this;exact this.1
def SqC.SI (c:SqC):Bool:=c.T.all (λr=>decide (r.k<c.n)&&(decide (c.n<=r.d)||c.anc r.d r.k)&&r.d !=r.k)&&decide (c.T.map (·.k)).Nodup
def SqC.Ol (c:SqC):List lU->Prop
 |[]=>True
 |r::T=>(∀x y W W',r.R x y W->c.S W W'->r.R x y W')/\(r.bef=false->r.k≠c.k0->∀x y W W',r.R x y W->c.S0 W W'->r.R x y W')/\SqC.Ol c T
theorem Ah {c:SqC}:∀{T:List lU},c.Ol T->∀r∈T,(∀x y W W',r.R x y W->c.S W W'->r.R x y W')/\(r.bef=false->r.k≠c.k0->∀x y W W',r.R x y W->c.S0 W W'->r.R x y W')
 |r::T,h,r',a=>by
  rcases aE.1 a with rfl|a
  ·exact⟨h.1,h.2.1⟩
  ·exact Ah h.2.2 r' a
def SqC.Xb (a:Nat->au) (W:ae):List lU->Prop
 |[]=>True
 |r::T=>(r.bef=false->r.at a W)/\SqC.Xb a W T
theorem Un {a:Nat->au} {W:ae}:∀{T:List lU},(∀r∈T,r.bef=false->r.at a W)->SqC.Xb a W T
 |[],_=>trivial
 |r::T,h=>⟨h r ι,Un λe f=>h e (by simp[f])⟩
def Yp:List lU->Nat->au
 |[],_=>undef
 |r::T,k=>if r.k=k then r.is.getD undef else Yp T k
theorem Di:∀{T:List lU},(T.map (·.k)).Nodup->∀r∈T,∀u,r.is=some u->Yp T r.k=u
 |r::T,h,r',a,u,hu=>by
  rw[bA,dZ] at h;unfold Yp;rcases aE.1 a with rfl|a
  ·rw[if_pos rfl,hu];rfl
  ·rw[if_neg (show¬r.k=r'.k from λe=>h.1 (e▸cG.2 ⟨r',a,rfl⟩))]
   exact Di h.2 r' a u hu
theorem YD:∀{T:List lU},(T.map (·.k)).Nodup->∀r∈T,∀a∈T,r.k=a.k->r=a
 |x::T,h,r,hr,a,hr',e=>by
  rw[bA,dZ] at h;rcases aE.1 hr with rfl|g <;> rcases aE.1 hr' with rfl|f
  ·rfl
  ·exact absurd (cG.2 ⟨a,f,e.symm⟩) h.1
  ·exact absurd (cG.2 ⟨r,g,e⟩) h.1
  ·exact YD h.2 r g a f e
theorem Xm (c:SqC) {Q:Exit->Act->ae->Prop} {a:Act} {w:ae} {id:Nat} (hm:c.P.follows .mixedOrders=true) (q:KP c.l c.n a.tmps.size=true) (f:c.SI=true)
  (hw:c.Rel { w with drawn:=w.drawn+1 }) (hp:c.Pre { w with drawn:=w.drawn+1 }) (hR:∀W W',c.Rel W->c.S W W'->c.Rel W') (hP:∀W W',c.Pre W->c.S W W'->c.Pre W') (J:c.Ol c.T)
  (H:∀u,c.Is u->SqW c u (λB=>∀W,c.Rel W->SqC.Xb u W c.T->wpList c.P c.l.toArray Q (c.l.drop c.n) B W) 0 a):(Code.region id c.l.toArray true).wp c.P Q a w:=by
 unfold KP at q;simp only[aC,cE,decide_eq_true_eq] at q;obtain⟨⟨⟨hn,N⟩,hq⟩,hF⟩:=q;unfold SqC.SI at f;rw[aC,decide_eq_true_eq] at f;obtain⟨a0,K⟩:=f;have F:=SqF.of hF;have z:∀r∈c.T,r.k<c.n/\(c.n<=r.d\/c.anc r.d r.k=true)/\r.d≠r.k:=λr I=>by
  have:=dw.1 a0 r I;simp only[aC,cE,decide_eq_true_eq,bne_iff_ne] at this;exact⟨this.1.1,this.1.2,this.2⟩
 have HT:SqT c:=⟨λr I=>(z r I).1,YD K,λr I=>(z r I).2.1,λr I=>(z r I).2.2,λr I=>(Ah J r I).1,λr I=>(Ah J r I).2,hR,hP⟩;have G:∀u,c.Is u->∃B,Us c (λu B=>∀W,c.Rel W->SqC.Xb u W c.T->wpList c.P c.l.toArray Q (c.l.drop c.n) B W) a u B:=λu Y=>by
  obtain⟨B,b1,b2,b3,b4,b5⟩:=(H u Y).spec F hn rfl;exact⟨B,b1,b2,b3,λt ht=>b4 t λj o _ g2 go=>ht j o g2 go,λj o g go=>b5 j o (Nat.zero_le _) g go⟩
 obtain⟨B0,a1⟩:=G (Yp c.T) (Di K);have M:HeadInv .any c.l.toArray c.n (Array.replicate c.l.toArray.size false):=
  ⟨ι,λj oj _ hl=>(by rw[ec] at hl;cases hl),λt _ ht=>getD_in (by simpa using ht) (ec _ _)⟩
 refine wp_region_any hm ?_;have O:(c.l.drop c.n).length=c.l.length-c.n:=ι
 have:=Xo F HT (Q:=Q) rfl G hn (λU X i0 h0 Z i hi=>by
   rcases N with N|N
   ·obtain⟨_,o,ho,_⟩:=mem_ready.1 hi
    have:=(an.1 ho).1;simp at this;omega
   ·rcases bL i c.n with g|g
    ·exact g
    ·obtain⟨_,o,ho,_⟩:=mem_ready.1 hi
     have hl:=(an.1 ho).1;exact absurd hi (tail_waits N.1 N.2 ω X _ i0 rfl h0 Z i g)) (rest:=c.l.drop c.n) (λj=>by simp[List.getElem?_drop]) (by rw[O];simpa using hq)
  (λu B W hE hW hf=>hE W hW (Un hf)) c.n (Array.replicate c.l.toArray.size false) a { w with drawn:=w.drawn+1 } (Yp c.T) B0 M (by simp;omega)
  ⟨Di K,a1,λr _ h=>by(rw[ec] at h;cases h),λ_ _=>rfl,λj o d _ _ h=>by(rw[ec] at h;cases h),hw,λ_=>hp,rfl,rfl,λj _ h=>by(rw[ec] at h;cases h)⟩
 rw[O] at this;have e:c.n+(c.l.length-c.n)=c.l.toArray.size:=by simp;omega
 rw[e] at this;exact this
def rw1 (k:Nat) (R:au->ae->Prop):lU:=⟨k,9999,none,false,λv _ W=>R v W⟩
def rwI (k:Nat) (v:au):lU:=⟨k,9999,some v,false,λ_ _ _=>True⟩
def rw2 (k d:Nat) (R:au->au->ae->Prop):lU:=⟨k,d,none,false,R⟩
def sq0 (P:dz) (l:List Oper) (n:Nat) (T:List lU) (w:ae):SqC:=⟨P,l,n,99999,T,Ext w,λ_=>True,Ext,Ext⟩
def YJ:List lU->Prop
 |[]=>True
 |r::T=>(∀x y W W',r.R x y W->Ext W W'->r.R x y W')/\YJ T
theorem GH {P:dz} {l:List Oper} {n:Nat} {T':List lU} {w:ae}:∀{T:List lU},YJ T->(sq0 P l n T' w).Ol T
 |[],_=>trivial
 |r::T,h=>⟨h.1,λ_ _=>h.1,GH h.2⟩
section
variable {P:dz} {l:List Oper} {n:Nat} {T:List lU} {w:ae} {ρ:Nat->au} {E:Act->Prop}
theorem Vo {j:Array Oper} {o:Oper} {a:Act} {K u:au->ae->Prop} (h:∀v W,K v W->u v W) (i:loud P j o a w K):loud P j o a w u:=by
 unfold loud at i⊢
 split
 ·rename_i q
  rw[if_pos q] at i;generalize(eQ a.eval o).run P w=r at*;cases r with
  |ok x w'=>
   cases x <;> simp only[jH] at i⊢
   case enter f args=>exact i.mono λe W ⟨v,z,hv⟩=>⟨v,z,h _ _ hv⟩
   all_goals exact h _ _ i
  |halt x w'=>simp only[jH] at i
 ·rename_i q
  rw[if_neg q] at i;exact h _ _ i
theorem SqW.c {k:Nat} {A:Act} (i:Nat) {R:au->ae->Prop} {o:Oper} (hi:T[i]? =some (rw1 k R)) (j:l[k]? =some o) (z:k<9999) (q:(sq0 P l n T w).rowB [] false k i=true) (f:∀W,Ext w W->loud P l.toArray o A W λv W'=>R v W'/\Ext W W')
  (h:SqW (sq0 P l n T w) ρ E (k+1) (A.put o.dst (ρ k))):SqW (sq0 P l n T w) ρ E k A:=
 .row i [] false _ o hi j q (λW x _ _=>by
  have a:¬k=(sq0 P l n T w).k0:=by show¬k=99999;omega
  exact Vo (λv W' h=>⟨λu e=>(by cases e),h.1,(by rw[if_neg a];exact h.2)⟩) (f W x)) h
end
attribute [local go_sem] calm jL jH
theorem jD {p:Prop} (h:p:=by
 repeat(refine Nc λK hK=>?_;go_simp;refine hK _ ?_;clear hK K)
 exact Qg rfl):p:=h
theorem Ext.same {w W:ae} (x:Ext w W) (p:Addr) (h:(w.cell? p).isSome=true):W.cell? p=w.cell? p:=by
 cases e:w.cell? p with
 |none=>rw[e] at h;cases h
 |some v=>exact x.keep e
section
variable {P:dz} {l:List Oper} {n:Nat} {T:List lU} {w:ae} {ρ:Nat->au} {E:Act->Prop}
theorem SqW.s {k:Nat} {A e:Act} (m:Nat) (f:∀W,Ext w W->(∀p,(w.cell? p).isSome=true->W.cell? p=w.cell? p)->rT P l.toArray W (λa=>a=e) ((l.drop k).take m) A) (h:SqW (sq0 P l n T w) ρ E (k+m) e)
  (j:(sq0 P l n T w).aa6 [] false k m=true:=by kernel_rfl) (i:blank ((l.drop k).take m) e=blank ((l.drop k).take m) A:=by kernel_rfl):SqW (sq0 P l n T w) ρ E k A:=
 .seg m [] false e j (λW x _ _=>f W x λp h=>Ext.same x p h) i h
theorem SqW.k {k:Nat} {A:Act} (i:Nat) {R:au->ae->Prop} {o:Oper} {f:FuncId} {args:Array au} (z:∀W,Ext w W->Calls P f args W λe W'=>∃v,e= .returned v/\R v W'/\Ext W W') (h:SqW (sq0 P l n T w) ρ E (k+1) (A.put o.dst (ρ k)))
  (hi:T[i]? =some (rw1 k R):=by exact rfl) (j:l[k]? =some o:=by exact rfl) (q:k<9999:=by decide) (H:(sq0 P l n T w).rowB [] false k i=true:=by kernel_rfl)
  (u:bD o (eU l.toArray A.tmps)=true:=by kernel_rfl) (a:∀W,(eQ A.eval o).run P W= .ok (.enter f args) W:=by intro W;go_simp):SqW (sq0 P l n T w) ρ E k A:=
 .c i hi j q H (λW x=>by
  unfold loud;rw[if_pos u,a W];exact z W x) h
end
section
variable {P:dz} {l:List Oper} {n:Nat} {T:List lU} {w:ae} {ρ:Nat->au} {E:Act->Prop}
theorem LG {e:Array Oper} {o:Oper} {a:Act} {W:ae} {K:au->ae->Prop} (f:bD o (eU e a.tmps)=true) (h:jH P K ((eQ a.eval o).run P W)):loud P e o a W K:=by
 unfold loud;rw[if_pos f];exact h
theorem SqW.o {k:Nat} {A:Act} (i:Nat) (J:List Nat) {r:lU} {o:Oper} (a:∀W,Ext w W->(∀p,(w.cell? p).isSome=true->W.cell? p=w.cell? p)->(sq0 P l n T w).fj ρ W J->∀N:au->ae->Prop,(∀v W',(∀u,r.is=some u->v=u)->r.R v (ρ r.d) W'->Ext W W'->N v W')->jH P N ((eQ A.eval o).run P W))
  (h:SqW (sq0 P l n T w) ρ E (k+1) (A.put o.dst (ρ k))) (hi:T[i]? =some r:=by exact rfl) (e:l[k]? =some o:=by exact rfl) (K:k<9999:=by decide) (q:(sq0 P l n T w).rowB J false k i=true:=by kernel_rfl) (j:bD o (eU l.toArray A.tmps)=true:=by kernel_rfl):SqW (sq0 P l n T w) ρ E k A:=
 .row i J false r o hi e q (λW x _ f=>LG j (a W x (λp h=>Ext.same x p h) f _ λv W' I H z=>⟨I,H,by
  rw[if_neg (show¬k=(sq0 P l n T w).k0 by show¬k=99999;omega)];exact z⟩)) h
theorem SqW.v {k:Nat} {A:Act} (K:(sq0 P l n T w).Is ρ) (i:Nat) (J:List Nat) (v:au) {o:Oper} (j:∀W,Ext w W->(∀p,(w.cell? p).isSome=true->W.cell? p=w.cell? p)->(sq0 P l n T w).fj ρ W J->∀N:au->ae->Prop,(∀W',Ext W W'->N v W')->jH P N ((eQ A.eval o).run P W))
  (h:SqW (sq0 P l n T w) ρ E (k+1) (A.put o.dst v)) (hi:T[i]? =some (rwI k v):=by exact rfl) (q:l[k]? =some o:=by exact rfl) (z:k<9999:=by decide) (M:(sq0 P l n T w).rowB J false k i=true:=by kernel_rfl) (H:bD o (eU l.toArray A.tmps)=true:=by kernel_rfl):SqW (sq0 P l n T w) ρ E k A:=
 SqW.o i J (λW x y f N I=>j W x y f N λW' a=>I v W' (λu e=>cO e) trivial a) (by rw[show ρ k=v from K (rwI k v) (aD hi) v rfl];exact h) hi q z M H
theorem SqW.kv {k:Nat} {A:Act} (H:(sq0 P l n T w).Is ρ) (i:Nat) (v:au) {o:Oper} {f:FuncId} {args:Array au} (I:∀W,Ext w W->Calls P f args W λe W'=>e= .returned v/\Ext W W') (h:SqW (sq0 P l n T w) ρ E (k+1) (A.put o.dst v))
  (hi:T[i]? =some (rwI k v):=by exact rfl) (j:l[k]? =some o:=by exact rfl) (q:k<9999:=by decide) (J:(sq0 P l n T w).rowB [] false k i=true:=by kernel_rfl)
  (u:bD o (eU l.toArray A.tmps)=true:=by kernel_rfl) (a:∀W,(eQ A.eval o).run P W= .ok (.enter f args) W:=by intro W;go_simp):SqW (sq0 P l n T w) ρ E k A:=
 SqW.v H i [] v (λW x _ _ N z=>by
  rw[a W];exact(I W x).mono λe W' h=>⟨v,h.1,z W' h.2⟩) h hi j q J u
end
theorem Ext.blk {W W':ae} (e:Ext W W') {q:Nat} {o:Obj} (h:W.heap[q]? =some o):W'.heap[q]? =some o:=by
 rw[av e q (an.1 h).1];exact h
def aeZ (ρ:Nat->au) (W:ae):List lU->Prop
 |[]=>True
 |r::T=>r.R (ρ r.k) (ρ r.d) W/\aeZ ρ W T
theorem Uo {ρ:Nat->au} {W:ae}:∀{T:List lU},T.all (λr=> !r.bef)=true->SqC.Xb ρ W T->aeZ ρ W T
 |[],_,_=>trivial
 |r::T,hb,h=>by
  rw[fR,aC] at hb;exact⟨h.1 (by simpa using hb.1),Uo hb.2 h.2⟩
theorem mg {P:dz} {l:List Oper} (n:Nat) (T:List lU) {Q:Exit->Act->ae->Prop} {a:Act} {w:ae} {id:Nat} (f:YJ T)
  (H:∀ρ,(sq0 P l n T w).Is ρ->SqW (sq0 P l n T w) ρ (λB=>∀W,Ext w W->aeZ ρ W T->wpList P l.toArray Q (l.drop n) B W) 0 a)
  (hm:P.follows .mixedOrders=true:=by kernel_rfl) (i:KP l n a.tmps.size=true:=by kernel_rfl) (e:(sq0 P l n T w).SI=true:=by kernel_rfl) (j:T.all (λr=> !r.bef)=true:=by kernel_rfl):(Code.region id l.toArray true).wp P Q a w:=
 Xm (sq0 P l n T w) hm i e ((Ext.refl w).drew) trivial (λ_ _=>Ext.trans) (λ_ _ _ _=>trivial) (GH f) λρ h=>(H ρ h).mono λB g W q u=>g W q (Uo j u)
end
end Go.Proofs.YtncfhbpejchbfaaGreatDoor

/-
  Items that wait, in plain lists: which are ready, which come, and that the same come whatever the order; no memory; no claim stands here.
-/
import Derived.Test.YtejbpijamdlgcaaGreatDoorVMathP
import Derived.Test.YtejbpijamdlgcaaGreatDoorPM1
set_option linter.unusedVariables false
set_option linter.unusedSimpArgs false
open List renaming mem_cons_of_mem→aU,mem_cons→aS,mem_singleton→cu,pairwise_cons→bM,perm_middle→gQ
namespace Go.Proofs.YtejbpijamdlgcaaGreatDoor
def yx (v:List (Int×Int)) (x:It):Bool:=decide (x.k=nW v x.c)&&((decide (x.lc=0)||decide (x.lk<nW v x.lc))&&(decide (x.rc=0)||decide (x.rk<nW v x.rc)))
theorem CW {v:List (Int×Int)} {x:It}:yx v x=true↔x.k=nW v x.c/\(x.lc=0\/x.lk<nW v x.lc)/\(x.rc=0\/x.rk<nW v x.rc):=by
 simp[yx]
def yB (v:List (Int×Int)):List It->Option (It×List It)
 |[]=>none
 |x::l=>if yx v x then some (x,l) else(yB v l).map λp=>(p.1,x::p.2)
theorem Kr {v:List (Int×Int)}:∀{l:List It},yB v l=none↔∀x∈l,yx v x=false
 |[]=>by simp[yB]
 |x::l=>by
  have ih:=Kr (v:=v) (l:=l);simp only[yB];by_cases h:yx v x=true
  ·simp[h]
  ·simp[h,ih]
theorem EW {v:List (Int×Int)}:∀{l:List It} {x:It} {r:List It},yB v l=some (x,r)->∃a b,l=a++x::b/\r=a++b/\yx v x=true/\∀y∈a,yx v y=false
 |[],_,_,h=>by simp[yB] at h
 |y::l,x,r,h=>by
  simp only[yB] at h;by_cases e:yx v y=true
  ·rw[if_pos e] at h
   have j:y=x/\l=r:=by simpa using h
   obtain⟨rfl,rfl⟩:=j;exact⟨[],l,rfl,rfl,e,ι⟩
  ·rw[if_neg e] at h
   cases i:yB v l with
   |none=>rw[i] at h;cases h
   |some p=>
    rw[i] at h;have j:p.1=x/\y::p.2=r:=by simpa using h
    obtain⟨u,q⟩:=j;obtain⟨a,b,K,J,I,H⟩:=EW (x:=x) (r:=p.2) (by rw[i,<-u]);exact⟨y::a,b,by rw[K];rfl,by rw[<-q,J];rfl,I,λz f=>by
      rcases aS.1 f with rfl|f
      ·simpa using e
      ·exact H z f⟩
theorem adK {v:List (Int×Int)} {l:List It} {x:It} {r:List It} (h:yB v l=some (x,r)):l.length=r.length+1:=by
 obtain⟨a,b,rfl,rfl,_⟩:=EW h;simp;omega
def yR:Nat->List (Int×Int)->List It->List It×List It×List (Int×Int)
 |0,v,l=>([],l,v)
 |n+1,v,l=>match yB v l with
  |none=>([],l,v)
  |some (x,r)=>let t:=yR n (setOf v x.c (x.k+1)) r;(x::t.1,t.2.1,t.2.2)
theorem IV {v:List (Int×Int)} {l:List It} (h:yB v l=none) (n:Nat):yR n v l=([],l,v):=by
 cases n with
 |zero=>rfl
 |succ n=>simp[yR,h]
theorem IU {v:List (Int×Int)} {l:List It} {x:It} {r:List It} (h:yB v l=some (x,r)) (n:Nat):yR (n+1) v l=(x::(yR n (setOf v x.c (x.k+1)) r).1,(yR n (setOf v x.c (x.k+1)) r).2.1,(yR n (setOf v x.c (x.k+1)) r).2.2):=by
 simp[yR,h]
def GV (x:It):List It->List It
 |[]=>[x]
 |y::l=>if ltI (iid x) (iid y) then x::y::l else y::GV x l
def zi:List It->List It->List It
 |o,[]=>o
 |o,x::l=>zi (GV x o) l
def r9 (v:List (Int×Int)) (l:List It):List It×List It×List (Int×Int):=yR l.length v (zi [] l)
theorem CQ (x:It):∀l:List It,(GV x l).Perm (x::l)
 |[]=> .refl _
 |y::l=>by
  simp only[GV]
  split
  ·exact .refl _
  ·exact((CQ x l).cons y).trans (.swap x y l)
theorem zf:∀l o:List It,(zi o l).Perm (o++l)
 |[],o=>by simp[zi]
 |x::l,o=>by
  rw[zi];refine(zf l (GV x o)).trans ?_;refine((CQ x o).append_right l).trans ?_;exact gQ.symm
def wT (l:List It):Prop:=l.Pairwise λx y=>iid x≠iid y
theorem Aq {l m:List It} (h:l.Perm m) (a:wT l):wT m:=(h.pairwise_iff (λ{_ _} e=>Ne.symm e)).1 a
theorem Ny:∀{l:List It},wT l->∀{x y:It},x∈l->y∈l->iid x=iid y->x=y
 |[],_,_,_,h,_,_=>by cases h
 |z::l,ha,x,y,hx,hy,e=>by
  have i:=bM.1 ha;rcases aS.1 hx with f|f
  ·rcases aS.1 hy with a|a
   ·rw[f,a]
   ·exact absurd (f▸e) (i.1 y a)
  ·rcases aS.1 hy with a|a
   ·exact absurd (a▸e.symm) (i.1 x f)
   ·exact Ny i.2 f a e
def uE (l:List It):Prop:=l.Pairwise λx y=>ltI (iid x) (iid y)=true
theorem LJ {x:It}:∀{l:List It},uE l->(∀y∈l,iid y≠iid x)->uE (GV x l)
 |[],_,_=>by simp[GV,uE]
 |y::l,h,hn=>by
  have f:=bM.1 h;simp only[GV]
  split
  ·rename_i g
   refine bM.2 ⟨λz a=>?_,h⟩;rcases aS.1 a with rfl|a
   ·exact g
   ·exact vV g (f.1 z a)
  ·rename_i g
   refine bM.2 ⟨λz a=>?_,LJ f.2 λz a=>hn z (aU _ a)⟩;rcases aS.1 ((CQ x l).mem_iff.1 a) with rfl|a
   ·rcases zF (hn y ι) with e|e
    ·exact e
    ·exact absurd e g
   ·exact f.1 z a
theorem FN:∀{l o:List It},uE o->wT (o++l)->uE (zi o l)
 |[],o,h,_=>h
 |x::l,o,h,ha=>by
  rw[zi];refine FN (LJ h λy a e=>?_) (Aq ?_ ha)
  ·have:=(List.pairwise_append.1 ha).2.2 y a x ι
   exact this e
  ·exact gQ.trans ((CQ x o).symm.append_right l)
theorem EJ (a:I2):¬ltI a a=true:=λh=>by have:=rP h;rw[h] at this;cases this
theorem ZL {l m:List It} (i:uE l) (f:uE m) (h:∀x,x∈l↔x∈m):l=m:=
 DK (lt:=λx y=>ltI (iid x) (iid y)=true) (λa=>EJ _) (λa b h e=>by rw[rP h] at e;cases e) i f h
theorem Qa (l:List It):(zi [] l).length=l.length:=by have:=(zf l []).length_eq;simpa using this
inductive PG:List (Int×Int)->List It->List (Int×Int)->Prop
 |nil (v):PG v [] v
 |cons {v x r u}:yx v x=true->PG (setOf v x.c (x.k+1)) r u->PG v (x::r) u
def okW (x:It):Prop:=0<x.c/\x.c<=4294967295/\0<=x.k/\x.k<=4294967294
theorem EA {v:List (Int×Int)} {x:It} (hv:oq 0 v=true) (a:okW x):oq 0 (setOf v x.c (x.k+1))=true:=
 Oa hv a.1 (by have:=a.2.2.1;omega)
theorem N8:∀{l:List (Int×Int)} {c n:Int},wfC l->0<=c->c<=4294967295->0<=n->n<=4294967295->wfC (setOf l c n)
 |[],c,n,_,h1,h2,h3,h4=>by
  simp only[setOf]
  split
  ·intro p a;cases a
  ·intro p a;rcases cu.1 a with rfl;exact⟨h1,h2,h3,h4⟩
 |q::l,c,n,h,h1,h2,h3,h4=>by
  have f:=h q ι;have e:wfC l:=λp a=>h p (aU _ a)
  have one:∀p∈(if n=0 then [] else [(c,n)]:List (Int×Int)),0<=p.1/\p.1<=4294967295/\0<=p.2/\p.2<=4294967295:=λp a=>by
   split at a
   ·cases a
   ·rcases cu.1 a with rfl;exact⟨h1,h2,h3,h4⟩
  simp only[setOf]
  split
  ·intro p a
   rcases aS.1 a with rfl|a
   ·exact f
   ·exact N8 e h1 h2 h3 h4 p a
  ·intro p a
   rcases List.mem_append.1 a with a|a
   ·exact one p a
   ·split at a
    ·exact e p a
    ·exact h p a
theorem Oe:∀{r:List It} {v u:List (Int×Int)},PG v r u->oq 0 v=true->wfC v->(∀x∈r,okW x)->oq 0 u=true/\wfC u/\u.length<=v.length+r.length
 |[],v,u,h,hv,hw,_=>by cases h;exact⟨hv,hw,ι⟩
 |x::r,v,u,h,hv,hw,ho=>by
  have a:=ho x ι;cases h with
  |cons q f=>
   obtain⟨j,i,z⟩:=Oe f (EA hv a) (N8 hw (by have:=a.1;omega) a.2.1 (by have:=a.2.2.1;omega) (by have:=a.2.2.2;omega)) λy e=>ho y (aU _ e)
   have:=Ob v x.c (x.k+1);exact⟨j,i,by simp;omega⟩
theorem Je:∀{r:List It} {v u:List (Int×Int)},PG v r u->oq 0 v=true->(∀x∈r,okW x)->(∀c,nW v c<=nW u c)/\∀c k,(nW v c<=k/\k<nW u c)↔∃x∈r,x.c=c/\x.k=k
 |[],v,u,h,hv,_=>by cases h;exact⟨λc=>Int.le_refl _,λc k=>⟨λh=>absurd h ω,λ⟨x,q,_⟩=>by cases q⟩⟩
 |x::r,v,u,h,hv,ho=>by
  have q:=ho x ι;cases h with
  |cons N M=>
   have U:=(CW.1 N).1;obtain⟨K,Q⟩:=Je M (EA hv q) λy a=>ho y (aU _ a)
   have J:=λd=>ug x.c (x.k+1) d hv
   refine⟨λc=>?_,λc k=>?_⟩
   ·have:=K c
    rw[J] at this;by_cases f:c=x.c
    ·rw[if_pos f] at this;rw[f] at this⊢;omega
    ·rw[if_neg f] at this;exact this
   ·have I:=K c
    have i:=Q c k;rw[J] at I i;by_cases f:c=x.c
    ·rw[if_pos f] at I i
     subst f;constructor
     ·rintro⟨W,O⟩
      by_cases z:k=x.k
      ·exact⟨x,ι,rfl,z.symm⟩
      ·obtain⟨y,a,e⟩:=i.1 ⟨ω,O⟩
       exact⟨y,aU _ a,e⟩
     ·rintro⟨y,a,j,H⟩
      rcases aS.1 a with rfl|a
      ·omega
      ·have:=i.2 ⟨y,a,j,H⟩;omega
    ·rw[if_neg f] at I i
     rw[i];constructor
     ·rintro⟨y,a,e⟩;exact⟨y,aU _ a,e⟩
     ·rintro⟨y,a,j,H⟩
      rcases aS.1 a with rfl|a
      ·exact absurd j.symm f
      ·exact⟨y,a,j,H⟩
theorem SH:∀(n:Nat) (v:List (Int×Int)) (l:List It),l.length<=n->PG v (yR n v l).1 (yR n v l).2.2/\((yR n v l).1++(yR n v l).2.1).Perm l/\(yR n v l).2.1.Sublist l/\∀x∈(yR n v l).2.1,yx (yR n v l).2.2 x=false
 |0,v,l,h=>by
  have:l=[]:=List.length_eq_zero_iff.1 ω;subst this;simp only[yR];exact⟨.nil v,.refl _,.refl _,ι⟩
 |n+1,v,l,h=>by
  cases e:yB v l with
  |none=>
   rw[IV e];exact⟨.nil v,.refl _,.refl _,Kr.1 e⟩
  |some p=>
   obtain⟨x,r⟩:=p;obtain⟨a,b,j,i,I,J⟩:=EW e;have f:=adK e;obtain⟨H,z,u,q⟩:=SH n (setOf v x.c (x.k+1)) r ω;rw[IU e];refine⟨.cons I H,?_,?_,q⟩
   ·refine(z.cons x).trans ?_
    rw[j,i];exact gQ.symm
   ·refine u.trans ?_
    rw[j,i];exact(List.Sublist.refl a).append (List.sublist_cons_self x b)
structure ae3 (v:List (Int×Int)) (l come wait:List It) (u:List (Int×Int)):Prop where
 run:PG v come u
 perm:(come++wait).Perm l
 rise:uE wait
 none:∀x∈wait,yx u x=false
theorem acH {v:List (Int×Int)} {l:List It} (a:wT l):ae3 v l (r9 v l).1 (r9 v l).2.1 (r9 v l).2.2:=by
 obtain⟨j,i,f,e⟩:=SH l.length v (zi [] l) (by rw[Qa];omega);refine⟨j,i.trans (by simpa using zf l []),?_,e⟩;exact List.Pairwise.sublist f (FN .nil (by simpa using a))
theorem Y4 {v u:List (Int×Int)} {l come wait:List It} (I:wT l) (hv:oq 0 v=true) (q:∀x∈l,okW x) (H:∀x∈l,nW v x.c<=x.k) (h:PG v come u) (i:∀x∈come,x∈l):
  ∀x∈l,x∉come->nW u x.c<=x.k:=λx f z=>by
 obtain⟨M,j⟩:=Je h hv λy a=>q y (i y a)
 apply Int.not_lt.1;intro e;obtain⟨y,a,K,J⟩:=(j x.c x.k).1 ⟨H x f,e⟩;have:y=x:=Ny I (i y a) f (by unfold iid;rw[K,J]);rw[this] at a;exact z a
end Go.Proofs.YtejbpijamdlgcaaGreatDoor

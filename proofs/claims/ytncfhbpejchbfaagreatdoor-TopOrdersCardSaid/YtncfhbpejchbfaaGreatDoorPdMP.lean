/-
  Items that wait, in plain lists: which are ready, which come, and that the same come whatever the order; no memory; no claim stands here.
-/
import Derived.Test.YtncfhbpejchbfaaGreatDoorVMathP
import Derived.Test.YtncfhbpejchbfaaGreatDoorPM1
set_option linter.unusedVariables false
set_option linter.unusedSimpArgs false
open Classical renaming byContradiction→ig
open List renaming mem_append→aA,mem_cons_of_mem→aF,mem_cons→aE,mem_singleton→aN,pairwise_cons→bd,perm_middle→dP
namespace Go.Proofs.YtncfhbpejchbfaaGreatDoor
def qD (v:List I2) (x:It):Bool:=decide (x.k=jq v x.c)&&((decide (x.lc=0)||decide (x.lk<jq v x.lc))&&(decide (x.rc=0)||decide (x.rk<jq v x.rc)))
theorem uH {v:List I2} {x:It}:qD v x=true↔x.k=jq v x.c/\(x.lc=0\/x.lk<jq v x.lc)/\(x.rc=0\/x.rk<jq v x.rc):=by
 simp[qD]
def uw (v:List I2):List It->Option (It×List It)
 |[]=>none
 |x::l=>if qD v x then some (x,l) else(uw v l).map λp=>(p.1,x::p.2)
theorem H7 {v:List I2}:∀{l:List It},uw v l=none↔∀x∈l,qD v x=false
 |[]=>by simp[uw]
 |x::l=>by
  have ih:=H7 (v:=v) (l:=l);simp only[uw];by_cases h:qD v x=true
  ·simp[h]
  ·simp[h,ih]
theorem BZ {v:List I2}:∀{l:List It} {x:It} {r:List It},uw v l=some (x,r)->∃a b,l=a++x::b/\r=a++b/\qD v x=true/\∀y∈a,qD v y=false
 |[],_,_,h=>by simp[uw] at h
 |y::l,x,r,h=>by
  simp only[uw] at h;by_cases e:qD v y=true
  ·rw[if_pos e] at h
   have j:y=x/\l=r:=by simpa using h
   obtain⟨rfl,rfl⟩:=j;exact⟨[],l,rfl,rfl,e,ι⟩
  ·rw[if_neg e] at h
   cases i:uw v l with
   |none=>rw[i] at h;cases h
   |some p=>
    rw[i] at h;have j:p.1=x/\y::p.2=r:=by simpa using h
    obtain⟨u,q⟩:=j;obtain⟨a,b,K,J,I,H⟩:=BZ (x:=x) (r:=p.2) (by rw[i,<-u]);exact⟨y::a,b,by rw[K];rfl,by rw[<-q,J];rfl,I,λz f=>by
      rcases aE.1 f with rfl|f
      ·simpa using e
      ·exact H z f⟩
theorem ab1 {v:List I2} {l:List It} {x:It} {r:List It} (h:uw v l=some (x,r)):l.length=r.length+1:=by
 obtain⟨a,b,rfl,rfl,_⟩:=BZ h;simp;omega
def uT:Nat->List I2->List It->List It×List It×List I2
 |0,v,l=>([],l,v)
 |n+1,v,l=>match uw v l with
  |none=>([],l,v)
  |some (x,r)=>let t:=uT n (setOf v x.c (x.k+1)) r;(x::t.1,t.2.1,t.2.2)
theorem FL {v:List I2} {l:List It} (h:uw v l=none) (n:Nat):uT n v l=([],l,v):=by
 cases n with
 |zero=>rfl
 |succ n=>simp[uT,h]
theorem FK {v:List I2} {l:List It} {x:It} {r:List It} (h:uw v l=some (x,r)) (n:Nat):uT (n+1) v l=(x::(uT n (setOf v x.c (x.k+1)) r).1,(uT n (setOf v x.c (x.k+1)) r).2.1,(uT n (setOf v x.c (x.k+1)) r).2.2):=by
 simp[uT,h]
def Eh (x:It):List It->List It
 |[]=>[x]
 |y::l=>if ltI (iid x) (iid y) then x::y::l else y::Eh x l
def vG:List It->List It->List It
 |o,[]=>o
 |o,x::l=>vG (Eh x o) l
def lJ (v:List I2) (l:List It):List It×List It×List I2:=uT l.length v (vG [] l)
theorem y9 (x:It):∀l:List It,(Eh x l).Perm (x::l)
 |[]=> .refl _
 |y::l=>by
  simp only[Eh]
  split
  ·exact .refl _
  ·exact((y9 x l).cons y).trans (.swap x y l)
theorem vE:∀l o:List It,(vG o l).Perm (o++l)
 |[],o=>by simp[vG]
 |x::l,o=>by
  rw[vG];refine(vE l (Eh x o)).trans ?_;refine((y9 x o).append_right l).trans ?_;exact dP.symm
def oL (l:List It):Prop:=l.Pairwise λx y=>iid x≠iid y
theorem qR {l m:List It} (h:l.Perm m) (a:oL l):oL m:=(h.pairwise_iff (λ{_ _} e=>Ne.symm e)).1 a
theorem zB:∀{l:List It},oL l->∀{x y:It},x∈l->y∈l->iid x=iid y->x=y
 |[],_,_,_,h,_,_=>by cases h
 |z::l,ha,x,y,hx,hy,e=>by
  have i:=bd.1 ha;rcases aE.1 hx with f|f
  ·rcases aE.1 hy with a|a
   ·rw[f,a]
   ·exact absurd (f▸e) (i.1 y a)
  ·rcases aE.1 hy with a|a
   ·exact absurd (a▸e.symm) (i.1 x f)
   ·exact zB i.2 f a e
theorem EG {l:List It} (h:oL l):l.Nodup:=List.Pairwise.imp (λe a=>e (by rw[a])) h
def oV (l:List It):Prop:=l.Pairwise λx y=>ltI (iid x) (iid y)=true
theorem Jf {x:It}:∀{l:List It},oV l->(∀y∈l,iid y≠iid x)->oV (Eh x l)
 |[],_,_=>by simp[Eh,oV]
 |y::l,h,hn=>by
  have f:=bd.1 h;simp only[Eh]
  split
  ·rename_i g
   refine bd.2 ⟨λz a=>?_,h⟩;rcases aE.1 a with rfl|a
   ·exact g
   ·exact qP g (f.1 z a)
  ·rename_i g
   refine bd.2 ⟨λz a=>?_,Jf f.2 λz a=>hn z (aF _ a)⟩;rcases aE.1 ((y9 x l).mem_iff.1 a) with rfl|a
   ·rcases vY (hn y ι) with e|e
    ·exact e
    ·exact absurd e g
   ·exact f.1 z a
theorem C9:∀{l o:List It},oV o->oL (o++l)->oV (vG o l)
 |[],o,h,_=>h
 |x::l,o,h,ha=>by
  rw[vG];refine C9 (Jf h λy a e=>?_) (qR ?_ ha)
  ·have:=(List.pairwise_append.1 ha).2.2 y a x ι
   exact this e
  ·exact dP.trans ((y9 x o).symm.append_right l)
theorem BL (a:I2):¬ltI a a=true:=λh=>by have:=mR h;rw[h] at this;cases this
theorem NV {l m:List It} (f:oV l) (hm:oV m) (h:∀x,x∈l↔x∈m):l=m:=
 zU (lt:=λx y=>ltI (iid x) (iid y)=true) (λa=>BL _) (λa b h e=>by rw[mR h] at e;cases e) f hm h
theorem NA (l:List It):(vG [] l).length=l.length:=by have:=(vE l []).length_eq;simpa using this
inductive wH:List I2->List It->List I2->Prop
 |nil (v):wH v [] v
 |cons {v x r u}:qD v x=true->wH (setOf v x.c (x.k+1)) r u->wH v (x::r) u
def okW (x:It):Prop:=0<x.c/\x.c<=4294967295/\0<=x.k/\x.k<=4294967294
theorem Bv {v:List I2} {x:It} (hv:jB 0 v=true) (a:okW x):jB 0 (setOf v x.c (x.k+1))=true:=
 KX hv a.1 (by have:=a.2.2.1;omega)
theorem KU:∀{l:List I2} {c n:Int},wfC l->0<=c->c<=4294967295->0<=n->n<=4294967295->wfC (setOf l c n)
 |[],c,n,_,h1,h2,h3,h4=>by
  simp only[setOf]
  split
  ·intro p a;cases a
  ·intro p a;rcases aN.1 a with rfl;exact⟨h1,h2,h3,h4⟩
 |q::l,c,n,h,h1,h2,h3,h4=>by
  have f:=h q ι;have e:wfC l:=λp a=>h p (aF _ a)
  have one:∀p∈(if n=0 then [] else [(c,n)]:List I2),0<=p.1/\p.1<=4294967295/\0<=p.2/\p.2<=4294967295:=λp a=>by
   split at a
   ·cases a
   ·rcases aN.1 a with rfl;exact⟨h1,h2,h3,h4⟩
  simp only[setOf]
  split
  ·intro p a
   rcases aE.1 a with rfl|a
   ·exact f
   ·exact KU e h1 h2 h3 h4 p a
  ·intro p a
   rcases aA.1 a with a|a
   ·exact one p a
   ·split at a
    ·exact e p a
    ·exact h p a
theorem za:∀{r:List It} {v u:List I2},wH v r u->jB 0 v=true->wfC v->(∀x∈r,okW x)->jB 0 u=true/\wfC u/\u.length<=v.length+r.length
 |[],v,u,h,hv,hw,_=>by cases h;exact⟨hv,hw,ι⟩
 |x::r,v,u,h,hv,hw,ho=>by
  have a:=ho x ι;cases h with
  |cons q f=>
   obtain⟨j,i,z⟩:=za f (Bv hv a) (KU hw (by have:=a.1;omega) a.2.1 (by have:=a.2.2.1;omega) (by have:=a.2.2.2;omega)) λy e=>ho y (aF _ e)
   have:=KY v x.c (x.k+1);exact⟨j,i,by simp;omega⟩
theorem sV:∀{r:List It} {v u:List I2},wH v r u->jB 0 v=true->(∀x∈r,okW x)->(∀c,jq v c<=jq u c)/\∀c k,(jq v c<=k/\k<jq u c)↔∃x∈r,x.c=c/\x.k=k
 |[],v,u,h,hv,_=>by cases h;exact⟨λc=>Int.le_refl _,λc k=>⟨λh=>absurd h ω,λ⟨x,q,_⟩=>by cases q⟩⟩
 |x::r,v,u,h,hv,ho=>by
  have q:=ho x ι;cases h with
  |cons N M=>
   have U:=(uH.1 N).1;obtain⟨K,Q⟩:=sV M (Bv hv q) λy a=>ho y (aF _ a)
   have J:=λd=>oG x.c (x.k+1) d hv
   refine⟨λc=>?_,λc k=>?_⟩
   ·have:=K c
    rw[J] at this;by_cases f:c=x.c
    ·rw[if_pos f] at this;rw[f] at this⊢;omega
    ·rw[if_neg f] at this;exact this
   ·have I:=K c
    have i:=Q c k;rw[J] at I i;by_cases f:c=x.c
    ·rw[if_pos f] at I i
     subst f;constructor
     ·rintro⟨W,O⟩
      by_cases z:k=x.k
      ·exact⟨x,ι,rfl,z.symm⟩
      ·obtain⟨y,a,e⟩:=i.1 ⟨ω,O⟩
       exact⟨y,aF _ a,e⟩
     ·rintro⟨y,a,j,H⟩
      rcases aE.1 a with rfl|a
      ·omega
      ·have:=i.2 ⟨y,a,j,H⟩;omega
    ·rw[if_neg f] at I i
     rw[i];constructor
     ·rintro⟨y,a,e⟩;exact⟨y,aF _ a,e⟩
     ·rintro⟨y,a,j,H⟩
      rcases aE.1 a with rfl|a
      ·exact absurd j.symm f
      ·exact⟨y,a,j,H⟩
theorem Yj {r:List It} {v u:List I2} {x:It} (h:wH v r u) (a:qD u x=true):wH v (r++[x]) (setOf u x.c (x.k+1)):=by
 induction h with
 |nil v=>exact .cons a (.nil _)
 |cons e _ ih=>exact .cons e (ih a)
theorem aa8 {r s:List It} {v u t:List I2} (h:wH v r u) (a:wH u s t):wH v (r++s) t:=by
 induction h with
 |nil v=>exact a
 |cons e _ ih=>exact .cons e (ih a)
theorem La {S:List It} {v j:List I2} {H:List It} (hS:oL S) (hv:jB 0 v=true) (J:∀x∈S,okW x) (U:∀x∈S,jq v x.c<=x.k)
  (X:wH v H j) (e:∀x∈H,x∈S) (i:∀x∈S,x∉H->qD j x=false):
  ∀(r p:List It) (f u:List I2),wH v p f->wH f r u->(∀x∈p,x∈H)->(∀x∈r,x∈S)->∀x∈r,x∈H
 |[],_,_,_,_,_,_,_=>by simp
 |x::r,p,f,u,hp,hr,hpr,hrS=>by
  cases hr with
  |cons W h2=>
   obtain⟨n1,O⟩:=sV X hv λy a=>J y (e y a)
   obtain⟨m1,m2⟩:=sV hp hv λy a=>J y (e y (hpr y a))
   have le:∀c,jq f c<=jq j c:=λc=>by
        apply Int.not_lt.1;intro K;obtain⟨y,a,N,M⟩:=(m2 c (jq j c)).1 ⟨n1 c,K⟩;have:=(O c (jq j c)).2 ⟨y,hpr y a,N,M⟩;omega
   have z:=hrS x ι;have Q:x∈H:=by
        apply ig;intro hn;obtain⟨q1,Z,Y⟩:=uH.1 W;have I:x.k=jq j x.c:=by
         apply ig;intro a0;have:=le x.c;obtain⟨y,a,N,M⟩:=(O x.c x.k).1 ⟨U x z,ω⟩;have:y=x:=zB hS (e y a) z (by unfold iid;rw[N,M]);rw[this] at a;exact hn a
        have:qD j x=true:=uH.2 ⟨I,Z.imp id λq=>by have:=le x.lc;omega,Y.imp id λq=>by have:=le x.rc;omega⟩;rw[i x z hn] at this;cases this
   have ih:=La hS hv J U X e i r (p++[x]) _ u (Yj hp W) h2 (λy a=>by
        rcases aA.1 a with a|a
        ·exact hpr y a
        ·rcases aN.1 a with rfl;exact Q) λy a=>hrS y (aF _ a)
   intro y a;rcases aE.1 a with rfl|a
   ·exact Q
   ·exact ih y a
theorem Yk {S:List It} {v u a:List I2} {r j:List It} (hS:oL S) (hv:jB 0 v=true) (H:∀x∈S,okW x) (W:∀x∈S,jq v x.c<=x.k)
  (h:wH v r u) (J:∀x∈r,x∈S) (z:∀x∈S,x∉r->qD u x=false)
  (I:wH v j a) (i:∀x∈j,x∈S) (N:∀x∈S,x∉j->qD a x=false):(∀x,x∈r↔x∈j)/\(wfC v->u=a):=by
 have e:∀x,x∈r↔x∈j:=λx=>⟨La hS hv H W I i N r [] v u (.nil v) h ι J x,La hS hv H W h J z j [] v a (.nil v) I ι i x⟩
 refine⟨e,λU=>?_⟩;have ok:=λy f=>H y (J y f)
 have q:=λy f=>H y (i y f)
 obtain⟨X,O⟩:=sV h hv ok;obtain⟨Y,Q⟩:=sV I hv q;refine GA (za h hv U ok).1 (za I hv U q).1 λc=>?_
 rcases Int.lt_trichotomy (jq u c) (jq a c) with g|g|g
 ·obtain⟨y,f,M,K⟩:=(Q c (jq u c)).1 ⟨X c,g⟩
  have:=(O c (jq u c)).2 ⟨y,(e y).2 f,M,K⟩;omega
 ·exact g
 ·obtain⟨y,f,M,K⟩:=(O c (jq a c)).1 ⟨Y c,g⟩
  have:=(Q c (jq a c)).2 ⟨y,(e y).1 f,M,K⟩;omega
theorem Qk:∀(n:Nat) (v:List I2) (l:List It),l.length<=n->wH v (uT n v l).1 (uT n v l).2.2/\((uT n v l).1++(uT n v l).2.1).Perm l/\(uT n v l).2.1.Sublist l/\∀x∈(uT n v l).2.1,qD (uT n v l).2.2 x=false
 |0,v,l,h=>by
  have:l=[]:=List.length_eq_zero_iff.1 ω;subst this;simp only[uT];exact⟨.nil v,.refl _,.refl _,ι⟩
 |n+1,v,l,h=>by
  cases e:uw v l with
  |none=>
   rw[FL e];exact⟨.nil v,.refl _,.refl _,H7.1 e⟩
  |some p=>
   obtain⟨x,r⟩:=p;obtain⟨a,b,j,i,I,J⟩:=BZ e;have f:=ab1 e;obtain⟨H,z,u,q⟩:=Qk n (setOf v x.c (x.k+1)) r ω;rw[FK e];refine⟨.cons I H,?_,?_,q⟩
   ·refine(z.cons x).trans ?_
    rw[j,i];exact dP.symm
   ·refine u.trans ?_
    rw[j,i];exact(List.Sublist.refl a).append (List.sublist_cons_self x b)
structure adn (v:List I2) (l come wait:List It) (u:List I2):Prop where
 run:wH v come u
 perm:(come++wait).Perm l
 rise:oV wait
 none:∀x∈wait,qD u x=false
theorem aaY {v:List I2} {l:List It} (a:oL l):adn v l (lJ v l).1 (lJ v l).2.1 (lJ v l).2.2:=by
 obtain⟨j,i,f,e⟩:=Qk l.length v (vG [] l) (by rw[NA];omega);refine⟨j,i.trans (by simpa using vE l []),?_,e⟩;exact List.Pairwise.sublist f (C9 .nil (by simpa using a))
theorem Xx {v u:List I2} {l come wait:List It} (H:oL l) (hv:jB 0 v=true) (q:∀x∈l,okW x) (z:∀x∈l,jq v x.c<=x.k) (h:wH v come u) (i:∀x∈come,x∈l):
  ∀x∈l,x∉come->jq u x.c<=x.k:=λx f hn=>by
 obtain⟨K,j⟩:=sV h hv λy a=>q y (i y a)
 apply Int.not_lt.1;intro e;obtain⟨y,a,J,I⟩:=(j x.c x.k).1 ⟨z x f,e⟩;have:y=x:=zB H (i y a) f (by unfold iid;rw[J,I]);rw[this] at a;exact hn a
end Go.Proofs.YtncfhbpejchbfaaGreatDoor

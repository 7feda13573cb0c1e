/-
  Lemmas of this seat; no claim.
-/
import Derived.Test.YtncfhbpejchbfaaGreatDoorPMn1
set_option linter.unusedVariables false
set_option linter.unusedSimpArgs false
open Bool renaming and_eq_true→aC,false_or→dv
open List renaming append_inj'→im,cons_append→aJ,dropLast_concat→dy,getElem?_append_left→bX,getElem?_append_right→di,getElem?_eq_some_iff→aq,getElem?_map→bF,getElem?_of_mem→ey,getElem?_take→d8,getElem?_zip_eq_some→iG,length_append→ag,length_singleton→cy,mem_append_left→aX,mem_append_right→aM,mem_append→aA,mem_cons_of_mem→aF,mem_cons_self→aH,mem_cons→aE,mem_filter→dY,mem_map→cG,mem_of_getElem?→aD,mem_singleton→aN,nodup_cons→dZ,pairwise_append→co,pairwise_cons→bd,take_add_one→bG,take_append_drop→ek
open List.Pairwise renaming nil→eR
open Nat renaming le_refl→am,sub_self→gV
open Option.some renaming injEq→aL,inj→cO
open Prod renaming fst→iw
namespace Go.Proofs.YtncfhbpejchbfaaGreatDoor
section
abbrev I2:=Int×Int
def iid (x:It):I2:=(x.c,x.k)
def ilf (x:It):I2:=(x.lc,x.lk)
def irt (x:It):I2:=(x.rc,x.rk)
def ltI (a b:I2):Bool:=decide (a.1<b.1\/(a.1=b.1/\a.2<b.2))
variable {a b:I2}
theorem qZ:ltI a b=true↔(a.1<b.1\/(a.1=b.1/\a.2<b.2)):=by unfold ltI;simp
theorem mR (h:ltI a b=true):ltI b a=false:=by
 rw[qZ] at h;cases e:ltI b a with
 |false=>rfl
 |true=>rw[qZ] at e;omega
theorem qP {c:I2} (h:ltI a b=true) (k:ltI b c=true):ltI a c=true:=by
 rw[qZ] at*;omega
theorem vY (h:a≠b):ltI a b=true\/ltI b a=true:=by
 rw[qZ,qZ];have:¬(a.1=b.1/\a.2=b.2):=λ⟨f,e⟩=>h (Prod.ext f e)
 omega
abbrev Pth:=List (Bool×I2)
def ltP:Pth->Pth->Bool
 |[],[]=>false
 |[],(s,_)::_=>s
 |(s,_)::_,[]=> !s
 |(s,a)::p,(t,b)::q=>if s=t then(if a=b then ltP p q else ltI a b) else !s
theorem wS:∀p:Pth,ltP p p=false
 |[]=>rfl
 |(s,a)::p=>by rw[ltP,if_pos rfl,if_pos rfl,wS p]
theorem vW:∀{p q:Pth},ltP p q=true->ltP q p=false
 |[],[],h=>by cases h
 |[],(s,b)::q,h=>by
  have h:s=true:=h;subst h;rfl
 |(s,a)::p,[],h=>by
  have h:(!s)=true:=h;show s=false;cases s
  ·rfl
  ·cases h
 |(s,a)::p,(t,b)::q,h=>by
  rw[ltP] at h⊢;by_cases f:s=t
  ·subst f
   rw[if_pos rfl] at h⊢;by_cases i:a=b
   ·subst i
    rw[if_pos rfl] at h⊢;exact vW h
   ·rw[if_neg i] at h
    rw[if_neg (λe=>i e.symm)];exact mR h
  ·rw[if_neg f] at h
   rw[if_neg (λe=>f e.symm)];cases s <;> cases t <;> simp_all
theorem vV:∀{p q r:Pth},ltP p q=true->ltP q r=true->ltP p r=true
 |[],[],r,h,k=>by cases h
 |p,[],[],h,k=>by cases k
 |[],(t,b)::q,[],h,k=>by
  have h:t=true:=h;have k:(!t)=true:=k;subst h;cases k
 |[],(t,b)::q,(u,c)::r,h,k=>by
  have h:t=true:=h;subst h;show u=true;rw[ltP] at k;cases u
  ·simp at k
  ·rfl
 |(s,a)::p,[],(u,c)::r,h,k=>by
  have h:(!s)=true:=h;have k:u=true:=k;subst k;cases s
  ·rw[ltP];simp
  ·cases h
 |(s,a)::p,(t,b)::q,[],h,k=>by
  have k:(!t)=true:=k;show(!s)=true;rw[ltP] at h;cases t
  ·cases s
   ·rfl
   ·simp at h
  ·cases k
 |(s,a)::p,(t,b)::q,(u,c)::r,h,k=>by
  rw[ltP] at h k⊢;by_cases M:s=t
  ·subst M
   rw[if_pos rfl] at h;by_cases K:s=u
   ·subst K
    rw[if_pos rfl] at k⊢;by_cases J:a=b
    ·subst J
     rw[if_pos rfl] at h;by_cases f:a=c
     ·subst f
      rw[if_pos rfl] at k⊢;exact vV h k
     ·rw[if_neg f] at k⊢;exact k
    ·rw[if_neg J] at h
     by_cases f:b=c
     ·subst f
      rw[if_neg J];exact h
     ·rw[if_neg f] at k
      have I:=qP h k;have H:a≠c:=λe=>by
        subst e;rw[mR h] at k;cases k
      rw[if_neg H];exact I
   ·rw[if_neg K] at k⊢;exact k
  ·rw[if_neg M] at h
   have z:s=false:=by cases s <;> simp_all
   have j:t=true:=by cases t <;> simp_all
   subst z;subst j;have i:u=true:=by
     cases u
     ·simp at k
     ·rfl
   subst i;simp
theorem JF:∀{p q:Pth},p≠q->ltP p q=true\/ltP q p=true
 |[],[],h=>absurd rfl h
 |[],(s,b)::q,h=>by
  show s=true\/(!s)=true;cases s <;> simp
 |(s,a)::p,[],h=>by
  show(!s)=true\/s=true;cases s <;> simp
 |(s,a)::p,(t,b)::q,h=>by
  rw[ltP,ltP];by_cases i:s=t
  ·subst i
   rw[if_pos rfl,if_pos rfl];by_cases f:a=b
   ·subst f
    rw[if_pos rfl,if_pos rfl];exact JF (λe=>h (by rw[e]))
   ·rw[if_neg f,if_neg (λe=>f e.symm)]
    exact vY f
  ·rw[if_neg i,if_neg (λe=>i e.symm)]
   cases s <;> cases t <;> simp_all
theorem JG (p:Pth) (a:I2) (q:Pth):ltP p (p++(true,a)::q)=true:=by
 induction p with
 |nil=>rfl
 |cons x p ih=>obtain⟨s,b⟩:=x;rw[aJ,ltP,if_pos rfl,if_pos rfl];exact ih
theorem Oz (p:Pth) (a:I2) (q:Pth):ltP (p++(false,a)::q) p=true:=by
 induction p with
 |nil=>rfl
 |cons x p ih=>obtain⟨s,b⟩:=x;rw[aJ,ltP,if_pos rfl,if_pos rfl];exact ih
theorem GV:∀{p q:Pth},ltP p q=true->(∀r,q≠p++r)->∀z,ltP (p++z) q=true
 |[],q,h,hn,z=>absurd rfl (hn q)
 |(s,a)::p,[],h,hn,z=>h
 |(s,a)::p,(t,b)::q,h,hn,z=>by
  rw[aJ,ltP];rw[ltP] at h;by_cases f:s=t
  ·subst f
   rw[if_pos rfl] at h⊢;by_cases i:a=b
   ·subst i
    rw[if_pos rfl] at h⊢;exact GV h (λr e=>hn r (by rw[e];rfl)) z
   ·rw[if_neg i] at h⊢;exact h
  ·rw[if_neg f] at h⊢;exact h
theorem zU {q:Type} {lt:q->q->Prop} (f:∀a,¬lt a a) (j:∀a b,lt a b->¬lt b a):∀{l m:List q},l.Pairwise lt->m.Pairwise lt->(∀x,x∈l↔x∈m)->l=m
 |[],[],_,_,_=>rfl
 |[],b::m,_,_,h=>by have:=(h b).2 (aH ..);cases this
 |a::l,[],_,_,h=>by have:=(h a).1 (aH ..);cases this
 |a::l,b::m,h1,h2,h=>by
  rw[bd] at h1 h2;have u:a=b:=by
   rcases aE.1 ((h a).1 (aH ..)) with e|H
   ·exact e
   ·rcases aE.1 ((h b).2 (aH ..)) with e|z
    ·exact e.symm
    ·exact absurd (h1.1 b z) (j _ _ (h2.1 a H))
  subst u
  congr 1
  refine zU f j h1.2 h2.2 λx=>?_
  constructor
  ·intro i
   rcases aE.1 ((h x).1 (aF _ i)) with e|hm
   ·subst e;exact absurd (h1.1 _ i) (f _)
   ·exact hm
  ·intro i
   rcases aE.1 ((h x).2 (aF _ i)) with e|hm
   ·subst e;exact absurd (h2.1 _ i) (f _)
   ·exact hm
end
section
structure Hg where
 on:I2
 right:Bool
def fnd:List It->I2->Option Nat
 |[],_=>none
 |x::l,a=>if iid x=a then some 0 else(fnd l a).map (· +1)
def jw (l:List It) (a:I2):Bool:=l.any λx=>decide (iid x=a)
variable {a:I2} {l m:List It} {o:List I2} {x:It}
theorem jO:jw l a=true↔∃x∈l,iid x=a:=by
 unfold jw;rw[List.any_eq_true];simp
theorem rM:fnd l a=none↔jw l a=false:=by
 induction l with
 |nil=>simp[fnd,jw]
 |cons x l ih=>
  rw[fnd];unfold jw at ih⊢;rw[List.any_cons];by_cases h:iid x=a
  ·simp[h]
  ·rw[if_neg h]
   simp only[h,decide_false,dv,Option.map_eq_none_iff];exact ih
theorem tF {i:Nat} (h:fnd l a=some i):∃x,l[i]? =some x/\iid x=a:=by
 induction l generalizing i with
 |nil=>cases h
 |cons x l ih=>
  rw[fnd] at h;by_cases e:iid x=a
  ·rw[if_pos e] at h
   injection h with h;subst h;exact⟨x,rfl,e⟩
  ·rw[if_neg e] at h
   cases f:fnd l a with
   |none=>rw[f] at h;cases h
   |some j=>
    rw[f] at h;simp only[Option.map_some,aL] at h;subst h;obtain⟨y,u,q⟩:=ih f;exact⟨y,by simpa using u,q⟩
theorem Pv (l:List It) (x:It) (a:I2):fnd (l++[x]) a=match fnd l a with
  |some i=>some i
  |none=>if iid x=a then some l.length else none:=by
 induction l with
 |nil=>simp[fnd]
 |cons y l ih=>
  rw[aJ,fnd,fnd,ih];by_cases h:iid y=a
  ·rw[if_pos h,if_pos h]
  ·rw[if_neg h,if_neg h]
   cases fnd l a with
   |some i=>rfl
   |none=>
    simp only[Option.map_none]
    split <;> simp
def kC (p:List It) (x:It):Bool:=decide (x.c≠0)&& !jw p (iid x)&&(decide (x.lc=0)||jw p (ilf x))&&(decide (x.rc=0)||jw p (irt x))
def Ak (p:List It):List It->Bool
 |[]=>true
 |x::r=>kC p x&&Ak (p++[x]) r
def jy (l:List It):Bool:=Ak [] l
theorem Ew:∀(l p:List It) (x:It),Ak p (l++[x])=(Ak p l&&kC (p++l) x)
 |[],p,x=>by simp[Ak]
 |y::l,p,x=>by
  rw[aJ,Ak,Ak,Ew l (p++[y]) x,Bool.and_assoc];simp
theorem jZ (l:List It) (x:It):jy (l++[x])=(jy l&&kC l x):=by
 have:=Ew l [] x;simpa[jy] using this
theorem JI:∀(r m:List It),jy (m++r)=true->jy m=true
 |[],m,h=>by simpa using h
 |y::r,m,h=>by
  have f:jy ((m++[y])++r)=true:=by simpa using h
  have e:=JI r (m++[y]) f;rw[jZ,aC] at e;exact e.1
theorem wU (h:jy l=true) (n:Nat):jy (l.take n)=true:=JI (l.drop n) (l.take n) (by rw[ek];exact h)
theorem pE {i:Type} {P:List i->Prop} (u:P []) (q:∀l x,P l->P (l++[x])) (l:List i):P l:=by
 have h:∀n (l:List i),l.length=n->P l:=by
  intro n
  induction n with
  |zero=>intro l f;rw[List.length_eq_zero_iff.1 f];exact u
  |succ n ih=>
   intro l f;have j:l≠[]:=λe=>by rw[e] at f;simp at f
   rw[<-List.dropLast_concat_getLast j];exact q _ _ (ih _ (by rw[List.length_dropLast];omega))
 exact h _ l rfl
def pOf (l:List It) (e:List Pth) (a:I2):Pth:=match fnd l a with
 |none=>[]
 |some i=>(e[i]?).getD []
def pQ (l:List It) (e:List Pth) (a b:I2):Bool:=decide (b.1=0)||((pOf l e a).dropLast.any λs=>decide (s.2=b))
def Dk (l:List It) (e:List Pth) (x:It):Hg:=
 if x.rc≠0/\pQ l e (irt x) (ilf x)=true then⟨irt x,false⟩ else⟨if x.lc=0 then(0,0) else ilf x,true⟩
def newP (l:List It) (e:List Pth) (x:It):Pth:=pOf l e (Dk l e x).on++[((Dk l e x).right,iid x)]
def xY (p:List It) (e:List Pth):List It->List Pth
 |[]=>e
 |x::r=>xY (p++[x]) (e++[newP p e x]) r
def paths (l:List It):List Pth:=xY [] [] l
def pth (l:List It) (a:I2):Pth:=pOf l (paths l) a
theorem Et:∀(l p:List It) (e:List Pth) (x:It),xY p e (l++[x])=xY p e l++[newP (p++l) (xY p e l) x]
 |[],p,e,x=>by simp[xY]
 |y::l,p,e,x=>by
  rw[aJ,xY,xY,Et l];simp
theorem zZ (l:List It) (x:It):paths (l++[x])=paths l++[newP l (paths l) x]:=by
 have:=Et l [] [] x;simpa[paths] using this
theorem Dl (l:List It):(paths l).length=l.length:=by
 refine pE (P:=λl=>(paths l).length=l.length) rfl (λl x ih=>?_) l;rw[zZ];simp[ih]
theorem oP (h:jw l a=true):pth (l++[x]) a=pth l a:=by
 unfold pth pOf;rw[Pv,zZ];cases e:fnd l a with
 |none=>rw[rM.1 e] at h;cases h
 |some i=>
  obtain⟨y,f,_⟩:=tF e;have hi:=(aq.1 f).1;simp only;rw[bX (by rw[Dl];exact hi)]
theorem qw (h:jw l (iid x)=false):pth (l++[x]) (iid x)=newP l (paths l) x:=by
 unfold pth pOf;rw[Pv,zZ,rM.2 h];simp only[if_pos];rw[di (by rw[Dl];exact am _),Dl,gV];rfl
theorem kF (h:jw l a=false):pth l a=[]:=by
 unfold pth pOf;rw[rM.2 h]
theorem lD:jw (l++[x]) a=(jw l a||decide (iid x=a)):=by
 unfold jw;rw[List.any_append];simp
def hgP (l:List It) (x:It):Hg:=Dk l (paths l) x
theorem pI (l:List It) (x:It):newP l (paths l) x=pth l (hgP l x).on++[((hgP l x).right,iid x)]:=rfl
theorem jG (h:kC l x=true):x.c≠0/\jw l (iid x)=false/\(x.lc=0\/jw l (ilf x)=true)/\(x.rc=0\/jw l (irt x)=true):=by
 unfold kC at h;simpa[aC,and_assoc] using h
theorem LM (h:jy l=true):∀x∈l,x.c≠0:=by
 refine pE (P:=λl=>jy l=true->∀x∈l,x.c≠0) ι (λl x ih h=>?_) l h;rw[jZ,aC] at h;intro y e;rcases aA.1 e with e|e
 ·exact ih h.1 y e
 ·rw[aN] at e
  subst e;exact(jG h.2).1
theorem kH (h:jy l=true) (k:Int):jw l (0,k)=false:=by
 cases hh:jw l (0,k) with
 |false=>rfl
 |true=>
  obtain⟨x,f,e⟩:=jO.1 hh;have:=LM h x f;unfold iid at e;injection e with e1 e2;exact absurd e1 this
theorem Aq (h:kC l x=true):(hgP l x).on=(0,0)\/jw l (hgP l x).on=true:=by
 obtain⟨_,_,f,e⟩:=jG h;unfold hgP Dk
 split
 ·rename_i j
  rcases e with e|e
  ·exact absurd e j.1
  ·exact .inr e
 ·simp only
  split
  ·exact .inl rfl
  ·rename_i i
   rcases f with f|f
   ·exact absurd f i
   ·exact .inr f
theorem kN (h:jy l=true):∀a,jw l a=true->∃s p,pth l a=p++[(s,a)]/\(∀t∈p,jw l t.2=true/\t.2≠a):=by
 refine pE (P:=λl=>jy l=true->∀a,jw l a=true->∃s p,pth l a=p++[(s,a)]/\(∀t∈p,jw l t.2=true/\t.2≠a)) (λ_ a h=>by simp[jw] at h) (λl x ih h a z=>?_) l h;rw[jZ,aC] at h;obtain⟨_,i,_,_⟩:=jG h.2;cases q:jw l a with
 |true=>
  obtain⟨s,p,u,j⟩:=ih h.1 a q;refine⟨s,p,by rw[oP q];exact u,λt f=>?_⟩;rw[lD,(j t f).1];exact⟨rfl,(j t f).2⟩
 |false=>
  rw[lD,q,dv,decide_eq_true_eq] at z;subst z;refine⟨_,_,by rw[qw i,pI],λt f=>?_⟩;have hin:jw l t.2=true:=by
   rcases Aq h.2 with e|e
   ·rw[e,kF (kH h.1 0)] at f
    cases f
   ·obtain⟨s,p,u,j⟩:=ih h.1 _ e
    rw[u] at f;rcases aA.1 f with f|f
    ·exact(j t f).1
    ·rw[aN] at f
     subst f;exact e
  refine⟨by rw[lD,hin];rfl,λe=>?_⟩;rw[e,i] at hin;cases hin
theorem Fb (h:jy l=true) {b:I2} (i:jw l a=true) (f:jw l b=true) (e:pth l a=pth l b):a=b:=by
 obtain⟨s,p,u,_⟩:=kN h a i;obtain⟨t,q,j,_⟩:=kN h b f;rw[u,j] at e;have:=congrArg (λz=>z.getLast?) e;simp at this;exact this.2
theorem Gh {n:Nat} (h:jy l=true) (f:jw (l.take n) a=true):pth l a=pth (l.take n) a:=by
 have e:∀(r m:List It),jw m a=true->pth (m++r) a=pth m a:=by
  intro r
  induction r with
  |nil=>intro m _;rw[List.append_nil]
  |cons y r ih=>
   intro m hm;have i:m++y::r=(m++[y])++r:=ι
   rw[i,ih (m++[y]) (by rw[lD,hm];rfl),oP hm]
 have:=e (l.drop n) (l.take n) f;rwa[ek] at this
theorem wo (h:jy l=true) {i:Nat} (f:l[i]? =some x):kC (l.take i) x=true/\pth l (iid x)=newP (l.take i) (paths (l.take i)) x:=by
 have j:=wU h (i+1);rw[bG,f] at j;have e:jy (l.take i++[x])=true:=j;rw[jZ,aC] at e;refine⟨e.2,?_⟩;have hh:jw (l.take (i+1)) (iid x)=true:=by rw[bG,f];show jw (l.take i++[x]) _=true;rw[lD];simp
 rw[Gh h hh,bG,f];exact qw (jG e.2).2.1
theorem SS (q:jy l=true) (hm:jy m=true) (I:∀x∈l,x∈m):∀a,jw l a=true->pth l a=pth m a:=by
 refine pE (P:=λl=>jy l=true->(∀x∈l,x∈m)->∀a,jw l a=true->pth l a=pth m a) (λ_ _ a h=>by simp[jw] at h) (λl x ih q I a Y=>?_) l q I;rw[jZ,aC] at q;have z:=ih q.1 (λy Z=>I y (aX _ Z));obtain⟨_,K,a0,J⟩:=jG q.2;cases j:jw l a with
 |true=>rw[oP j];exact z a j
 |false=>
  rw[lD,j,dv,decide_eq_true_eq] at Y;subst Y;obtain⟨i,hi⟩:=ey (I x (aM _ (aN.2 rfl)));obtain⟨X,hp⟩:=wo hm hi;obtain⟨_,_,a1,W⟩:=jG X;rw[qw K,hp,pI,pI];have H:∀b,(jw l b=true)->(jw (m.take i) b=true)->pth l b=pth (m.take i) b:=λb Q O=>by rw[z b Q,Gh hm O]
  have f:∀k,pth l (0,k)=pth (m.take i) (0,k):=λk=>by rw[kF (kH q.1 k),kF (kH (wU hm i) k)]
  have N:(x.rc≠0->pQ l (paths l) (irt x) (ilf x)=pQ (m.take i) (paths (m.take i)) (irt x) (ilf x)):=λu=>by
   have Q:=J.resolve_left u;have O:=W.resolve_left u;have:=H (irt x) Q O;unfold pth at this;unfold pQ;rw[this]
  have M:hgP l x=hgP (m.take i) x:=by
   unfold hgP Dk;by_cases u:x.rc≠0
   ·rw[N u]
   ·rw[if_neg (show¬(x.rc≠0/\pQ l (paths l) (irt x) (ilf x)=true) from λh=>u h.1),if_neg (show¬(x.rc≠0/\pQ (m.take i) (paths (m.take i)) (irt x) (ilf x)=true) from λh=>u h.1)]
  rw[M]
  congr 1
  rcases Aq q.2 with e|e
  ·rw[M] at e;rw[e];exact f 0
  ·rcases Aq X with U|U
   ·rw[U];exact f 0
   ·rw[M] at e;exact H _ e U
def ltO (l:List It) (a b:I2):Prop:=ltP (pth l a) (pth l b)=true
structure yV (l:List It) (o:List I2):Prop where
 all:∀a,a∈o↔jw l a=true
 rise:o.Pairwise (ltO l)
theorem Tj (l:List It) (a:I2):¬ltO l a a:=λh=>by unfold ltO at h;rw[wS] at h;cases h
theorem abv (l:List It) (a b:I2) (h:ltO l a b):¬ltO l b a:=λk=>by
 unfold ltO at h k;rw[vW h] at k;cases k
theorem Gu {e:List I2} (h:yV l o) (f:yV l e):o=e:=
 zU (Tj l) (abv l) h.rise f.rise (λa=>by rw[h.all,f.all])
theorem MC (i:∀x∈l,x∈m) (h:jw l a=true):jw m a=true:=by
 obtain⟨x,f,e⟩:=jO.1 h;exact jO.2 ⟨x,i x f,e⟩
theorem abn (i:jy l=true) (hm:jy m=true) (f:∀x∈l,x∈m) (h:yV m o):yV l (o.filter (jw l)):=by
 constructor
 ·intro a
  rw[dY,h.all];exact⟨λk=>k.2,λk=>⟨MC f k,k⟩⟩
 ·refine List.Pairwise.imp_of_mem ?_ (h.rise.filter _)
  intro a b q j e;unfold ltO at e⊢;rw[SS i hm f a (dY.1 q).2,SS i hm f b (dY.1 j).2];exact e
theorem YC (i:jy l=true) (hm:jy m=true) (f:∀x,x∈l↔x∈m) (h:yV m o):yV l o:=by
 have u:=abn i hm (λx e=>(f x).1 e) h;have q:o.filter (jw l)=o:=by
  rw[List.filter_eq_self];intro a j;exact MC (λx e=>(f x).2 e) ((h.all a).1 j)
 rwa[q] at u
theorem zI (h:o.Pairwise (ltO l)):o.Nodup:=by
 refine h.imp ?_;intro a b f e;subst e;exact Tj l a f
end
theorem BK (p q r:Pth):ltP (p++q) (p++r)=ltP q r:=by
 induction p with
 |nil=>rfl
 |cons x p ih=>obtain⟨s,a⟩:=x;rw[aJ,aJ,ltP,if_pos rfl,if_pos rfl];exact ih
theorem abh {l:List It} (h:jy l=true):∀b,jw l b=true->∀t∈(pth l b).dropLast,∃s c r,pth l b=pth l t.2++(s,c)::r:=by
 refine pE (P:=λl=>jy l=true->∀b,jw l b=true->∀t∈(pth l b).dropLast,∃s c r,pth l b=pth l t.2++(s,c)::r) (λ_ b h=>by simp[jw] at h) (λl x ih h b I t f=>?_) l h;rw[jZ,aC] at h;obtain⟨_,H,_,_⟩:=jG h.2;cases i:jw l b with
 |true=>
  rw[oP i] at f⊢;obtain⟨s,c,r,e⟩:=ih h.1 b i t f;obtain⟨s1,J,j,z⟩:=kN h.1 b i;have q:jw l t.2=true:=by rw[j,dy] at f;exact(z t f).1
  exact⟨s,c,r,by rw[oP q];exact e⟩
 |false=>
  rw[lD,i,dv,decide_eq_true_eq] at I;subst I;rw[qw H,pI] at f⊢;rw[dy] at f;rcases Aq h.2 with e|e
  ·rw[e,kF (kH h.1 0)] at f
   cases f
  ·obtain⟨s1,J,j,z⟩:=kN h.1 _ e
   rw[j] at f;rcases aA.1 f with a|a
   ·have u:t∈(pth l (hgP l x).on).dropLast:=by rw[j,dy];exact a
    obtain⟨s,c,r,K⟩:=ih h.1 _ e t u;exact⟨s,c,r++[((hgP l x).right,iid x)],by rw[oP (z t a).1,K];simp⟩
   ·rw[aN] at a
    subst a;exact⟨_,_,[],by rw[oP e]⟩
theorem XQ {a:Type} {l:List a} {k:Nat} {x:a} (h:l[k]? =some x):l.take (k+1)=l.take k++[x]:=by
 rw[bG,h];rfl
section
def Az (p:List It) (a:List Hg):List It->List Hg
 |[]=>a
 |x::r=>Az (p++[x]) (a++[hgP p x]) r
def lQ (l:List It):List Hg:=Az [] [] l
theorem EB:∀(l p:List It) (a:List Hg) (x:It),Az p a (l++[x])=Az p a l++[hgP (p++l) x]
 |[],p,a,x=>by simp[Az]
 |y::l,p,a,x=>by
  rw[aJ,Az,Az,EB l];simp
variable {a:I2} {l:List It}
theorem Hz (l:List It) (x:It):lQ (l++[x])=lQ l++[hgP l x]:=by
 have:=EB l [] [] x;simpa[lQ] using this
theorem zw (l:List It):(lQ l).length=l.length:=by
 refine pE (P:=λl=>(lQ l).length=l.length) rfl (λl x ih=>?_) l;rw[Hz];simp[ih]
theorem Zx (l:List It):∀{i:Nat} {x:It},l[i]? =some x->(lQ l)[i]? =some (hgP (l.take i) x):=by
 refine pE (P:=λl=>∀{i:Nat} {x:It},l[i]? =some x->(lQ l)[i]? =some (hgP (l.take i) x)) (λh=>by simp at h) (λl y ih=>?_) l;intro i x h;rw[Hz];rcases Nat.lt_or_ge i l.length with hi|hi
 ·rw[bX hi] at h
  rw[bX (by rw[zw];exact hi),List.take_append_of_le_length ω];exact ih h
 ·have e:i=l.length:=by
   have:=(aq.1 h).1;rw[ag] at this;simp at this;omega
  subst e;rw[di (am _),gV] at h;obtain rfl:y=x:=by simpa using h
  rw[di (by rw[zw];exact am _),zw,gV,List.take_left];rfl
theorem Cc (h:jw l a=true):∃i,fnd l a=some i:=by
 cases e:fnd l a with
 |none=>rw[rM.1 e] at h;cases h
 |some i=>exact⟨i,rfl⟩
theorem Ll (h:jy l=true) {i:Nat} (z:fnd l a=some i):∃x,l[i]? =some x/\iid x=a/\(lQ l)[i]? =some (hgP (l.take i) x)/\pth l a=pth l (hgP (l.take i) x).on++[((hgP (l.take i) x).right,a)]/\((hgP (l.take i) x).on=(0,0)\/jw (l.take i) (hgP (l.take i) x).on=true):=by
 obtain⟨x,f,e⟩:=tF z;obtain⟨u,q⟩:=wo h f;refine⟨x,f,e,Zx l f,?_,Aq u⟩;rw[e] at q;rw[q,pI,e]
 congr 1
 rcases Aq u with j|j
 ·rw[j,kF (kH h 0),kF (kH (wU h i) 0)]
 ·rw[Gh h j]
theorem yI {i:Nat} (h:jw (l.take i) a=true):jw l a=true:=MC (λx e=>List.mem_of_mem_take e) h
theorem oJ (h:jy l=true):∀a,(pth l a).length<=l.length:=by
 refine pE (P:=λl=>jy l=true->∀a,(pth l a).length<=l.length) (λ_ a=>by simp[pth,pOf,fnd]) (λl x ih h a=>?_) l h;rw[jZ,aC] at h;obtain⟨_,f,_,_⟩:=jG h.2;have e:=ih h.1;rw[ag,cy];cases i:jw l a with
 |true=>rw[oP i];have:=e a;omega
 |false=>
  by_cases j:iid x=a
  ·subst j
   rw[qw f,pI,ag,cy];have:=e (hgP l x).on;omega
  ·rw[kF (by rw[lD,i];simpa using j)]
   simp
def LU (a:I2):List I2->List I2
 |[]=>[a]
 |b::l=>if ltI a b then a::b::l else b::LU a l
def Ny (l:List I2):List I2:=l.foldr LU []
theorem LQ {a x:I2}:∀{l:List I2},x∈LU a l↔x=a\/x∈l
 |[]=>by simp[LU]
 |b::l=>by
  rw[LU]
  split
  ·simp
  ·rw[aE,LQ (l:=l),aE]
   constructor
   ·rintro(h|h|h)
    ·exact .inr (.inl h)
    ·exact .inl h
    ·exact .inr (.inr h)
   ·rintro(h|h|h)
    ·exact .inr (.inl h)
    ·exact .inl h
    ·exact .inr (.inr h)
theorem KO {x:I2}:∀{l:List I2},x∈Ny l↔x∈l
 |[]=>by simp[Ny]
 |a::l=>by
  show x∈LU a (Ny l)↔_;rw[LQ,KO (l:=l),aE]
theorem OJ {a:I2}:∀{l:List I2},l.Pairwise (λx y=>ltI x y=true)->a∉l->(LU a l).Pairwise (λx y=>ltI x y=true)
 |[],_,_=>by simp[LU]
 |b::l,h,hn=>by
  rw[LU]
  split
  ·rename_i f
   refine bd.2 ⟨λy i=>?_,h⟩;rcases aE.1 i with e|i
   ·subst e;exact f
   ·exact qP f ((bd.1 h).1 y i)
  ·rename_i f
   have j:ltI b a=true:=by
        rcases vY (a:=a) (b:=b) (λe=>hn (by rw[e];exact aH ..)) with h1|h1
        ·exact absurd h1 f
        ·exact h1
   refine bd.2 ⟨λy i=>?_,OJ (bd.1 h).2 (λe=>hn (aF _ e))⟩;rcases LQ.1 i with e|i
   ·subst e;exact j
   ·exact(bd.1 h).1 y i
theorem Nw:∀{l:List I2},l.Nodup->(Ny l).Pairwise (λx y=>ltI x y=true)
 |[],_=>by simp[Ny]
 |a::l,h=>by
  rw[dZ] at h;exact OJ (Nw h.2) (λe=>h.1 (KO.1 e))
def JJ (l:List It) (e:List Hg) (h:Hg):List I2:=((l.zip e).filter λp=>decide (p.2.on=h.on/\p.2.right=h.right)).map λp=>iid p.1
def xB (l:List It) (e:List Hg):Nat->Hg->List I2
 |0,_=>[]
 |n+1,h=>(Ny (JJ l e h)).flatMap λa=>xB l e n ⟨a,false⟩++a::xB l e n ⟨a,true⟩
theorem Y3 (h:jy l=true) {g:Hg} {c:I2} (hg:g.on=(0,0)\/jw l g.on=true):c∈JJ l (lQ l) g↔jw l c=true/\pth l c=pth l g.on++[(g.right,c)]:=by
 have K:∀p:It×Hg,p∈l.zip (lQ l)↔∃i:Nat,l[i]? =some p.1/\(lQ l)[i]? =some p.2:=by
  intro p;rw[List.mem_iff_getElem?];constructor
  ·rintro⟨i,hi⟩
   rw[iG] at hi;exact⟨i,hi⟩
  ·rintro⟨i,hi⟩
   exact⟨i,iG.2 hi⟩
 have Z:∀{i:Nat} {x:It},l[i]? =some x->fnd l (iid x)=some i:=by
  intro i x I;obtain⟨hk,_⟩:=wo h I;obtain⟨_,W,_,_⟩:=jG hk;obtain⟨j,hj⟩:=Cc (jO.2 ⟨x,aD I,rfl⟩);obtain⟨y,hy,e⟩:=tF hj;obtain⟨X,_⟩:=wo h hy;obtain⟨_,a0,_,_⟩:=jG X;rcases Nat.lt_trichotomy i j with f|f|f
  ·exfalso
   have:jw (l.take j) (iid y)=true:=jO.2 ⟨x,aD (i:=i) (by rw[d8,if_pos f];exact I),e.symm⟩;rw[a0] at this;cases this
  ·rw[f];exact hj
  ·exfalso
   have:jw (l.take i) (iid x)=true:=jO.2 ⟨y,aD (i:=j) (by rw[d8,if_pos f];exact hy),e⟩;rw[W] at this;cases this
 unfold JJ;rw[cG];constructor
 ·rintro⟨p,hp,e⟩
  rw[dY,K,decide_eq_true_eq] at hp;obtain⟨⟨i,hi,Y⟩,ho,Q⟩:=hp;have hin:jw l c=true:=jO.2 ⟨p.1,aD hi,e⟩;refine⟨hin,?_⟩;have N:=Z hi;rw[e] at N;obtain⟨x,I,_,hh,u,_⟩:=Ll h N;rw[Y] at hh;injection hh with hh;rw[u,<-hh,ho,Q]
 ·rintro⟨hin,u⟩
  obtain⟨i,N⟩:=Cc hin;obtain⟨x,I,e,hh,a1,U⟩:=Ll h N;refine⟨(x,hgP (l.take i) x),?_,e⟩;rw[dY,K,decide_eq_true_eq];rw[a1] at u;have M:=im u rfl;have Q:(hgP (l.take i) x).right=g.right:=by have:=M.2;simp at this;exact this
  refine⟨⟨i,I,hh⟩,?_,Q⟩;rcases U with O|O
  ·rcases hg with H|H
   ·rw[O,H]
   ·have z:=M.1
    rw[O,kF (kH h 0)] at z;obtain⟨s,q,e4,_⟩:=kN h _ H;rw[e4] at z;simp at z
  ·have J:=yI O
   rcases hg with H|H
   ·have z:=M.1
    rw[H,kF (kH h 0)] at z;obtain⟨s,q,e4,_⟩:=kN h _ J;rw[e4] at z;simp at z
   ·exact Fb h J H M.1
theorem U4 (h:jy l=true):∀a,(pth l a).Pairwise (λx y=>x.2≠y.2):=by
 refine pE (P:=λl=>jy l=true->∀a,(pth l a).Pairwise (λx y=>x.2≠y.2)) (λ_ a=>by simp[pth,pOf,fnd]) (λl x ih h a=>?_) l h;rw[jZ,aC] at h;obtain⟨_,i,_,_⟩:=jG h.2;cases z:jw l a with
 |true=>rw[oP z];exact ih h.1 a
 |false=>
  by_cases H:iid x=a
  ·subst H
   rw[qw i,pI,co];refine⟨ih h.1 _,ι,λt f u q=>?_⟩;rw[aN] at q;subst q;intro e;have hin:jw l t.2=true:=by
        rcases Aq h.2 with j|j
        ·rw[j,kF (kH h.1 0)] at f;cases f
        ·obtain⟨s,p,J,I⟩:=kN h.1 _ j
         rw[J] at f;rcases aA.1 f with f|f
         ·exact(I t f).1
         ·rw[aN] at f;subst f;exact j
   rw[e,i] at hin;cases hin
  ·rw[kF (by rw[lD,z];simpa using H)]
   exact eR
theorem rz (h:jy l=true) (Q:jw l a=true) {P r:Pth} {s:Bool} {c:I2} (e:pth l a=P++(s,c)::r):jw l c=true/\pth l c=P++[(s,c)]:=by
 obtain⟨s1,p1,i,hp⟩:=kN h a Q;rcases List.eq_nil_or_concat r with N|⟨j,z,N⟩
 ·subst N
  rw[i] at e;have hl:=im e rfl;have hc:s1=s/\a=c:=by have:=hl.2;simpa using this
  rw[<-hc.2];refine⟨Q,?_⟩;rw[i,hl.1,hc.1]
 ·subst N
  rw[List.concat_eq_append] at e;have H:(s,c)∈(pth l a).dropLast:=by
   rw[e,show P++(s,c)::(j++[z])=(P++(s,c)::j)++[z] by simp,dy];exact aM _ (aH ..)
  have hin:jw l c=true:=by rw[i,dy] at H;exact(hp _ H).1
  refine⟨hin,?_⟩;obtain⟨s2,c2,r2,I⟩:=abh h a Q _ H;obtain⟨Y,J,e3,O⟩:=kN h c hin;simp only at I;rw[e3] at I;rw[i] at I;have hn:∀t∈p1,t.2≠a:=λt H=>(hp t H).2
  rw[e] at i;have key:∀(x y:Pth) (u v:Pth) (s t:Bool),x++(s,c)::u=y++(t,c)::v->(∀w∈x,w.2≠c)->(∀w∈y,w.2≠c)->x=y/\s=t:=by
   intro x
   induction x with
   |nil=>
    intro y u v s t f _ M;cases y with
    |nil=>simp at f;exact⟨rfl,f.1⟩
    |cons w y=>
     simp at f;exact absurd (by rw[<-f.1]) (M w (aH ..))
   |cons w x ih=>
    intro y u v s t f Z M;cases y with
    |nil=>
     simp at f;exact absurd (by rw[f.1]) (Z w (aH ..))
    |cons w' y=>
     simp at f;obtain⟨W,U⟩:=ih y u v s t f.2 (λz K=>Z z (aF _ K)) (λz K=>M z (aF _ K));exact⟨by rw[f.1,W],U⟩
  have hP:∀w∈P,w.2≠c:=by
   intro w q e4;obtain⟨P1,P2,e5⟩:=List.append_of_mem q;have a0:w=(w.1,c):=by rw[<-e4]
   have a1:w∈(pth l a).dropLast:=by
        rw[e,show P++(s,c)::(j++[z])=(P++(s,c)::j)++[z] by simp,dy];exact aX _ q
   have hd:(pth l a).Pairwise (λx y=>x.2≠y.2):=U4 h a;rw[e] at hd;exact(co.1 hd).2.2 w q (s,c) (aH ..) e4
  have X:∀w∈J,w.2≠c:=λw q=>(O w q).2
  have e6:P++(s,c)::(j++[z])=J++(Y,c)::((s2,c2)::r2):=by rw[i,I];simp
  obtain⟨W,U⟩:=key P J _ _ s Y e6 hP X;rw[e3,W,U]
theorem DK (h:jy l=true):(l.map iid).Nodup:=by
 refine pE (P:=λl=>jy l=true->(l.map iid).Nodup) (λ_=>ι) (λl x ih h=>?_) l h;rw[jZ,aC] at h;obtain⟨_,f,_,_⟩:=jG h.2;rw[List.map_append,List.nodup_append];refine⟨ih h.1,ι,λa u b q e=>?_⟩;have i:b=iid x:=by simpa using q
 obtain⟨y,j,z⟩:=cG.1 u;have:jw l (iid x)=true:=jO.2 ⟨y,j,by rw[z,e,i]⟩;rw[f] at this;cases this
theorem QX (h:jy l=true) (g:Hg):(JJ l (lQ l) g).Nodup:=by
 have e:=DK h;have j:(l.zip (lQ l)).map (λp=>iid p.1)=l.map iid:=by
  have i:(l.zip (lQ l)).map iw=l:=List.map_fst_zip (by rw[zw];exact am _);have f:(l.zip (lQ l)).map (λp=>iid p.1)=((l.zip (lQ l)).map iw).map iid:=by rw[List.map_map];rfl
  rw[f,i]
 rw[<-j] at e;exact(List.filter_sublist.map _).nodup e
theorem su {l:List It} (h:jy l=true):∀(n:Nat) (g:Hg),(g.on=(0,0)\/jw l g.on=true)->
  (∀a,a∈xB l (lQ l) n g↔jw l a=true/\∃c r,pth l a=pth l g.on++(g.right,c)::r/\r.length<n)/\(xB l (lQ l) n g).Pairwise (ltO l)
 |0,g,hg=>by
  refine⟨λa=>?_,eR⟩;constructor
  ·intro j;cases j
  ·rintro⟨_,c,r,_,Q⟩;omega
 |n+1,g,hg=>by
  have X:∀c,c∈Ny (JJ l (lQ l) g)↔jw l c=true/\pth l c=pth l g.on++[(g.right,c)]:=λc=>by rw[KO,Y3 h hg]
  have hin:∀c a,c∈Ny (JJ l (lQ l) g)->a∈(xB l (lQ l) n ⟨c,false⟩++c::xB l (lQ l) n ⟨c,true⟩)->jw l a=true/\∃r,pth l a=pth l g.on++(g.right,c)::r/\r.length<n+1:=by
   intro c a I j;obtain⟨f,i⟩:=(X c).1 I;rcases aA.1 j with j|j
   ·obtain⟨O,q,r,e,Q⟩:=((su h n ⟨c,false⟩ (.inr f)).1 a).1 j
    exact⟨O,(false,q)::r,by rw[e,i];simp,by simp;omega⟩
   ·rcases aE.1 j with e|j
    ·subst e
     exact⟨f,[],i,ι⟩
    ·obtain⟨O,q,r,e,Q⟩:=((su h n ⟨c,true⟩ (.inr f)).1 a).1 j
     exact⟨O,(true,q)::r,by rw[e,i];simp,by simp;omega⟩
  constructor
  ·intro a
   rw[xB,List.mem_flatMap];constructor
   ·rintro⟨c,I,j⟩
    obtain⟨O,r,Z,Y⟩:=hin c a I j;exact⟨O,c,r,Z,Y⟩
   ·rintro⟨j,c,r,e,Q⟩
    obtain⟨f,i⟩:=rz h j e;refine⟨c,(X c).2 ⟨f,i⟩,?_⟩;cases r with
    |nil=>
     have:a=c:=Fb h j f (by rw[e,i]);rw[this];exact aM _ (aH ..)
    |cons z r=>
     obtain⟨t,q⟩:=z;have U:pth l a=pth l c++(t,q)::r:=by rw[e,i];simp
     have K:r.length<n:=by simp at Q;omega
     cases t with
     |false=>exact aX _ (((su h n ⟨c,false⟩ (.inr f)).1 a).2 ⟨j,q,r,U,K⟩)
     |true=>exact aM _ (aF _ (((su h n ⟨c,true⟩ (.inr f)).1 a).2 ⟨j,q,r,U,K⟩))
  ·rw[xB,List.pairwise_flatMap]
   constructor
   ·intro c I
    obtain⟨f,i⟩:=(X c).1 I;have M:∀x∈xB l (lQ l) n ⟨c,false⟩,ltO l x c:=λx J=>by
      obtain⟨_,q,r,e,_⟩:=((su h n ⟨c,false⟩ (.inr f)).1 x).1 J;unfold ltO;rw[e];exact Oz _ _ _
    have N:∀y∈xB l (lQ l) n ⟨c,true⟩,ltO l c y:=λy H=>by
      obtain⟨_,q,r,e,_⟩:=((su h n ⟨c,true⟩ (.inr f)).1 y).1 H;unfold ltO;rw[e];exact JG _ _ _
    rw[co];refine⟨(su h n ⟨c,false⟩ (.inr f)).2,bd.2 ⟨N,(su h n ⟨c,true⟩ (.inr f)).2⟩,λx J y H=>?_⟩;rcases aE.1 H with e|H
    ·subst e;exact M x J
    ·exact vV (M x J) (N y H)
   ·refine(Nw (QX h g)).imp_of_mem λ{c d} I hd hcd x J y H=>?_
    obtain⟨_,u,e1,_⟩:=hin c x I J;obtain⟨_,v,U,_⟩:=hin d y hd H;unfold ltO;rw[e1,U,BK,ltP,if_pos rfl];have W:c≠d:=λe=>by
      subst e;have:=mR hcd;rw[hcd] at this;cases this
    rw[if_neg W];exact hcd
theorem Xw (h:jy l=true) (n:Nat) (hn:l.length<=n):yV l (xB l (lQ l) n ⟨(0,0),true⟩):=by
 obtain⟨h1,Z⟩:=su h n ⟨(0,0),true⟩ (.inl rfl);refine⟨λa=>?_,Z⟩;rw[h1];refine⟨λk=>k.1,λK=>⟨K,?_⟩⟩;rw[kF (kH h 0)];obtain⟨s,p,e,_⟩:=kN h a K;have H:pth l a≠[]:=by rw[e];simp
 cases q:pth l a with
 |nil=>exact absurd q H
 |cons z r=>
  obtain⟨t,c⟩:=z;have f:=oJ h a;rw[q] at f;simp at f;refine⟨c,r,?_,ω⟩;obtain⟨J,I⟩:=rz h K (P:=[]) (by rw[q];rfl);obtain⟨i,hi⟩:=Cc J;obtain⟨x,hx,W,_,j,u⟩:=Ll h hi;rw[I] at j;have X:t=true:=by
   have U:=im j rfl;have M:(hgP (l.take i) x).on=(0,0):=by
        rcases u with N|N
        ·exact N
        ·obtain⟨s2,p2,e2,_⟩:=kN h _ (yI N)
         have Q:=U.1;rw[e2] at Q;simp at Q
   have Y:t=(hgP (l.take i) x).right:=by have:=U.2;simpa using this
   rw[Y];unfold hgP Dk at M⊢
   split
   ·rename_i O
    rw[if_pos O] at M;have:x.rc=0:=congrArg iw M;exact absurd this O.1
   ·rfl
  rw[X];rfl
theorem SV (h:jy l=true) {o:List I2} (e:yV l o):o.length=l.length:=by
 have f:o.Perm (l.map iid):=by
  rw[List.perm_ext_iff_of_nodup (zI e.rise) (DK h)];intro a;rw[e.all,cG];exact jO
 rw[f.length_eq,List.length_map]
end
theorem Tz {l:List It} (h:jy l=true) {i j:Nat} {x y:It} (q:l[i]? =some x) (f:l[j]? =some y) (e:iid x=iid y):i=j:=by
 have hn:=DK h;have a:(l.map iid)[i]? =some (iid x):=by rw[bF,q];rfl
 have u:(l.map iid)[j]? =some (iid x):=by rw[bF,f,e];rfl
 have l1:=(aq.1 a).1;exact(List.getElem?_inj l1 hn).1 (a.trans u.symm)
theorem G7 {m:List It} (h:jy m=true) {x y:It} (q:x∈m) (f:y∈m) (e:iid x=iid y):x=y:=by
 obtain⟨i,hi⟩:=ey q;obtain⟨j,a⟩:=ey f;have:=Tz h hi a e;subst this;rw[hi] at a;exact cO a
theorem aaD {m other:List It} {o e:List I2} (hm:jy m=true) (j:jy other=true) (f:∀x,x∈other↔x∈m) (i:yV m o) (a:yV other e):e=o:=Gu a (YC j hm f i)
theorem LH {f:Type} [DecidableEq f]:∀{a b:List f},a.Nodup->(∀x∈a,x∈b)->a.length<=b.length
 |[],b,_,_=>Nat.zero_le _
 |x::a,b,hn,hs=>by
  rw[dZ] at hn;have j:=hs x (aH ..);have q:a.length<=(b.erase x).length:=LH hn.2 (λy i=>(List.mem_erase_of_ne (a:=y) (b:=x) (λe:y=x=>hn.1 (e▸i))).2 (hs y (aF _ i)));rw[List.length_erase_of_mem j] at q;have:0<b.length:=List.length_pos_of_mem j;rw[List.length_cons];omega
end Go.Proofs.YtncfhbpejchbfaaGreatDoor

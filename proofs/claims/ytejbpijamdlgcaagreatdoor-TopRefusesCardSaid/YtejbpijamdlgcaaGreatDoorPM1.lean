/-
  Lemmas of this seat; no claim.
-/
import Derived.Test.YtejbpijamdlgcaaGreatDoorPMn1
set_option linter.unusedVariables false
set_option linter.unusedSimpArgs false
open Bool renaming and_eq_true→aQ,false_or→fU
open List renaming append_inj'→lX,cons_append→aV,dropLast_concat→fV,getElem?_append_left→dQ,getElem?_append_right→fu,getElem?_eq_some_iff→aF,getElem?_map→bY,getElem?_of_mem→iK,getElem?_take→iA,getElem?_zip_eq_some→mI,length_append→ay,length_singleton→dJ,mem_append_left→dG,mem_append_right→bG,mem_append→aZ,mem_cons_of_mem→aU,mem_cons_self→aW,mem_cons→aS,mem_filter→iG,mem_map→dH,mem_of_getElem?→aP,mem_singleton→cu,pairwise_append→gq,pairwise_cons→bM,take_add_one→cZ,take_append_drop→iE
open List.Pairwise renaming nil→jd
open Nat renaming le_refl→aD,sub_self→lC
open Option.some renaming injEq→bJ,inj→fI
open Prod renaming fst→mg
namespace Go.Proofs.YtejbpijamdlgcaaGreatDoor
section
abbrev I2:=Int×Int
def iid (x:It):I2:=(x.c,x.k)
def ilf (x:It):I2:=(x.lc,x.lk)
def irt (x:It):I2:=(x.rc,x.rk)
def ltI (a b:I2):Bool:=decide (a.1<b.1\/(a.1=b.1/\a.2<b.2))
variable {a b:I2}
theorem wu:ltI a b=true↔(a.1<b.1\/(a.1=b.1/\a.2<b.2)):=by unfold ltI;simp
theorem rP (h:ltI a b=true):ltI b a=false:=by
 rw[wu] at h;cases e:ltI b a with
 |false=>rfl
 |true=>rw[wu] at e;omega
theorem vV {c:I2} (h:ltI a b=true) (k:ltI b c=true):ltI a c=true:=by
 rw[wu] at*;omega
theorem zF (h:a≠b):ltI a b=true\/ltI b a=true:=by
 rw[wu,wu];have:¬(a.1=b.1/\a.2=b.2):=λ⟨f,e⟩=>h (Prod.ext f e)
 omega
abbrev Pth:=List (Bool×I2)
def ltP:Pth->Pth->Bool
 |[],[]=>false
 |[],(s,_)::_=>s
 |(s,_)::_,[]=> !s
 |(s,a)::p,(t,b)::q=>if s=t then(if a=b then ltP p q else ltI a b) else !s
theorem Ae:∀p:Pth,ltP p p=false
 |[]=>rfl
 |(s,a)::p=>by rw[ltP,if_pos rfl,if_pos rfl,Ae p]
theorem zD:∀{p q:Pth},ltP p q=true->ltP q p=false
 |[],[],h=>by cases h
 |[],(s,b)::q,h=>by
  have h:s=true:=h;subst h;rfl
 |(s,a)::p,[],h=>by
  have h:(!s)=true:=h;show s=false;cases s
  ·rfl
  ·cases h
 |(s,a)::p,(t,b)::q,h=>by
  rw[ltP] at h⊢;by_cases f:s=t
  ·subst f
   rw[if_pos rfl] at h⊢;by_cases i:a=b
   ·subst i
    rw[if_pos rfl] at h⊢;exact zD h
   ·rw[if_neg i] at h
    rw[if_neg (λe=>i e.symm)];exact rP h
  ·rw[if_neg f] at h
   rw[if_neg (λe=>f e.symm)];cases s <;> cases t <;> simp_all
theorem zC:∀{p q r:Pth},ltP p q=true->ltP q r=true->ltP p r=true
 |[],[],r,h,k=>by cases h
 |p,[],[],h,k=>by cases k
 |[],(t,b)::q,[],h,k=>by
  have h:t=true:=h;have k:(!t)=true:=k;subst h;cases k
 |[],(t,b)::q,(u,c)::r,h,k=>by
  have h:t=true:=h;subst h;show u=true;rw[ltP] at k;cases u
  ·simp at k
  ·rfl
 |(s,a)::p,[],(u,c)::r,h,k=>by
  have h:(!s)=true:=h;have k:u=true:=k;subst k;cases s
  ·rw[ltP];simp
  ·cases h
 |(s,a)::p,(t,b)::q,[],h,k=>by
  have k:(!t)=true:=k;show(!s)=true;rw[ltP] at h;cases t
  ·cases s
   ·rfl
   ·simp at h
  ·cases k
 |(s,a)::p,(t,b)::q,(u,c)::r,h,k=>by
  rw[ltP] at h k⊢;by_cases M:s=t
  ·subst M
   rw[if_pos rfl] at h;by_cases K:s=u
   ·subst K
    rw[if_pos rfl] at k⊢;by_cases J:a=b
    ·subst J
     rw[if_pos rfl] at h;by_cases f:a=c
     ·subst f
      rw[if_pos rfl] at k⊢;exact zC h k
     ·rw[if_neg f] at k⊢;exact k
    ·rw[if_neg J] at h
     by_cases f:b=c
     ·subst f
      rw[if_neg J];exact h
     ·rw[if_neg f] at k
      have I:=vV h k;have H:a≠c:=λe=>by
        subst e;rw[rP h] at k;cases k
      rw[if_neg H];exact I
   ·rw[if_neg K] at k⊢;exact k
  ·rw[if_neg M] at h
   have z:s=false:=by cases s <;> simp_all
   have j:t=true:=by cases t <;> simp_all
   subst z;subst j;have i:u=true:=by
     cases u
     ·simp at k
     ·rfl
   subst i;simp
theorem MK:∀{p q:Pth},p≠q->ltP p q=true\/ltP q p=true
 |[],[],h=>absurd rfl h
 |[],(s,b)::q,h=>by
  show s=true\/(!s)=true;cases s <;> simp
 |(s,a)::p,[],h=>by
  show(!s)=true\/s=true;cases s <;> simp
 |(s,a)::p,(t,b)::q,h=>by
  rw[ltP,ltP];by_cases i:s=t
  ·subst i
   rw[if_pos rfl,if_pos rfl];by_cases f:a=b
   ·subst f
    rw[if_pos rfl,if_pos rfl];exact MK (λe=>h (by rw[e]))
   ·rw[if_neg f,if_neg (λe=>f e.symm)]
    exact zF f
  ·rw[if_neg i,if_neg (λe=>i e.symm)]
   cases s <;> cases t <;> simp_all
theorem ML (p:Pth) (a:I2) (q:Pth):ltP p (p++(true,a)::q)=true:=by
 induction p with
 |nil=>rfl
 |cons x p ih=>obtain⟨s,b⟩:=x;rw[aV,ltP,if_pos rfl,if_pos rfl];exact ih
theorem QN (p:Pth) (a:I2) (q:Pth):ltP (p++(false,a)::q) p=true:=by
 induction p with
 |nil=>rfl
 |cons x p ih=>obtain⟨s,b⟩:=x;rw[aV,ltP,if_pos rfl,if_pos rfl];exact ih
theorem JM:∀{p q:Pth},ltP p q=true->(∀r,q≠p++r)->∀z,ltP (p++z) q=true
 |[],q,h,hn,z=>absurd rfl (hn q)
 |(s,a)::p,[],h,hn,z=>h
 |(s,a)::p,(t,b)::q,h,hn,z=>by
  rw[aV,ltP];rw[ltP] at h;by_cases f:s=t
  ·subst f
   rw[if_pos rfl] at h⊢;by_cases i:a=b
   ·subst i
    rw[if_pos rfl] at h⊢;exact JM h (λr e=>hn r (by rw[e];rfl)) z
   ·rw[if_neg i] at h⊢;exact h
  ·rw[if_neg f] at h⊢;exact h
theorem DK {q:Type} {lt:q->q->Prop} (f:∀a,¬lt a a) (j:∀a b,lt a b->¬lt b a):∀{l m:List q},l.Pairwise lt->m.Pairwise lt->(∀x,x∈l↔x∈m)->l=m
 |[],[],_,_,_=>rfl
 |[],b::m,_,_,h=>by have:=(h b).2 (aW ..);cases this
 |a::l,[],_,_,h=>by have:=(h a).1 (aW ..);cases this
 |a::l,b::m,h1,h2,h=>by
  rw[bM] at h1 h2;have z:a=b:=by
   rcases aS.1 ((h a).1 (aW ..)) with e|I
   ·exact e
   ·rcases aS.1 ((h b).2 (aW ..)) with e|H
    ·exact e.symm
    ·exact absurd (h1.1 b H) (j _ _ (h2.1 a I))
  subst z
  congr 1
  refine DK f j h1.2 h2.2 λx=>?_
  constructor
  ·intro i
   rcases aS.1 ((h x).1 (aU _ i)) with e|u
   ·subst e;exact absurd (h1.1 _ i) (f _)
   ·exact u
  ·intro i
   rcases aS.1 ((h x).2 (aU _ i)) with e|u
   ·subst e;exact absurd (h2.1 _ i) (f _)
   ·exact u
end
section
structure Hg where
 on:I2
 right:Bool
def fnd:List It->I2->Option Nat
 |[],_=>none
 |x::l,a=>if iid x=a then some 0 else(fnd l a).map (· +1)
def nZ (l:List It) (a:I2):Bool:=l.any λx=>decide (iid x=a)
variable {a:I2} {l m:List It} {o:List I2} {x:It}
theorem oP:nZ l a=true↔∃x∈l,iid x=a:=by
 unfold nZ;rw[List.any_eq_true];simp
theorem wH:fnd l a=none↔nZ l a=false:=by
 induction l with
 |nil=>simp[fnd,nZ]
 |cons x l ih=>
  rw[fnd];unfold nZ at ih⊢;rw[List.any_cons];by_cases h:iid x=a
  ·simp[h]
  ·rw[if_neg h]
   simp only[h,decide_false,fU,Option.map_eq_none_iff];exact ih
theorem xP {i:Nat} (h:fnd l a=some i):∃x,l[i]? =some x/\iid x=a:=by
 induction l generalizing i with
 |nil=>cases h
 |cons x l ih=>
  rw[fnd] at h;by_cases e:iid x=a
  ·rw[if_pos e] at h
   injection h with h;subst h;exact⟨x,rfl,e⟩
  ·rw[if_neg e] at h
   cases f:fnd l a with
   |none=>rw[f] at h;cases h
   |some j=>
    rw[f] at h;simp only[Option.map_some,bJ] at h;subst h;obtain⟨y,u,q⟩:=ih f;exact⟨y,by simpa using u,q⟩
theorem RH (l:List It) (x:It) (a:I2):fnd (l++[x]) a=match fnd l a with
  |some i=>some i
  |none=>if iid x=a then some l.length else none:=by
 induction l with
 |nil=>simp[fnd]
 |cons y l ih=>
  rw[aV,fnd,fnd,ih];by_cases h:iid y=a
  ·rw[if_pos h,if_pos h]
  ·rw[if_neg h,if_neg h]
   cases fnd l a with
   |some i=>rfl
   |none=>
    simp only[Option.map_none]
    split <;> simp
def pQ (p:List It) (x:It):Bool:=decide (x.c≠0)&& !nZ p (iid x)&&(decide (x.lc=0)||nZ p (ilf x))&&(decide (x.rc=0)||nZ p (irt x))
def DZ (p:List It):List It->Bool
 |[]=>true
 |x::r=>pQ p x&&DZ (p++[x]) r
def og (l:List It):Bool:=DZ [] l
theorem Hf:∀(l p:List It) (x:It),DZ p (l++[x])=(DZ p l&&pQ (p++l) x)
 |[],p,x=>by simp[DZ]
 |y::l,p,x=>by
  rw[aV,DZ,DZ,Hf l (p++[y]) x,Bool.and_assoc];simp
theorem pJ (l:List It) (x:It):og (l++[x])=(og l&&pQ l x):=by
 have:=Hf l [] x;simpa[og] using this
theorem MO:∀(r m:List It),og (m++r)=true->og m=true
 |[],m,h=>by simpa using h
 |y::r,m,h=>by
  have f:og ((m++[y])++r)=true:=by simpa using h
  have e:=MO r (m++[y]) f;rw[pJ,aQ] at e;exact e.1
theorem Ag (h:og l=true) (n:Nat):og (l.take n)=true:=MO (l.drop n) (l.take n) (by rw[iE];exact h)
theorem uH {i:Type} {P:List i->Prop} (u:P []) (q:∀l x,P l->P (l++[x])) (l:List i):P l:=by
 have h:∀n (l:List i),l.length=n->P l:=by
  intro n
  induction n with
  |zero=>intro l f;rw[List.length_eq_zero_iff.1 f];exact u
  |succ n ih=>
   intro l f;have j:l≠[]:=λe=>by rw[e] at f;simp at f
   rw[<-List.dropLast_concat_getLast j];exact q _ _ (ih _ (by rw[List.length_dropLast];omega))
 exact h _ l rfl
def pOf (l:List It) (e:List Pth) (a:I2):Pth:=match fnd l a with
 |none=>[]
 |some i=>(e[i]?).getD []
def uO (l:List It) (e:List Pth) (a b:I2):Bool:=decide (b.1=0)||((pOf l e a).dropLast.any λs=>decide (s.2=b))
def FY (l:List It) (e:List Pth) (x:It):Hg:=
 if x.rc≠0/\uO l e (irt x) (ilf x)=true then⟨irt x,false⟩ else⟨if x.lc=0 then(0,0) else ilf x,true⟩
def newP (l:List It) (e:List Pth) (x:It):Pth:=pOf l e (FY l e x).on++[((FY l e x).right,iid x)]
def Bz (p:List It) (e:List Pth):List It->List Pth
 |[]=>e
 |x::r=>Bz (p++[x]) (e++[newP p e x]) r
def paths (l:List It):List Pth:=Bz [] [] l
def pth (l:List It) (a:I2):Pth:=pOf l (paths l) a
theorem G8:∀(l p:List It) (e:List Pth) (x:It),Bz p e (l++[x])=Bz p e l++[newP (p++l) (Bz p e l) x]
 |[],p,e,x=>by simp[Bz]
 |y::l,p,e,x=>by
  rw[aV,Bz,Bz,G8 l];simp
theorem DT (l:List It) (x:It):paths (l++[x])=paths l++[newP l (paths l) x]:=by
 have:=G8 l [] [] x;simpa[paths] using this
theorem FZ (l:List It):(paths l).length=l.length:=by
 refine uH (P:=λl=>(paths l).length=l.length) rfl (λl x ih=>?_) l;rw[DT];simp[ih]
theorem uz (h:nZ l a=true):pth (l++[x]) a=pth l a:=by
 unfold pth pOf;rw[RH,DT];cases e:fnd l a with
 |none=>rw[wH.1 e] at h;cases h
 |some i=>
  obtain⟨y,f,_⟩:=xP e;have hi:=(aF.1 f).1;simp only;rw[dQ (by rw[FZ];exact hi)]
theorem vB (h:nZ l (iid x)=false):pth (l++[x]) (iid x)=newP l (paths l) x:=by
 unfold pth pOf;rw[RH,DT,wH.2 h];simp only[if_pos];rw[fu (by rw[FZ];exact aD _),FZ,lC];rfl
theorem pU (h:nZ l a=false):pth l a=[]:=by
 unfold pth pOf;rw[wH.2 h]
theorem qH:nZ (l++[x]) a=(nZ l a||decide (iid x=a)):=by
 unfold nZ;rw[List.any_append];simp
def hgP (l:List It) (x:It):Hg:=FY l (paths l) x
theorem uK (l:List It) (x:It):newP l (paths l) x=pth l (hgP l x).on++[((hgP l x).right,iid x)]:=rfl
theorem oD (h:pQ l x=true):x.c≠0/\nZ l (iid x)=false/\(x.lc=0\/nZ l (ilf x)=true)/\(x.rc=0\/nZ l (irt x)=true):=by
 unfold pQ at h;simpa[aQ,and_assoc] using h
theorem OD (h:og l=true):∀x∈l,x.c≠0:=by
 refine uH (P:=λl=>og l=true->∀x∈l,x.c≠0) ι (λl x ih h=>?_) l h;rw[pJ,aQ] at h;intro y e;rcases aZ.1 e with e|e
 ·exact ih h.1 y e
 ·rw[cu] at e
  subst e;exact(oD h.2).1
theorem pW (h:og l=true) (k:Int):nZ l (0,k)=false:=by
 cases hh:nZ l (0,k) with
 |false=>rfl
 |true=>
  obtain⟨x,f,e⟩:=oP.1 hh;have:=OD h x f;unfold iid at e;injection e with e1 e2;exact absurd e1 this
theorem D7 (h:pQ l x=true):(hgP l x).on=(0,0)\/nZ l (hgP l x).on=true:=by
 obtain⟨_,_,f,e⟩:=oD h;unfold hgP FY
 split
 ·rename_i j
  rcases e with e|e
  ·exact absurd e j.1
  ·exact .inr e
 ·simp only
  split
  ·exact .inl rfl
  ·rename_i i
   rcases f with f|f
   ·exact absurd f i
   ·exact .inr f
theorem qo (h:og l=true):∀a,nZ l a=true->∃s p,pth l a=p++[(s,a)]/\(∀t∈p,nZ l t.2=true/\t.2≠a):=by
 refine uH (P:=λl=>og l=true->∀a,nZ l a=true->∃s p,pth l a=p++[(s,a)]/\(∀t∈p,nZ l t.2=true/\t.2≠a)) (λ_ a h=>by simp[nZ] at h) (λl x ih h a z=>?_) l h;rw[pJ,aQ] at h;obtain⟨_,i,_,_⟩:=oD h.2;cases q:nZ l a with
 |true=>
  obtain⟨s,p,u,j⟩:=ih h.1 a q;refine⟨s,p,by rw[uz q];exact u,λt f=>?_⟩;rw[qH,(j t f).1];exact⟨rfl,(j t f).2⟩
 |false=>
  rw[qH,q,fU,decide_eq_true_eq] at z;subst z;refine⟨_,_,by rw[vB i,uK],λt f=>?_⟩;have hin:nZ l t.2=true:=by
   rcases D7 h.2 with e|e
   ·rw[e,pU (pW h.1 0)] at f
    cases f
   ·obtain⟨s,p,u,j⟩:=ih h.1 _ e
    rw[u] at f;rcases aZ.1 f with f|f
    ·exact(j t f).1
    ·rw[cu] at f
     subst f;exact e
  refine⟨by rw[qH,hin];rfl,λe=>?_⟩;rw[e,i] at hin;cases hin
theorem Iu (h:og l=true) {b:I2} (i:nZ l a=true) (f:nZ l b=true) (e:pth l a=pth l b):a=b:=by
 obtain⟨s,p,u,_⟩:=qo h a i;obtain⟨t,q,j,_⟩:=qo h b f;rw[u,j] at e;have:=congrArg (λz=>z.getLast?) e;simp at this;exact this.2
theorem Jl {n:Nat} (h:og l=true) (i:nZ (l.take n) a=true):pth l a=pth (l.take n) a:=by
 have e:∀(r m:List It),nZ m a=true->pth (m++r) a=pth m a:=by
  intro r
  induction r with
  |nil=>intro m _;rw[List.append_nil]
  |cons y r ih=>
   intro m f;have j:m++y::r=(m++[y])++r:=ι
   rw[j,ih (m++[y]) (by rw[qH,f];rfl),uz f]
 have:=e (l.drop n) (l.take n) i;rwa[iE] at this
theorem zI (h:og l=true) {i:Nat} (f:l[i]? =some x):pQ (l.take i) x=true/\pth l (iid x)=newP (l.take i) (paths (l.take i)) x:=by
 have j:=Ag h (i+1);rw[cZ,f] at j;have e:og (l.take i++[x])=true:=j;rw[pJ,aQ] at e;refine⟨e.2,?_⟩;have hh:nZ (l.take (i+1)) (iid x)=true:=by rw[cZ,f];show nZ (l.take i++[x]) _=true;rw[qH];simp
 rw[Jl h hh,cZ,f];exact vB (oD e.2).2.1
theorem Vo (q:og l=true) (M:og m=true) (I:∀x∈l,x∈m):∀a,nZ l a=true->pth l a=pth m a:=by
 refine uH (P:=λl=>og l=true->(∀x∈l,x∈m)->∀a,nZ l a=true->pth l a=pth m a) (λ_ _ a h=>by simp[nZ] at h) (λl x ih q I a Z=>?_) l q I;rw[pJ,aQ] at q;have z:=ih q.1 (λy hy=>I y (dG _ hy));obtain⟨_,K,a0,J⟩:=oD q.2;cases j:nZ l a with
 |true=>rw[uz j];exact z a j
 |false=>
  rw[qH,j,fU,decide_eq_true_eq] at Z;subst Z;obtain⟨i,hi⟩:=iK (I x (bG _ (cu.2 rfl)));obtain⟨Y,hp⟩:=zI M hi;obtain⟨_,_,a1,X⟩:=oD Y;rw[vB K,hp,uK,uK];have H:∀b,(nZ l b=true)->(nZ (m.take i) b=true)->pth l b=pth (m.take i) b:=λb U Q=>by rw[z b U,Jl M Q]
  have f:∀k,pth l (0,k)=pth (m.take i) (0,k):=λk=>by rw[pU (pW q.1 k),pU (pW (Ag M i) k)]
  have O:(x.rc≠0->uO l (paths l) (irt x) (ilf x)=uO (m.take i) (paths (m.take i)) (irt x) (ilf x)):=λu=>by
   have U:=J.resolve_left u;have Q:=X.resolve_left u;have:=H (irt x) U Q;unfold pth at this;unfold uO;rw[this]
  have N:hgP l x=hgP (m.take i) x:=by
   unfold hgP FY;by_cases u:x.rc≠0
   ·rw[O u]
   ·rw[if_neg (show¬(x.rc≠0/\uO l (paths l) (irt x) (ilf x)=true) from λh=>u h.1),if_neg (show¬(x.rc≠0/\uO (m.take i) (paths (m.take i)) (irt x) (ilf x)=true) from λh=>u h.1)]
  rw[N]
  congr 1
  rcases D7 q.2 with e|e
  ·rw[N] at e;rw[e];exact f 0
  ·rcases D7 Y with W|W
   ·rw[W];exact f 0
   ·rw[N] at e;exact H _ e W
def ltO (l:List It) (a b:I2):Prop:=ltP (pth l a) (pth l b)=true
structure CJ (l:List It) (o:List I2):Prop where
 all:∀a,a∈o↔nZ l a=true
 rise:o.Pairwise (ltO l)
theorem VH (l:List It) (a:I2):¬ltO l a a:=λh=>by unfold ltO at h;rw[Ae] at h;cases h
theorem ac8 (l:List It) (a b:I2) (h:ltO l a b):¬ltO l b a:=λk=>by
 unfold ltO at h k;rw[zD h] at k;cases k
theorem Jv {e:List I2} (h:CJ l o) (f:CJ l e):o=e:=
 DK (VH l) (ac8 l) h.rise f.rise (λa=>by rw[h.all,f.all])
theorem OX (i:∀x∈l,x∈m) (h:nZ l a=true):nZ m a=true:=by
 obtain⟨x,f,e⟩:=oP.1 h;exact oP.2 ⟨x,i x f,e⟩
theorem ac3 (j:og l=true) (i:og m=true) (f:∀x∈l,x∈m) (h:CJ m o):CJ l (o.filter (nZ l)):=by
 constructor
 ·intro a
  rw[iG,h.all];exact⟨λk=>k.2,λk=>⟨OX f k,k⟩⟩
 ·refine List.Pairwise.imp_of_mem ?_ (h.rise.filter _)
  intro a b u q e;unfold ltO at e⊢;rw[Vo j i f a (iG.1 u).2,Vo j i f b (iG.1 q).2];exact e
theorem ZY (j:og l=true) (i:og m=true) (f:∀x,x∈l↔x∈m) (h:CJ m o):CJ l o:=by
 have z:=ac3 j i (λx e=>(f x).1 e) h;have u:o.filter (nZ l)=o:=by
  rw[List.filter_eq_self];intro a q;exact OX (λx e=>(f x).2 e) ((h.all a).1 q)
 rwa[u] at z
theorem Dw (h:o.Pairwise (ltO l)):o.Nodup:=by
 refine h.imp ?_;intro a b f e;subst e;exact VH l a f
end
theorem EI (p q r:Pth):ltP (p++q) (p++r)=ltP q r:=by
 induction p with
 |nil=>rfl
 |cons x p ih=>obtain⟨s,a⟩:=x;rw[aV,aV,ltP,if_pos rfl,if_pos rfl];exact ih
theorem acY {l:List It} (h:og l=true):∀b,nZ l b=true->∀t∈(pth l b).dropLast,∃s c r,pth l b=pth l t.2++(s,c)::r:=by
 refine uH (P:=λl=>og l=true->∀b,nZ l b=true->∀t∈(pth l b).dropLast,∃s c r,pth l b=pth l t.2++(s,c)::r) (λ_ b h=>by simp[nZ] at h) (λl x ih h b I t f=>?_) l h;rw[pJ,aQ] at h;obtain⟨_,H,_,_⟩:=oD h.2;cases i:nZ l b with
 |true=>
  rw[uz i] at f⊢;obtain⟨s,c,r,e⟩:=ih h.1 b i t f;obtain⟨s1,J,j,z⟩:=qo h.1 b i;have q:nZ l t.2=true:=by rw[j,fV] at f;exact(z t f).1
  exact⟨s,c,r,by rw[uz q];exact e⟩
 |false=>
  rw[qH,i,fU,decide_eq_true_eq] at I;subst I;rw[vB H,uK] at f⊢;rw[fV] at f;rcases D7 h.2 with e|e
  ·rw[e,pU (pW h.1 0)] at f
   cases f
  ·obtain⟨s1,J,j,z⟩:=qo h.1 _ e
   rw[j] at f;rcases aZ.1 f with a|a
   ·have u:t∈(pth l (hgP l x).on).dropLast:=by rw[j,fV];exact a
    obtain⟨s,c,r,K⟩:=ih h.1 _ e t u;exact⟨s,c,r++[((hgP l x).right,iid x)],by rw[uz (z t a).1,K];simp⟩
   ·rw[cu] at a
    subst a;exact⟨_,_,[],by rw[uz e]⟩
theorem Zk {a:Type} {l:List a} {k:Nat} {x:a} (h:l[k]? =some x):l.take (k+1)=l.take k++[x]:=by
 rw[cZ,h];rfl
section
def D8 (p:List It) (a:List Hg):List It->List Hg
 |[]=>a
 |x::r=>D8 (p++[x]) (a++[hgP p x]) r
def qN (l:List It):List Hg:=D8 [] [] l
theorem Ht:∀(l p:List It) (a:List Hg) (x:It),D8 p a (l++[x])=D8 p a l++[hgP (p++l) x]
 |[],p,a,x=>by simp[D8]
 |y::l,p,a,x=>by
  rw[aV,D8,D8,Ht l];simp
variable {a:I2} {l:List It}
theorem J8 (l:List It) (x:It):qN (l++[x])=qN l++[hgP l x]:=by
 have:=Ht l [] [] x;simpa[qN] using this
theorem Dc (l:List It):(qN l).length=l.length:=by
 refine uH (P:=λl=>(qN l).length=l.length) rfl (λl x ih=>?_) l;rw[J8];simp[ih]
theorem aa3 (l:List It):∀{i:Nat} {x:It},l[i]? =some x->(qN l)[i]? =some (hgP (l.take i) x):=by
 refine uH (P:=λl=>∀{i:Nat} {x:It},l[i]? =some x->(qN l)[i]? =some (hgP (l.take i) x)) (λh=>by simp at h) (λl y ih=>?_) l;intro i x h;rw[J8];rcases Nat.lt_or_ge i l.length with hi|hi
 ·rw[dQ hi] at h
  rw[dQ (by rw[Dc];exact hi),List.take_append_of_le_length ω];exact ih h
 ·have e:i=l.length:=by
   have:=(aF.1 h).1;rw[ay] at this;simp at this;omega
  subst e;rw[fu (aD _),lC] at h;obtain rfl:y=x:=by simpa using h
  rw[fu (by rw[Dc];exact aD _),Dc,lC,List.take_left];rfl
theorem EY (h:nZ l a=true):∃i,fnd l a=some i:=by
 cases e:fnd l a with
 |none=>rw[wH.1 e] at h;cases h
 |some i=>exact⟨i,rfl⟩
theorem Om (h:og l=true) {i:Nat} (z:fnd l a=some i):∃x,l[i]? =some x/\iid x=a/\(qN l)[i]? =some (hgP (l.take i) x)/\pth l a=pth l (hgP (l.take i) x).on++[((hgP (l.take i) x).right,a)]/\((hgP (l.take i) x).on=(0,0)\/nZ (l.take i) (hgP (l.take i) x).on=true):=by
 obtain⟨x,f,e⟩:=xP z;obtain⟨u,q⟩:=zI h f;refine⟨x,f,e,aa3 l f,?_,D7 u⟩;rw[e] at q;rw[q,uK,e]
 congr 1
 rcases D7 u with j|j
 ·rw[j,pU (pW h 0),pU (pW (Ag h i) 0)]
 ·rw[Jl h j]
theorem BS {i:Nat} (h:nZ (l.take i) a=true):nZ l a=true:=OX (λx e=>List.mem_of_mem_take e) h
theorem uj (h:og l=true):∀a,(pth l a).length<=l.length:=by
 refine uH (P:=λl=>og l=true->∀a,(pth l a).length<=l.length) (λ_ a=>by simp[pth,pOf,fnd]) (λl x ih h a=>?_) l h;rw[pJ,aQ] at h;obtain⟨_,f,_,_⟩:=oD h.2;have e:=ih h.1;rw[ay,dJ];cases i:nZ l a with
 |true=>rw[uz i];have:=e a;omega
 |false=>
  by_cases j:iid x=a
  ·subst j
   rw[vB f,uK,ay,dJ];have:=e (hgP l x).on;omega
  ·rw[pU (by rw[qH,i];simpa using j)]
   simp
def OH (a:I2):List I2->List I2
 |[]=>[a]
 |b::l=>if ltI a b then a::b::l else b::OH a l
def P8 (l:List I2):List I2:=l.foldr OH []
theorem OG {a x:I2}:∀{l:List I2},x∈OH a l↔x=a\/x∈l
 |[]=>by simp[OH]
 |b::l=>by
  rw[OH]
  split
  ·simp
  ·rw[aS,OG (l:=l),aS]
   constructor
   ·rintro(h|h|h)
    ·exact .inr (.inl h)
    ·exact .inl h
    ·exact .inr (.inr h)
   ·rintro(h|h|h)
    ·exact .inr (.inl h)
    ·exact .inl h
    ·exact .inr (.inr h)
theorem NV {x:I2}:∀{l:List I2},x∈P8 l↔x∈l
 |[]=>by simp[P8]
 |a::l=>by
  show x∈OH a (P8 l)↔_;rw[OG,NV (l:=l),aS]
theorem QX {a:I2}:∀{l:List I2},l.Pairwise (λx y=>ltI x y=true)->a∉l->(OH a l).Pairwise (λx y=>ltI x y=true)
 |[],_,_=>by simp[OH]
 |b::l,h,hn=>by
  rw[OH]
  split
  ·rename_i f
   refine bM.2 ⟨λy i=>?_,h⟩;rcases aS.1 i with e|i
   ·subst e;exact f
   ·exact vV f ((bM.1 h).1 y i)
  ·rename_i f
   have j:ltI b a=true:=by
        rcases zF (a:=a) (b:=b) (λe=>hn (by rw[e];exact aW ..)) with h1|h1
        ·exact absurd h1 f
        ·exact h1
   refine bM.2 ⟨λy i=>?_,QX (bM.1 h).2 (λe=>hn (aU _ e))⟩;rcases OG.1 i with e|i
   ·subst e;exact j
   ·exact(bM.1 h).1 y i
theorem P7:∀{l:List I2},l.Nodup->(P8 l).Pairwise (λx y=>ltI x y=true)
 |[],_=>by simp[P8]
 |a::l,h=>by
  rw[List.nodup_cons] at h;exact QX (P7 h.2) (λe=>h.1 (NV.1 e))
def MP (l:List It) (e:List Hg) (h:Hg):List I2:=((l.zip e).filter λp=>decide (p.2.on=h.on/\p.2.right=h.right)).map λp=>iid p.1
def AO (l:List It) (e:List Hg):Nat->Hg->List I2
 |0,_=>[]
 |n+1,h=>(P8 (MP l e h)).flatMap λa=>AO l e n ⟨a,false⟩++a::AO l e n ⟨a,true⟩
theorem aav (h:og l=true) {g:Hg} {c:I2} (hg:g.on=(0,0)\/nZ l g.on=true):c∈MP l (qN l) g↔nZ l c=true/\pth l c=pth l g.on++[(g.right,c)]:=by
 have K:∀p:It×Hg,p∈l.zip (qN l)↔∃i:Nat,l[i]? =some p.1/\(qN l)[i]? =some p.2:=by
  intro p;rw[List.mem_iff_getElem?];constructor
  ·rintro⟨i,hi⟩
   rw[mI] at hi;exact⟨i,hi⟩
  ·rintro⟨i,hi⟩
   exact⟨i,mI.2 hi⟩
 have Z:∀{i:Nat} {x:It},l[i]? =some x->fnd l (iid x)=some i:=by
  intro i x I;obtain⟨hk,_⟩:=zI h I;obtain⟨_,W,_,_⟩:=oD hk;obtain⟨j,hj⟩:=EY (oP.2 ⟨x,aP I,rfl⟩);obtain⟨y,hy,e⟩:=xP hj;obtain⟨X,_⟩:=zI h hy;obtain⟨_,a1,_,_⟩:=oD X;rcases Nat.lt_trichotomy i j with f|f|f
  ·exfalso
   have:nZ (l.take j) (iid y)=true:=oP.2 ⟨x,aP (i:=i) (by rw[iA,if_pos f];exact I),e.symm⟩;rw[a1] at this;cases this
  ·rw[f];exact hj
  ·exfalso
   have:nZ (l.take i) (iid x)=true:=oP.2 ⟨y,aP (i:=j) (by rw[iA,if_pos f];exact hy),e⟩;rw[W] at this;cases this
 unfold MP;rw[dH];constructor
 ·rintro⟨p,hp,e⟩
  rw[iG,K,decide_eq_true_eq] at hp;obtain⟨⟨i,hi,Y⟩,ho,Q⟩:=hp;have hin:nZ l c=true:=oP.2 ⟨p.1,aP hi,e⟩;refine⟨hin,?_⟩;have N:=Z hi;rw[e] at N;obtain⟨x,I,_,hh,u,_⟩:=Om h N;rw[Y] at hh;injection hh with hh;rw[u,<-hh,ho,Q]
 ·rintro⟨hin,u⟩
  obtain⟨i,N⟩:=EY hin;obtain⟨x,I,e,hh,a0,U⟩:=Om h N;refine⟨(x,hgP (l.take i) x),?_,e⟩;rw[iG,K,decide_eq_true_eq];rw[a0] at u;have M:=lX u rfl;have Q:(hgP (l.take i) x).right=g.right:=by have:=M.2;simp at this;exact this
  refine⟨⟨i,I,hh⟩,?_,Q⟩;rcases U with O|O
  ·rcases hg with H|H
   ·rw[O,H]
   ·have z:=M.1
    rw[O,pU (pW h 0)] at z;obtain⟨s,q,e4,_⟩:=qo h _ H;rw[e4] at z;simp at z
  ·have J:=BS O
   rcases hg with H|H
   ·have z:=M.1
    rw[H,pU (pW h 0)] at z;obtain⟨s,q,e4,_⟩:=qo h _ J;rw[e4] at z;simp at z
   ·exact Iu h J H M.1
theorem Xk (h:og l=true):∀a,(pth l a).Pairwise (λx y=>x.2≠y.2):=by
 refine uH (P:=λl=>og l=true->∀a,(pth l a).Pairwise (λx y=>x.2≠y.2)) (λ_ a=>by simp[pth,pOf,fnd]) (λl x ih h a=>?_) l h;rw[pJ,aQ] at h;obtain⟨_,i,_,_⟩:=oD h.2;cases z:nZ l a with
 |true=>rw[uz z];exact ih h.1 a
 |false=>
  by_cases H:iid x=a
  ·subst H
   rw[vB i,uK,gq];refine⟨ih h.1 _,ι,λt f u q=>?_⟩;rw[cu] at q;subst q;intro e;have hin:nZ l t.2=true:=by
        rcases D7 h.2 with j|j
        ·rw[j,pU (pW h.1 0)] at f;cases f
        ·obtain⟨s,p,J,I⟩:=qo h.1 _ j
         rw[J] at f;rcases aZ.1 f with f|f
         ·exact(I t f).1
         ·rw[cu] at f;subst f;exact j
   rw[e,i] at hin;cases hin
  ·rw[pU (by rw[qH,z];simpa using H)]
   exact jd
theorem wC (h:og l=true) (Q:nZ l a=true) {P r:Pth} {s:Bool} {c:I2} (e:pth l a=P++(s,c)::r):nZ l c=true/\pth l c=P++[(s,c)]:=by
 obtain⟨s1,p1,i,hp⟩:=qo h a Q;rcases List.eq_nil_or_concat r with N|⟨j,z,N⟩
 ·subst N
  rw[i] at e;have hl:=lX e rfl;have hc:s1=s/\a=c:=by have:=hl.2;simpa using this
  rw[<-hc.2];refine⟨Q,?_⟩;rw[i,hl.1,hc.1]
 ·subst N
  rw[List.concat_eq_append] at e;have H:(s,c)∈(pth l a).dropLast:=by
   rw[e,show P++(s,c)::(j++[z])=(P++(s,c)::j)++[z] by simp,fV];exact bG _ (aW ..)
  have hin:nZ l c=true:=by rw[i,fV] at H;exact(hp _ H).1
  refine⟨hin,?_⟩;obtain⟨s2,c2,r2,I⟩:=acY h a Q _ H;obtain⟨Y,J,e3,O⟩:=qo h c hin;simp only at I;rw[e3] at I;rw[i] at I;have hn:∀t∈p1,t.2≠a:=λt H=>(hp t H).2
  rw[e] at i;have key:∀(x y:Pth) (u v:Pth) (s t:Bool),x++(s,c)::u=y++(t,c)::v->(∀w∈x,w.2≠c)->(∀w∈y,w.2≠c)->x=y/\s=t:=by
   intro x
   induction x with
   |nil=>
    intro y u v s t f _ M;cases y with
    |nil=>simp at f;exact⟨rfl,f.1⟩
    |cons w y=>
     simp at f;exact absurd (by rw[<-f.1]) (M w (aW ..))
   |cons w x ih=>
    intro y u v s t f Z M;cases y with
    |nil=>
     simp at f;exact absurd (by rw[f.1]) (Z w (aW ..))
    |cons w' y=>
     simp at f;obtain⟨W,U⟩:=ih y u v s t f.2 (λz K=>Z z (aU _ K)) (λz K=>M z (aU _ K));exact⟨by rw[f.1,W],U⟩
  have hP:∀w∈P,w.2≠c:=by
   intro w q e4;obtain⟨P1,P2,e5⟩:=List.append_of_mem q;have a0:w=(w.1,c):=by rw[<-e4]
   have a1:w∈(pth l a).dropLast:=by
        rw[e,show P++(s,c)::(j++[z])=(P++(s,c)::j)++[z] by simp,fV];exact dG _ q
   have hd:(pth l a).Pairwise (λx y=>x.2≠y.2):=Xk h a;rw[e] at hd;exact(gq.1 hd).2.2 w q (s,c) (aW ..) e4
  have X:∀w∈J,w.2≠c:=λw q=>(O w q).2
  have e6:P++(s,c)::(j++[z])=J++(Y,c)::((s2,c2)::r2):=by rw[i,I];simp
  obtain⟨W,U⟩:=key P J _ _ s Y e6 hP X;rw[e3,W,U]
theorem Gp (h:og l=true):(l.map iid).Nodup:=by
 refine uH (P:=λl=>og l=true->(l.map iid).Nodup) (λ_=>ι) (λl x ih h=>?_) l h;rw[pJ,aQ] at h;obtain⟨_,f,_,_⟩:=oD h.2;rw[List.map_append,List.nodup_append];refine⟨ih h.1,ι,λa u b q e=>?_⟩;have i:b=iid x:=by simpa using q
 obtain⟨y,j,z⟩:=dH.1 u;have:nZ l (iid x)=true:=oP.2 ⟨y,j,by rw[z,e,i]⟩;rw[f] at this;cases this
theorem TV (h:og l=true) (g:Hg):(MP l (qN l) g).Nodup:=by
 have e:=Gp h;have j:(l.zip (qN l)).map (λp=>iid p.1)=l.map iid:=by
  have i:(l.zip (qN l)).map mg=l:=List.map_fst_zip (by rw[Dc];exact aD _);have f:(l.zip (qN l)).map (λp=>iid p.1)=((l.zip (qN l)).map mg).map iid:=by rw[List.map_map];rfl
  rw[f,i]
 rw[<-j] at e;exact(List.filter_sublist.map _).nodup e
theorem wY {l:List It} (h:og l=true):∀(n:Nat) (g:Hg),(g.on=(0,0)\/nZ l g.on=true)->
  (∀a,a∈AO l (qN l) n g↔nZ l a=true/\∃c r,pth l a=pth l g.on++(g.right,c)::r/\r.length<n)/\(AO l (qN l) n g).Pairwise (ltO l)
 |0,g,hg=>by
  refine⟨λa=>?_,jd⟩;constructor
  ·intro j;cases j
  ·rintro⟨_,c,r,_,Q⟩;omega
 |n+1,g,hg=>by
  have X:∀c,c∈P8 (MP l (qN l) g)↔nZ l c=true/\pth l c=pth l g.on++[(g.right,c)]:=λc=>by rw[NV,aav h hg]
  have hin:∀c a,c∈P8 (MP l (qN l) g)->a∈(AO l (qN l) n ⟨c,false⟩++c::AO l (qN l) n ⟨c,true⟩)->nZ l a=true/\∃r,pth l a=pth l g.on++(g.right,c)::r/\r.length<n+1:=by
   intro c a I j;obtain⟨f,i⟩:=(X c).1 I;rcases aZ.1 j with j|j
   ·obtain⟨O,q,r,e,Q⟩:=((wY h n ⟨c,false⟩ (.inr f)).1 a).1 j
    exact⟨O,(false,q)::r,by rw[e,i];simp,by simp;omega⟩
   ·rcases aS.1 j with e|j
    ·subst e
     exact⟨f,[],i,ι⟩
    ·obtain⟨O,q,r,e,Q⟩:=((wY h n ⟨c,true⟩ (.inr f)).1 a).1 j
     exact⟨O,(true,q)::r,by rw[e,i];simp,by simp;omega⟩
  constructor
  ·intro a
   rw[AO,List.mem_flatMap];constructor
   ·rintro⟨c,I,j⟩
    obtain⟨O,r,Z,Y⟩:=hin c a I j;exact⟨O,c,r,Z,Y⟩
   ·rintro⟨j,c,r,e,Q⟩
    obtain⟨f,i⟩:=wC h j e;refine⟨c,(X c).2 ⟨f,i⟩,?_⟩;cases r with
    |nil=>
     have:a=c:=Iu h j f (by rw[e,i]);rw[this];exact bG _ (aW ..)
    |cons z r=>
     obtain⟨t,q⟩:=z;have U:pth l a=pth l c++(t,q)::r:=by rw[e,i];simp
     have K:r.length<n:=by simp at Q;omega
     cases t with
     |false=>exact dG _ (((wY h n ⟨c,false⟩ (.inr f)).1 a).2 ⟨j,q,r,U,K⟩)
     |true=>exact bG _ (aU _ (((wY h n ⟨c,true⟩ (.inr f)).1 a).2 ⟨j,q,r,U,K⟩))
  ·rw[AO,List.pairwise_flatMap]
   constructor
   ·intro c I
    obtain⟨f,i⟩:=(X c).1 I;have M:∀x∈AO l (qN l) n ⟨c,false⟩,ltO l x c:=λx J=>by
      obtain⟨_,q,r,e,_⟩:=((wY h n ⟨c,false⟩ (.inr f)).1 x).1 J;unfold ltO;rw[e];exact QN _ _ _
    have N:∀y∈AO l (qN l) n ⟨c,true⟩,ltO l c y:=λy H=>by
      obtain⟨_,q,r,e,_⟩:=((wY h n ⟨c,true⟩ (.inr f)).1 y).1 H;unfold ltO;rw[e];exact ML _ _ _
    rw[gq];refine⟨(wY h n ⟨c,false⟩ (.inr f)).2,bM.2 ⟨N,(wY h n ⟨c,true⟩ (.inr f)).2⟩,λx J y H=>?_⟩;rcases aS.1 H with e|H
    ·subst e;exact M x J
    ·exact zC (M x J) (N y H)
   ·refine(P7 (TV h g)).imp_of_mem λ{c d} I hd hcd x J y H=>?_
    obtain⟨_,u,e1,_⟩:=hin c x I J;obtain⟨_,v,U,_⟩:=hin d y hd H;unfold ltO;rw[e1,U,EI,ltP,if_pos rfl];have W:c≠d:=λe=>by
      subst e;have:=rP hcd;rw[hcd] at this;cases this
    rw[if_neg W];exact hcd
theorem Y3 (h:og l=true) (n:Nat) (hn:l.length<=n):CJ l (AO l (qN l) n ⟨(0,0),true⟩):=by
 obtain⟨h1,Z⟩:=wY h n ⟨(0,0),true⟩ (.inl rfl);refine⟨λa=>?_,Z⟩;rw[h1];refine⟨λk=>k.1,λK=>⟨K,?_⟩⟩;rw[pU (pW h 0)];obtain⟨s,p,e,_⟩:=qo h a K;have H:pth l a≠[]:=by rw[e];simp
 cases q:pth l a with
 |nil=>exact absurd q H
 |cons z r=>
  obtain⟨t,c⟩:=z;have f:=uj h a;rw[q] at f;simp at f;refine⟨c,r,?_,ω⟩;obtain⟨J,I⟩:=wC h K (P:=[]) (by rw[q];rfl);obtain⟨i,hi⟩:=EY J;obtain⟨x,hx,W,_,j,u⟩:=Om h hi;rw[I] at j;have X:t=true:=by
   have U:=lX j rfl;have M:(hgP (l.take i) x).on=(0,0):=by
        rcases u with N|N
        ·exact N
        ·obtain⟨s2,p2,e2,_⟩:=qo h _ (BS N)
         have Q:=U.1;rw[e2] at Q;simp at Q
   have Y:t=(hgP (l.take i) x).right:=by have:=U.2;simpa using this
   rw[Y];unfold hgP FY at M⊢
   split
   ·rename_i O
    rw[if_pos O] at M;have:x.rc=0:=congrArg mg M;exact absurd this O.1
   ·rfl
  rw[X];rfl
theorem Vr (h:og l=true) {o:List I2} (e:CJ l o):o.length=l.length:=by
 have f:o.Perm (l.map iid):=by
  rw[List.perm_ext_iff_of_nodup (Dw e.rise) (Gp h)];intro a;rw[e.all,dH];exact oP
 rw[f.length_eq,List.length_map]
end
theorem VP {l:List It} (h:og l=true) {i j:Nat} {x y:It} (q:l[i]? =some x) (f:l[j]? =some y) (e:iid x=iid y):i=j:=by
 have u:=Gp h;have a:(l.map iid)[i]? =some (iid x):=by rw[bY,q];rfl
 have z:(l.map iid)[j]? =some (iid x):=by rw[bY,f,e];rfl
 have l1:=(aF.1 a).1;exact(List.getElem?_inj l1 u).1 (a.trans z.symm)
theorem JU {m:List It} (h:og m=true) {x y:It} (q:x∈m) (f:y∈m) (e:iid x=iid y):x=y:=by
 obtain⟨i,hi⟩:=iK q;obtain⟨j,a⟩:=iK f;have:=VP h hi a e;subst this;rw[hi] at a;exact fI a
theorem acf {m other:List It} {o e:List I2} (j:og m=true) (q:og other=true) (f:∀x,x∈other↔x∈m) (i:CJ m o) (a:CJ other e):e=o:=Jv a (ZY q j f i)
end Go.Proofs.YtejbpijamdlgcaaGreatDoor

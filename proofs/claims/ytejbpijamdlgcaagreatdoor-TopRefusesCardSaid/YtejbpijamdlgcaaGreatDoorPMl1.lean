/-
  Lemmas of this seat; no claim.
-/
import Derived.Test.YtejbpijamdlgcaaGreatDoorPM1
import Derived.Test.YtejbpijamdlgcaaGreatDoorPMx1
set_option linter.unusedVariables false
set_option linter.unusedSimpArgs false
open Bool renaming and_eq_true→aQ,eq_iff_iff→gu,or_false→jR
open List renaming append_assoc→aY,append_nil→bZ,getElem?_append_left→dQ,getElem?_append_right→fu,getElem?_eq_getElem→aO,getElem?_eq_none→eF,getElem?_eq_some_iff→aF,getElem?_of_mem→iK,length_append→ay,length_singleton→dJ,map_congr_left→dR,map_cons→bU,mem_append_left→dG,mem_append_right→bG,mem_append→aZ,mem_cons_self→aW,mem_cons→aS,mem_map→dH,mem_of_getElem?→aP,mem_singleton→cu,pairwise_append→gq,take_append_drop→iE,take_append→mX
open Nat renaming eq_or_lt_of_le→kU,le_refl→aD,lt_or_ge→dD,sub_self→lC
open Option.some renaming injEq→bJ
open Prod renaming ext→jQ
namespace Go.Proofs.YtejbpijamdlgcaaGreatDoor
section
def qL (l:List It):List I2:=AO l (qN l) l.length ⟨(0,0),true⟩
variable {a:I2} {l:List It}
theorem sU (h:og l=true):CJ l (qL l):=Y3 h _ (aD _)
def rR (g:List I2) (a:I2):Bool:=g.any λb=>decide (b=a)
theorem uT {g:List I2} :rR g a=true↔a∈g:=by unfold rR;simp
def chI (l:List It) (a:I2):Int:=match fnd l a with
 |some i=>(l[i]?.map It.ch).getD 0
 |none=>0
theorem ab2 {i:Nat} {x:It} (h:fnd l a=some i) (e:l[i]? =some x):chI l a=x.ch:=by
 unfold chI;rw[h];simp only[e];rfl
theorem EX (h:nZ l a=true):∃i x,fnd l a=some i/\l[i]? =some x/\iid x=a:=by
 cases f:fnd l a with
 |none=>rw[wH.1 f] at h;cases h
 |some i=>
  obtain⟨x,j,e⟩:=xP f;exact⟨i,x,rfl,j,e⟩
theorem Fg (q:og l=true) {x:It} (j:x∈l):chI l (iid x)=x.ch:=by
 obtain⟨i,y,u,f,e⟩:=EX (oP.2 ⟨x,j,rfl⟩);rw[ab2 u f,JU q (aP f) j e]
def xu (l:List It) (g:List I2) (a:I2):En:=⟨a.1,a.2,chI l a,rR g a⟩
def oQ (l:List It) (g:List I2):List En:=(qL l).map (xu l g)
theorem KD (h:og l=true) (g:List I2):(oQ l g).length=l.length:=by
 unfold oQ;rw[List.length_map];exact Vr h (sU h)
theorem abp {m:List It} {g q:List I2} (z:og l=true) (e:og m=true) (i:∀x,x∈l↔x∈m) (H:∀a,nZ l a=true->rR g a=rR q a):oQ l g=oQ m q:=by
 unfold oQ;rw[show qL l=qL m from acf e z i (sU e) (sU z)];refine dR λa I=>?_
 have j:=((sU e).all a).1 I;obtain⟨x,f,rfl⟩:=oP.1 j;have u:nZ l (iid x)=true:=oP.2 ⟨x,(i x).2 f,rfl⟩;unfold xu;rw[Fg z ((i x).2 f),Fg e f,H _ u]
theorem xk (h:og l=true) (g:List I2) (c k:Int):ET (oQ l g) c k=nZ l (c,k):=by
 rw[gu,ES,<-(sU h).all];unfold oQ qY;constructor
 ·rintro⟨x,i,e⟩
  obtain⟨a,f,rfl⟩:=dH.1 i;obtain⟨q,j⟩:=of_decide_eq_true e;have:a=(c,k):=jQ q j;exact this▸f
 ·intro f
  exact⟨_,List.mem_map_of_mem f,decide_eq_true ⟨rfl,rfl⟩⟩
theorem Nz:∀(o:List I2) (f:I2->En),(∀a,(f a).c=a.1/\(f a).k=a.2)->o.Nodup->apart (o.map f)=true
 |[],f,hf,h=>rfl
 |a::o,f,hf,h=>by
  rw[List.nodup_cons] at h;rw[bU,apart,Nz o f hf h.2,Bool.and_true,Bool.not_eq_true',Gv];intro x e;obtain⟨b,i,rfl⟩:=dH.1 e;unfold qY;rw[decide_eq_false_iff_not,(hf a).1,(hf a).2,(hf b).1,(hf b).2];rintro⟨q,j⟩;have:b=a:=jQ q j;exact h.1 (this▸i)
theorem Yr (h:og l=true) (g:List I2):apart (oQ l g)=true:=
 Nz _ _ (λa=>⟨rfl,rfl⟩) (Dw (sU h).rise)
end
section
structure Nd where
 id:I2
 on:Nat
 right:Bool
 depth:Nat
 far:Nat
def nd0:Nd:=⟨(0,0),0,false,0,0⟩
def uW (l:List It) (a:I2):Nat:=match fnd l a with
 |none=>0
 |some i=>i+1
def sw (l:List It) (n:Nat):Pth:=if n=0 then [] else((l[n-1]?).map λx=>pth l (iid x)).getD []
variable {i n:Nat} {l:List It} {ns:List Nd} {x:It}
theorem CX (l:List It):sw l 0=[]:=rfl
theorem CY (h:l[i]? =some x):sw l (i+1)=pth l (iid x):=by
 unfold sw;rw[if_neg ω,Nat.add_sub_cancel,h];rfl
theorem Vx {a:I2} (h:fnd l a=some i):uW l a=i+1:=by unfold uW;rw[h]
theorem EF (l:List It) (a:I2):uW l a<=l.length:=by
 unfold uW;cases h:fnd l a with
 |none=>exact Nat.zero_le _
 |some i=>
  obtain⟨x,e,_⟩:=xP h;rcases dD i l.length with g|g
  ·exact g
  ·rw[eF g] at e;cases e
theorem Bw (h:og l=true) (a:I2):sw l (uW l a)=pth l a:=by
 cases f:fnd l a with
 |none=>
  have:uW l a=0:=by unfold uW;rw[f]
  rw[this,CX,pU (wH.1 f)]
 |some i=>
  obtain⟨x,j,e⟩:=xP f;rw[Vx f,CY j,e]
theorem qC {a:Type} {l:List a} {x:a} (h:l[i]? =some x):i<l.length:=by
 rcases dD i l.length with g|g
 ·exact g
 ·rw[eF g] at h;cases h
theorem zX (h:og l=true) (e:n<=l.length):(sw l n).length<=l.length:=by
 cases n with
 |zero=>simp[CX]
 |succ i=>
  obtain⟨y,a⟩:∃y,l[i]? =some y:=⟨l[i],aO ω⟩;rw[CY a];exact uj h _
theorem vS (j:og (l++[x])=true) (f:n<=l.length):sw (l++[x]) n=sw l n:=by
 cases n with
 |zero=>rfl
 |succ i=>
  obtain⟨y,e⟩:∃y,l[i]? =some y:=⟨l[i],aO ω⟩;have a:(l++[x])[i]? =some y:=by rw[dQ ω];exact e
  rw[CY e,CY a,uz (oP.2 ⟨y,aP e,rfl⟩)]
theorem Jm (e:og (l++[x])=true):sw (l++[x]) (l.length+1)=sw l (uW l (hgP l x).on)++[((hgP l x).right,iid x)]:=by
 have a:=e;rw[pJ,aQ] at a;rw[CY (by simp:(l++[x])[l.length]? =some x),vB (oD a.2).2.1,uK,Bw a.1]
structure GrN (l:List It) (ns:List Nd):Prop where
 len:ns.length=l.length+1
 root:ns[0]? =some nd0
 ids:∀i x,l[i]? =some x->∃nd,ns[i+1]? =some nd/\nd.id=iid x
 deep:∀n nd,ns[n]? =some nd->nd.depth=(sw l n).length/\nd.on<=l.length/\nd.far<=l.length/\∃q,sw l n=sw l nd.far++q/\(0<n->q≠[])
 up:∀n nd,ns[n]? =some nd->0<n->sw l n=sw l nd.on++[(nd.right,nd.id)]
theorem GrN.get (h:GrN l ns) (a:n<=l.length):∃nd,ns[n]? =some nd:=⟨ns[n]'(by rw[h.len];omega),aO (by rw[h.len];omega)⟩
theorem GrN.nil:GrN [] [nd0] where
 len:=rfl
 root:=rfl
 ids i x h:=by simp at h
 deep n nd h:=by
  cases n with
  |zero=>simp at h;subst h;exact⟨rfl,aD _,aD _,[],rfl,λh=>absurd h ω⟩
  |succ n=>simp at h
 up n nd h h0:=by
  cases n with
  |zero=>omega
  |succ n=>simp at h
theorem GrN.snoc (h:GrN l ns) (j:og (l++[x])=true) {f:Nat} {q:Pth} (W:f<=l.length) (Q:sw l (uW l (hgP l x).on)=sw l f++q) {nd:Nd} (U:ns[uW l (hgP l x).on]? =some nd):
  GrN (l++[x]) (ns++[⟨iid x,uW l (hgP l x).on,(hgP l x).right,nd.depth+1,f⟩]) where
 len:=by simp[h.len]
 root:=by rw[dQ (by rw[h.len];omega)];exact h.root
 ids i y hy:=by
  rcases dD i l.length with g|g
  ·rw[dQ g] at hy
   obtain⟨z,a,e⟩:=h.ids i y hy;exact⟨z,by rw[dQ (by rw[h.len];omega)];exact a,e⟩
  ·rw[fu g] at hy
   have hi:i-l.length=0:=by
       rcases Nat.eq_zero_or_pos (i-l.length) with e|e
       ·exact e
       ·rw[eF (by simp;omega)] at hy;cases hy
   have I:i=l.length:=ω
   subst I;simp at hy;subst hy;exact⟨_,by rw[fu (by rw[h.len];omega),h.len,lC];rfl,rfl⟩
 deep n z a:=by
  rcases dD n ns.length with g|g
  ·rw[dQ g] at a
   have u:n<=l.length:=by rw[h.len] at g;omega
   obtain⟨H,O,N,J,M,K⟩:=h.deep n z a;refine⟨by rw[vS j u];exact H,by simp;omega,by simp;omega,J,?_,K⟩;rw[vS j u,vS j N];exact M
  ·have hi:n=l.length+1:=by
        have:=qC a;simp[h.len] at this;rw[h.len] at g;omega
   subst hi;rw[fu (by rw[h.len];omega),h.len,lC] at a;simp at a;subst a;obtain⟨H,_⟩:=h.deep _ _ U;refine⟨?_,by have:=EF l (hgP l x).on;simp;omega,by simp;omega,q++[((hgP l x).right,iid x)],?_,λ_=>ι⟩
   ·rw[Jm j,ay]
    show nd.depth+1=_;rw[H];rfl
   ·rw[Jm j,vS j W,Q,aY]
 up n z a h0:=by
  rcases dD n ns.length with g|g
  ·rw[dQ g] at a
   have u:n<=l.length:=by rw[h.len] at g;omega
   obtain⟨H,O,N,J,M,K⟩:=h.deep n z a;rw[vS j u,vS j O];exact h.up n z a h0
  ·have hi:n=l.length+1:=by
        have:=qC a;simp[h.len] at this;rw[h.len] at g;omega
   subst hi;rw[fu (by rw[h.len];omega),h.len,lC] at a;simp at a;subst a;have:=EF l (hgP l x).on;rw[Jm j,vS j this]
def Uw (ns:List Nd) (on:Nat):Nat:=
 let far:=(ns.getD on nd0).far
 let a:=(ns.getD far nd0).far
 if((ns.getD on nd0).depth:Int)-(ns.getD far nd0).depth=((ns.getD far nd0).depth:Int)-(ns.getD a nd0).depth then a else on
theorem EU {nd:Nd} (h:ns[n]? =some nd):ns.getD n nd0=nd:=by rw[List.getD_eq_getElem?_getD,h];rfl
theorem GrN.adM (h:GrN l ns) {on:Nat} (e:on<=l.length):Uw ns on<=l.length/\∃q,sw l on=sw l (Uw ns on)++q:=by
 obtain⟨a,j⟩:=h.get e;obtain⟨_,_,K,z,J,_⟩:=h.deep _ _ j;obtain⟨b,f⟩:=h.get K;obtain⟨_,_,I,u,H,_⟩:=h.deep _ _ f;unfold Uw;simp only[EU j,EU f]
 split
 ·exact⟨I,u++z,by rw[J,H,aY]⟩
 ·exact⟨e,[],ι⟩
theorem Ci (h:og l=true) {a b:I2} (K:nZ l a=true) (H:nZ l b=true):
  uO l (paths l) a b=(decide ((pth l b).length<(pth l a).length)&&decide ((pth l a).take (pth l b).length=pth l b)):=by
 have z:b.1≠0:=λe=>by
  have:=pW h b.2;rw[show((0:Int),b.2)=b from by rw[<-e]] at this;rw[this] at H;cases H
 obtain⟨I,J,N,_⟩:=qo h b H;obtain⟨Q,q,j,_⟩:=qo h a K;have W:(pth l a).dropLast=q:=by rw[j];simp
 unfold uO;rw[decide_eq_false z,Bool.false_or];show(pth l a).dropLast.any _=_;rw[W,gu];simp only[List.any_eq_true,decide_eq_true_eq,aQ];constructor
 ·rintro⟨⟨s,c⟩,U,rfl⟩
  obtain⟨u,v,e⟩:=List.append_of_mem U;have O:pth l a=u++(s,c)::(v++[(Q,a)]):=by rw[j,e];simp
  obtain⟨_,X⟩:=wC h K O;rw[X,O];refine⟨ι,?_⟩;rw[ay,dJ,mX,List.take_of_length_le ω,show u.length+1-u.length=1 by omega];rfl
 ·rintro⟨M,f⟩
  refine⟨(I,b),?_,rfl⟩;rw[j,N] at f;rw[j,N] at M;simp only[ay,dJ] at M f;rw[mX,show J.length+1-q.length=0 by omega,List.take_zero,bZ] at f;have:(I,b)∈q.take (J.length+1):=by rw[f];simp
  exact List.mem_of_mem_take this
end
section
theorem JN:∀{p q:Pth},ltP q p=true->(∀r,q≠p++r)->∀z,ltP q (p++z)=true
 |[],q,h,hn,z=>absurd rfl (hn q)
 |(s,a)::p,[],h,hn,z=>h
 |(s,a)::p,(t,b)::q,h,hn,z=>by
  rw[List.cons_append,ltP];rw[ltP] at h;by_cases f:t=s
  ·subst f
   rw[if_pos rfl] at h⊢;by_cases i:b=a
   ·subst i
    rw[if_pos rfl] at h⊢;exact JN h (λr e=>hn r (by rw[e];rfl)) z
   ·rw[if_neg i] at h⊢;exact h
  ·rw[if_neg f] at h⊢;exact h
def su (l:List It) (a b:I2):Option I2:=
 if(pth l b).length<(pth l a).length/\(pth l a).take (pth l b).length=pth l b then((pth l a)[(pth l b).length]?).map (·.2) else none
variable {a b:I2} {j q:Nat} {l:List It} {x:It}
theorem Gq {s:Bool} {c:I2} {r:Pth} (e:pth l a=pth l b++(s,c)::r):su l a b=some c:=by
 unfold su;rw[if_pos ⟨by rw[e];simp,by rw[e];simp⟩,e];simp
theorem Gs (h:∀s c r,pth l a≠pth l b++(s,c)::r):su l a b=none:=by
 unfold su;rw[if_neg];rintro⟨u,i⟩;obtain⟨x,r,e⟩:∃x r,(pth l a).drop (pth l b).length=x::r:=by
  cases f:(pth l a).drop (pth l b).length with
  |nil=>rw[List.drop_eq_nil_iff] at f;omega
  |cons x r=>exact⟨x,r,rfl⟩
 refine h x.1 x.2 r ?_;have:=iE (pth l b).length (pth l a);rw[i,e] at this;exact this.symm
theorem IB (l:List It) (a b:I2):(∃s c r,pth l a=pth l b++(s,c)::r/\su l a b=some c)\/((∀s c r,pth l a≠pth l b++(s,c)::r)/\su l a b=none):=by
 by_cases h:∃s c r,pth l a=pth l b++(s,c)::r
 ·obtain⟨s,c,r,e⟩:=h
  exact .inl ⟨s,c,r,e,Gq e⟩
 ·have f:∀s c r,pth l a≠pth l b++(s,c)::r:=λs c r e=>h ⟨s,c,r,e⟩
  exact .inr ⟨f,Gs f⟩
theorem Ta (h:og l=true) (W:nZ l a=true) {s:Bool} {c:I2} {r:Pth} (e:pth l a=(s,c)::r):s=true:=by
 obtain⟨U,X⟩:=wC h W (P:=[]) e;obtain⟨i,Q⟩:=EY U;obtain⟨x,N,M,_,u,H⟩:=Om h Q;rw[X] at u;have K:pth l (hgP (l.take i) x).on=[]/\(hgP (l.take i) x).right=s:=by
  rcases I:pth l (hgP (l.take i) x).on with _|⟨y,t⟩
  ·rw[I] at u;simp at u;exact⟨rfl,u.symm⟩
  ·rw[I] at u;simp at u
 rw[<-K.2];have f:(hgP (l.take i) x).on=(0,0):=by
  rcases H with f|f
  ·exact f
  ·obtain⟨s1,Y,J,_⟩:=qo h _ (BS f)
   rw[K.1] at J;simp at J
 obtain⟨O,_⟩:=zI h N;unfold hgP FY at f⊢
 split
 ·rename_i z
  rw[if_pos z] at f;have:x.rc=0:=congrArg Prod.fst f;exact absurd this z.1
 ·rfl
def xL (l:List It) (x:It):Pth:=pth l (hgP l x).on++[((hgP l x).right,iid x)]
theorem Td (h:og l=true) (J:pQ l x=true) (M:(hgP l x).right=true) (z:nZ l a=true) (u:(hgP l x).on=(0,0)\/ltP (pth l (hgP l x).on) (pth l a)=true):
  (match su l a (hgP l x).on with|none=>true|some c=>ltI (iid x) c)=ltP (xL l x) (pth l a):=by
 unfold xL;rw[M];have i:=(oD J).2.1;obtain⟨O,Q,I,_⟩:=qo h a z;have f:ltP (pth l (hgP l x).on) (pth l a)=true:=by
  rcases u with u|u
  ·rw[u,pU (pW h 0)]
   rcases H:pth l a with _|⟨⟨s,c⟩,r⟩
   ·rw[H] at I;simp at I
   ·show s=true
    exact Ta h z H
  ·exact u
 rcases IB l a (hgP l x).on with⟨s,c,r,e,eh⟩|⟨hn,eh⟩
 ·rw[eh]
  show ltI (iid x) c=_;rw[e] at f⊢;have K:s=true:=by
   have:=EI (pth l (hgP l x).on) [] ((s,c)::r);rw[bZ] at this;rw[this] at f;exact f
  subst K;rw[EI,ltP,if_pos rfl];have N:nZ l c=true:=(wC h z e).1;rw[if_neg (λe=>by rw[e,N] at i;cases i)]
 ·rw[eh]
  show true=_;refine(JM f (λr e=>?_) _).symm;rcases r with _|⟨⟨s,c⟩,r⟩
  ·rw[bZ] at e
   rw[e,Ae] at f;cases f
  ·exact hn s c r e
theorem XE (h:og l=true) (u:pQ l x=true) (H:(hgP l x).right=false) (J:nZ l a=true) (f:ltP (pth l a) (pth l (hgP l x).on)=true):
  (match su l a (hgP l x).on with|none=>false|some c=>ltI (iid x) c)=ltP (xL l x) (pth l a):=by
 unfold xL;rw[H];have i:=(oD u).2.1;rcases IB l a (hgP l x).on with⟨s,c,r,e,eh⟩|⟨hn,eh⟩
 ·rw[eh]
  show ltI (iid x) c=_;rw[e] at f⊢;have z:s=false:=by
   have:=EI (pth l (hgP l x).on) ((s,c)::r) [];rw[bZ] at this;rw[this] at f;have f:(!s)=true:=f;cases s
   ·rfl
   ·cases f
  subst z;rw[EI,ltP,if_pos rfl];have I:nZ l c=true:=(wC h J e).1;rw[if_neg (λe=>by rw[e,I] at i;cases i)]
 ·rw[eh]
  show false=_;refine(zD (JN f (λr e=>?_) _)).symm;rcases r with _|⟨⟨s,c⟩,r⟩
  ·rw[bZ] at e
   rw[e,Ae] at f;cases f
  ·exact hn s c r e
def AU (l:List It) (x:It) (p:Nat):Prop:=p<=(qL l).length/\∀j a,(qL l)[j]? =some a->(ltP (xL l x) (pth l a)=true↔p<=j)
theorem tT (h:og l=true) (e:(qL l)[j]? =some a):nZ l a=true:=((sU h).all a).1 (aP e)
theorem BD (h:og l=true) {i:Nat} (u:(qL l)[i]? =some a) (f:(qL l)[j]? =some b) (e:i<j):ltP (pth l a) (pth l b)=true:=by
 obtain⟨H,J⟩:=aF.1 u;obtain⟨z,I⟩:=aF.1 f;have:=List.pairwise_iff_getElem.1 (sU h).rise i j H z e;rw[J,I] at this;exact this
theorem L6 (h:og l=true) (x:It) {i:Nat} (H:(qL l)[i]? =some a) (f:(qL l)[j]? =some b) (u:i<=j) (z:ltP (xL l x) (pth l a)=true):ltP (xL l x) (pth l b)=true:=by
 rcases kU u with e|e
 ·subst e
  rw[H] at f;injection f with f;subst f;exact z
 ·exact zC z (BD h H f e)
theorem Xl (h:og (l++[x])=true) {p:Nat} (hp:AU l x p):qL (l++[x])=(qL l).take p++iid x::(qL l).drop p:=by
 have X:=h;rw[pJ,aQ] at X;obtain⟨M,Y⟩:=X;have K:=(oD Y).2.1;obtain⟨Z,J⟩:=hp;refine(Jv (sU h) ⟨λa=>?_,?_⟩)
 ·rw[qH,Bool.or_eq_true,<-(sU M).all,decide_eq_true_eq]
  constructor
  ·intro f
   rcases aZ.1 f with f|f
   ·exact .inl (List.mem_of_mem_take f)
   ·rcases aS.1 f with e|f
    ·exact .inr e.symm
    ·exact .inl (List.mem_of_mem_drop f)
  ·rintro(f|e)
   ·rw[<-iE p (qL l)] at f
    rcases aZ.1 f with f|f
    ·exact dG _ f
    ·exact bG _ (List.mem_cons_of_mem _ f)
   ·rw[e]
    exact bG _ (aW ..)
 ·have z:pth (l++[x]) (iid x)=xL l x:=by rw[vB K,uK];rfl
  have i:∀a,a∈qL l->pth (l++[x]) a=pth l a:=λa f=>uz (((sU M).all a).1 f)
  have H:(qL l).Pairwise (ltO (l++[x])):=by
   refine List.Pairwise.imp_of_mem ?_ (sU M).rise;intro a b f N O;unfold ltO at O⊢;rw[i a f,i b N];exact O
  have hA:∀a∈(qL l).take p,ltO (l++[x]) a (iid x):=by
   intro a f;obtain⟨j,u⟩:=iK f;have U:j<p:=by
        have:=qC u;rw[List.length_take] at this;omega
   rw[List.getElem?_take_of_lt U] at u;unfold ltO;rw[z,i a (aP u)];have hf:ltP (xL l x) (pth l a)≠true:=λe=>by have:=(J j a u).1 e;omega
   have Q:pth l a≠xL l x:=λe=>by
        have W:=tT M u;obtain⟨s,q,e2,_⟩:=qo M a W;rw[e2] at e;unfold xL at e;have:=(List.append_inj' e rfl).2;simp at this;rw[this.2,K] at W;cases W
   rcases MK Q with e|e
   ·exact e
   ·exact absurd e hf
  have hB:∀a∈(qL l).drop p,ltO (l++[x]) (iid x) a:=by
   intro a f;obtain⟨j,u⟩:=iK f;rw[List.getElem?_drop] at u;unfold ltO;rw[z,i a (aP u)];exact(J _ a u).2 ω
  have I:=gq.1 (by rw[iE];exact H:((qL l).take p++(qL l).drop p).Pairwise (ltO (l++[x])));refine gq.2 ⟨I.1,List.pairwise_cons.2 ⟨hB,I.2.1⟩,?_⟩;intro a f b N;rcases aS.1 N with e|N
  ·subst e;exact hA a f
  ·exact I.2.2 a f b N
theorem adR (h:og (l++[x])=true) {p:Nat} (O:AU l x p) {g:List I2} (Q:∀a∈g,nZ l a=true) (gone:Bool):
  DR (oQ l g) p ⟨x.c,x.k,x.ch,gone⟩=oQ (l++[x]) (if gone then g++[(x.c,x.k)] else g):=by
 have M:=h;rw[pJ,aQ] at M;obtain⟨K,N⟩:=M;have i:=(oD N).2.1;unfold oQ DR;rw[Xl h O,List.map_append,bU,List.map_take,List.map_drop,aY];have f:∀a,nZ l a=true->xu (l++[x]) (if gone then g++[(x.c,x.k)] else g) a=xu l g a:=by
  intro a z;obtain⟨y,J,rfl⟩:=oP.1 z;unfold xu;rw[Fg h (dG _ J),Fg K J];have:rR (if gone then g++[(x.c,x.k)] else g) (iid y)=rR g (iid y):=by
   cases gone
   ·rfl
   ·show rR (g++[(x.c,x.k)]) (iid y)=_
    have H:¬(iid x=iid y):=λe=>by rw[<-e,i] at z;cases z
    have u:¬((x.c,x.k)=iid y):=H;unfold rR;rw[List.any_append,List.any_cons,List.any_nil,decide_eq_false u,jR,jR]
  rw[this]
 have W:(List.map (xu (l++[x]) (if gone then g++[(x.c,x.k)] else g)) (qL l))=List.map (xu l g) (qL l):=
  dR λa z=>f a (((sU K).all a).1 z)
 have U:xu (l++[x]) (if gone then g++[(x.c,x.k)] else g) (iid x)=⟨x.c,x.k,x.ch,gone⟩:=by
  unfold xu;rw[Fg h (bG _ (cu.2 rfl))];have:rR (if gone then g++[(x.c,x.k)] else g) (iid x)=gone:=by
   cases gone
   ·show rR g (iid x)=false
    cases I:rR g (iid x) with
    |false=>rfl
    |true=>have:=Q _ (uT.1 I);rw[i] at this;cases this
   ·exact uT.2 (bG _ (cu.2 rfl))
  rw[this];rfl
 rw[W,U];rfl
theorem abq (l:List It) (g:List I2) (c k:Int):Hr (oQ l g) c k=oQ l (g++[(c,k)]):=by
 unfold Hr oQ;rw[List.map_map];refine dR λa z=>?_
 show(if qY (xu l g a) c k then{ xu l g a with g:=true } else xu l g a)=xu l (g++[(c,k)]) a;by_cases e:a=(c,k)
 ·subst e
  rw[if_pos (by unfold qY xu;simp)];unfold xu;have:rR (g++[(c,k)]) (c,k)=true:=uT.2 ι;rw[this]
 ·rw[if_neg (by
   unfold qY xu;rw[decide_eq_true_eq];rintro⟨u,i⟩;exact e (jQ u i))]
  unfold xu;have f:¬((c,k)=a):=λh=>e h.symm
  have:rR (g++[(c,k)]) a=rR g a:=by
   unfold rR;rw[List.any_append,List.any_cons,List.any_nil,decide_eq_false f,jR,jR]
  rw[this]
theorem RN (g:List I2) {c k:Int} (h:pI (oQ l g) c k=some q):(qL l)[q]? =some (c,k):=by
 have i:∀(o:List I2) (q:Nat),pI (o.map (xu l g)) c k=some q->o[q]? =some (c,k):=by
  intro o
  induction o with
  |nil=>intro q h;cases h
  |cons a o ih=>
   intro q h;rw[bU,pI] at h;by_cases e:qY (xu l g a) c k=true
   ·rw[if_pos e] at h
    injection h with h;subst h;unfold qY xu at e;obtain⟨z,u⟩:=of_decide_eq_true e;show some a=_;rw[show a=(c,k) from jQ z u]
   ·rw[if_neg e] at h
    cases f:pI (o.map (xu l g)) c k with
    |none=>rw[f] at h;cases h
    |some j=>
     rw[f] at h;simp only[Option.map_some,bJ] at h;subst h;rw[List.getElem?_cons_succ];exact ih j f
 exact i _ q h
theorem abr (g:List I2) (h:(qL l)[q]? =some a):(oQ l g)[q]? =some (xu l g a):=by
 unfold oQ;rw[List.getElem?_map,h];rfl
theorem wD (h:og l=true):(qL l).length=l.length:=Vr h (sU h)
theorem Qq (h:og l=true) (U:pQ l x=true) (J:(hgP l x).right=true) {f k:Nat} (K:f+k<=l.length)
  (N:((hgP l x).on=(0,0)/\f=0)\/(∃q,f=q+1/\(qL l)[q]? =some (hgP l x).on))
  (Q:∀j a,j<k->(qL l)[f+j]? =some a->ltP (xL l x) (pth l a)=false) (O:∀j a,k<=j->(qL l)[f+j]? =some a->ltP (xL l x) (pth l a)=true):AU l x (f+k):=by
 refine⟨by rw[wD h];exact K,λj a z=>?_⟩;rcases dD j f with M|M
 ·have H:ltP (xL l x) (pth l a)=false:=by
   rcases N with⟨_,e⟩|⟨q,e,hq⟩
   ·omega
   ·have u:ltP (pth l (hgP l x).on) (xL l x)=true:=by unfold xL;rw[J];exact ML _ _ _
    rcases kU (show j<=q by omega) with I|I
    ·subst I
     rw[z] at hq;injection hq with hq;rw[hq];exact zD u
    ·exact zD (zC (BD h z hq I) u)
  rw[H];constructor
  ·intro e;cases e
  ·intro e;omega
 ·obtain⟨i,rfl⟩:∃i,j=f+i:=⟨j-f,ω⟩
  rcases dD i k with hi|hi
  ·rw[Q i a hi z]
   constructor
   ·intro e;cases e
   ·intro e;omega
  ·rw[O i a hi z]
   constructor
   ·intro _;omega
   ·intro _;rfl
theorem TS (h:og l=true) (N:pQ l x=true) (J:(hgP l x).right=false) {k:Nat} (O:k<=q) (i:(qL l)[q]? =some (hgP l x).on)
  (M:∀j a,j<k->(qL l)[j]? =some a->ltP (xL l x) (pth l a)=false) (K:∀j a,k<=j->j<q->(qL l)[j]? =some a->ltP (xL l x) (pth l a)=true):AU l x k:=by
 refine⟨by have:=qC i;omega,λj a H=>?_⟩;rcases dD j k with z|z
 ·rw[M j a z H]
  constructor
  ·intro e;cases e
  ·intro e;omega
 ·have:ltP (xL l x) (pth l a)=true:=by
   rcases dD j q with f|f
   ·exact K j a z f H
   ·have u:ltP (xL l x) (pth l (hgP l x).on)=true:=by unfold xL;rw[J];exact QN _ _ _
    rcases kU f with I|I
    ·subst I
     rw[H] at i;injection i with i;rw[i];exact u
    ·exact zC u (BD h i H I)
  rw[this];constructor
  ·intro _;exact z
  ·intro _;rfl
def bare (a b:I2):It:=⟨a.1,a.2,b.1,b.2,0,0,0⟩
def nbs (l:List It) (x:It):List It:=
 (if x.lc=0 then [] else [bare (ilf x) (0,0)])++
 (if x.rc=0\/irt x=ilf x then [] else [bare (irt x) (if(su l (irt x) (if x.lc=0 then(0,0) else ilf x)).isSome then ilf x else(0,0))])
theorem BR (e:x.rc=0):hgP l x=if x.lc=0 then⟨(0,0),true⟩ else⟨ilf x,true⟩:=by
 unfold hgP FY;rw[if_neg (λh=>h.1 e)];by_cases h:x.lc=0
 ·rw[if_pos h,if_pos h]
 ·rw[if_neg h,if_neg h]
theorem OT (e:x.rc≠0) (f:x.lc=0):hgP l x=⟨irt x,false⟩:=by
 unfold hgP FY;rw[if_pos ⟨e,by unfold uO;rw[show(ilf x).1=0 from f];simp⟩]
theorem Gt (f:x.rc≠0) (i:x.lc≠0):hgP l x=if uO l (paths l) (irt x) (ilf x)=true then⟨irt x,false⟩ else⟨ilf x,true⟩:=by
 unfold hgP FY;by_cases h:uO l (paths l) (irt x) (ilf x)=true
 ·rw[if_pos ⟨f,h⟩,if_pos h]
 ·rw[if_neg (λe=>h e.2),if_neg h,if_neg i]
theorem adq (h:og l=true) (u:nZ l a=true) (i:nZ l b=true):(su l a b).isSome=uO l (paths l) a b:=by
 rw[Ci h u i];unfold su;by_cases f:(pth l b).length<(pth l a).length/\(pth l a).take (pth l b).length=pth l b
 ·rw[if_pos f,decide_eq_true f.1,decide_eq_true f.2,aO f.1]
  rfl
 ·rw[if_neg f]
  rcases Decidable.not_and_iff_or_not.1 f with e|e
  ·rw[decide_eq_false e];rfl
  ·rw[decide_eq_false e,Bool.and_false];rfl
theorem Fj (H:a.1≠0) (i:b.1=0):og [bare a b]=true/\pth [bare a b] a=[(true,a)]:=by
 have e:pQ [] (bare a b)=true:=by
  unfold pQ bare;simp[H,i,nZ]
 have z:og ([]++[bare a b])=true:=by rw[pJ,e];rfl
 have u:hgP [] (bare a b)=⟨(0,0),true⟩:=by
  rw[BR (show(bare a b).rc=0 from rfl),if_pos (show(bare a b).lc=0 from i)]
 have f:=vB (oD e).2.1;rw[uK,u] at f;exact⟨z,f⟩
theorem ab8 {d:I2} (O:a.1≠0) (N:b.1≠0) (u:b≠a) (I:d.1=0\/d=a):og [bare a (0,0),bare b d]=true/\pth [bare a (0,0),bare b d] a=[(true,a)]/\pth [bare a (0,0),bare b d] b=if d.1=0 then [(true,b)] else [(true,a),(true,b)]:=by
 obtain⟨K,J⟩:=Fj O (show((0,0):I2).1=0 from rfl);have i:nZ [bare a (0,0)] a=true:=oP.2 ⟨_,aW ..,rfl⟩;have H:pQ [bare a (0,0)] (bare b d)=true:=by
  unfold pQ;have X:decide ((bare b d).c≠0)=true:=decide_eq_true N;have W:nZ [bare a (0,0)] (iid (bare b d))=false:=by
   unfold nZ;have:¬(iid (bare a (0,0))=iid (bare b d)):=λe=>u (show b=a from e.symm)
   simp[this]
  have U:(decide ((bare b d).lc=0)||nZ [bare a (0,0)] (ilf (bare b d)))=true:=by
   rcases I with e|e
   ·rw[decide_eq_true (show(bare b d).lc=0 from e)];rfl
   ·rw[show ilf (bare b d)=a from e,i,Bool.or_true]
  have Q:decide ((bare b d).rc=0)=true:=rfl;rw[X,W,U,Q];rfl
 have M:og ([bare a (0,0)]++[bare b d])=true:=by rw[pJ,K,H];rfl
 have f:=vB (oD H).2.1;rw[uK,BR (show(bare b d).rc=0 from rfl)] at f;refine⟨M,(uz (x:=bare b d) i).trans J,?_⟩;by_cases e:d.1=0
 ·rw[if_pos e]
  rw[if_pos (show(bare b d).lc=0 from e)] at f;rw[show pth [bare a (0,0)] ((0,0),(true:Bool)).1=[] from pU (pW K 0)] at f;exact f
 ·rw[if_neg e]
  rw[if_neg (show¬(bare b d).lc=0 from e)] at f;have z:ilf (bare b d)=a:=(I.resolve_left e);rw[z] at f;have f:pth ([bare a (0,0)]++[bare b d]) b=pth [bare a (0,0)] a++[(true,b)]:=f;rw[J] at f;exact f
theorem afy (h:og l=true) (hx:pQ l x=true):og (nbs l x)=true/\pQ (nbs l x) x=true/\hgP (nbs l x) x=hgP l x/\(nbs l x).length<=2:=by
 obtain⟨h0,a0,a1,M⟩:=oD hx;have I:∀a:I2,nZ l a=true->iid x≠a:=λa ha e=>by rw[<-e,a0] at ha;cases ha
 have Q:∀m:List It,nZ m (iid x)=false->(x.lc=0\/nZ m (ilf x)=true)->(x.rc=0\/nZ m (irt x)=true)->pQ m x=true:=by
  intro m W U e3;unfold pQ;rw[decide_eq_true h0,W];have a4:(decide (x.lc=0)||nZ m (ilf x))=true:=by rcases U with e|e <;> simp[e]
  have a3:(decide (x.rc=0)||nZ m (irt x))=true:=by rcases e3 with e|e <;> simp[e]
  rw[a4,a3];rfl
 unfold nbs;by_cases i:x.lc=0
 ·rw[if_pos i]
  by_cases f:x.rc=0
  ·rw[if_pos (.inl f)]
   refine⟨rfl,Q _ rfl (.inl i) (.inl f),?_,ι⟩;rw[bZ,BR f,BR f]
  ·have H:=M.resolve_left f
   have u:¬(irt x=ilf x):=λe=>f ((congrArg Prod.fst e).trans i)
   rw[if_neg (λe=>e.elim f u),if_pos i,List.nil_append];have hs:(su l (irt x) (0,0)).isSome=true:=by
     obtain⟨s,p,e,_⟩:=qo h _ H;rcases Z:pth l (irt x) with _|⟨⟨s1,c1⟩,r⟩
     ·rw[Z] at e;simp at e
     ·rw[Gq (show pth l (irt x)=pth l (0,0)++(s1,c1)::r by rw[pU (pW h 0)];exact Z)];rfl
   rw[if_pos hs];have J:=(Fj (show(irt x).1≠0 from f) (show(ilf x).1=0 from i)).1;refine⟨J,Q _ ?_ (.inl i) (.inr (oP.2 ⟨_,aW ..,rfl⟩)),?_,ι⟩
   ·unfold nZ
    have:=I _ H;have:¬(iid (bare (irt x) (ilf x))=iid x):=λe=>this e.symm
    simp[this]
   ·rw[OT f i,OT f i]
 ·rw[if_neg i]
  have z:=a1.resolve_left i;by_cases f:x.rc=0
  ·rw[if_pos (.inl f),bZ]
   refine⟨(Fj (show(ilf x).1≠0 from i) rfl).1,Q _ ?_ (.inr (oP.2 ⟨_,aW ..,rfl⟩)) (.inl f),?_,ι⟩
   ·unfold nZ
    have:=I _ z;have:¬(iid (bare (ilf x) (0,0))=iid x):=λe=>this e.symm
    simp[this]
   ·rw[BR f,BR f]
  ·have H:=M.resolve_left f
   by_cases u:irt x=ilf x
   ·rw[if_pos (.inr u),bZ]
    obtain⟨J,Z⟩:=Fj (show(ilf x).1≠0 from i) (show((0,0):I2).1=0 from rfl);have hh:nZ [bare (ilf x) (0,0)] (ilf x)=true:=oP.2 ⟨_,aW ..,rfl⟩;refine⟨J,Q _ ?_ (.inr hh) (.inr (by rw[u];exact hh)),?_,ι⟩
    ·unfold nZ
     have:=I _ z;have:¬(iid (bare (ilf x) (0,0))=iid x):=λe=>this e.symm
     simp[this]
    ·rw[Gt f i,Gt f i,u,Ci J hh hh,Ci h z z]
     simp
   ·rw[if_neg (λe=>e.elim f u),if_neg i,adq h H z]
    have hd:(if uO l (paths l) (irt x) (ilf x)=true then ilf x else((0,0):I2)).1=0\/(if uO l (paths l) (irt x) (ilf x)=true then ilf x else((0,0):I2))=ilf x:=by
     by_cases K:uO l (paths l) (irt x) (ilf x)=true
     ·rw[if_pos K];exact .inr rfl
     ·rw[if_neg K];exact .inl rfl
    obtain⟨J,Y,X⟩:=ab8 (show(ilf x).1≠0 from i) (show(irt x).1≠0 from f) u hd;have O:nZ ([bare (ilf x) (0,0)]++[bare (irt x) (if uO l (paths l) (irt x) (ilf x)=true then ilf x else(0,0))]) (ilf x)=true:=oP.2 ⟨_,dG _ (aW ..),rfl⟩;have N:nZ ([bare (ilf x) (0,0)]++[bare (irt x) (if uO l (paths l) (irt x) (ilf x)=true then ilf x else(0,0))]) (irt x)=true:=oP.2 ⟨_,bG _ (aW ..),rfl⟩;refine⟨J,Q _ ?_ (.inr O) (.inr N),?_,ι⟩
    ·have W:=I _ z
     have U:=I _ H;have W:¬(iid (bare (ilf x) (0,0))=iid x):=λe=>W e.symm
     have U:∀d,¬(iid (bare (irt x) d)=iid x):=λd e=>U e.symm
     unfold nZ;simp[W,U]
    ·have a2:og ([bare (ilf x) (0,0)]++[bare (irt x) (if uO l (paths l) (irt x) (ilf x)=true then ilf x else(0,0))])=true:=J
     rw[Gt f i,Gt f i,Ci a2 N O];have a5:pth ([bare (ilf x) (0,0)]++[bare (irt x) (if uO l (paths l) (irt x) (ilf x)=true then ilf x else(0,0))]) (ilf x)=[(true,ilf x)]:=Y;have a6:pth ([bare (ilf x) (0,0)]++[bare (irt x) (if uO l (paths l) (irt x) (ilf x)=true then ilf x else(0,0))]) (irt x)=if(if uO l (paths l) (irt x) (ilf x)=true then ilf x else((0,0):I2)).1=0 then [(true,irt x)] else [(true,ilf x),(true,irt x)]:=X;rw[a5,a6];by_cases K:uO l (paths l) (irt x) (ilf x)=true
     ·rw[if_pos K,if_pos K,if_neg (show¬(ilf x).1=0 from i)]
      simp
     ·rw[if_neg K,if_neg K,if_pos rfl]
      simp
end
end Go.Proofs.YtejbpijamdlgcaaGreatDoor

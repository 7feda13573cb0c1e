/-
  Lemmas of this seat; no claim.
-/
import Derived.Test.YtncfhbpejchbfaaGreatDoorPM1
import Derived.Test.YtncfhbpejchbfaaGreatDoorPMx1
set_option linter.unusedVariables false
set_option linter.unusedSimpArgs false
open Bool renaming and_eq_true→aC,eq_iff_iff→dC,or_false→fO
open List renaming append_assoc→aK,append_nil→bB,getElem?_append_left→bX,getElem?_append_right→di,getElem?_eq_getElem→ay,getElem?_eq_none→cU,getElem?_eq_some_iff→aq,getElem?_of_mem→ey,length_append→ag,length_singleton→cy,map_congr_left→bY,map_cons→bA,mem_append_left→aX,mem_append_right→aM,mem_append→aA,mem_cons_self→aH,mem_cons→aE,mem_map→cG,mem_of_getElem?→aD,mem_singleton→aN,pairwise_append→co,take_append_drop→ek,take_append→iR
open Nat renaming eq_or_lt_of_le→gI,le_refl→am,lt_or_ge→bL,sub_self→gV
open Option.some renaming injEq→aL
open Prod renaming ext→fN
namespace Go.Proofs.YtncfhbpejchbfaaGreatDoor
section
def lM (l:List It):List I2:=xB l (lQ l) l.length ⟨(0,0),true⟩
variable {a:I2} {l:List It}
theorem nR (h:jy l=true):yV l (lM l):=Xw h _ (am _)
def mW (g:List I2) (a:I2):Bool:=g.any λb=>decide (b=a)
theorem pY {g:List I2} :mW g a=true↔a∈g:=by unfold mW;simp
def chI (l:List It) (a:I2):Int:=match fnd l a with
 |some i=>(l[i]?.map It.ch).getD 0
 |none=>0
theorem aaw {i:Nat} {x:It} (h:fnd l a=some i) (e:l[i]? =some x):chI l a=x.ch:=by
 unfold chI;rw[h];simp only[e];rfl
theorem Cb (h:jw l a=true):∃i x,fnd l a=some i/\l[i]? =some x/\iid x=a:=by
 cases f:fnd l a with
 |none=>rw[rM.1 f] at h;cases h
 |some i=>
  obtain⟨x,j,e⟩:=tF f;exact⟨i,x,rfl,j,e⟩
theorem Cm (q:jy l=true) {x:It} (j:x∈l):chI l (iid x)=x.ch:=by
 obtain⟨i,y,u,f,e⟩:=Cb (jO.2 ⟨x,j,rfl⟩);rw[aaw u f,G7 q (aD f) j e]
def sH (l:List It) (g:List I2) (a:I2):En:=⟨a.1,a.2,chI l a,mW g a⟩
def kr (l:List It) (g:List I2):List En:=(lM l).map (sH l g)
theorem ZW (h:jy l=true) (g:List I2):(kr l g).length=l.length:=by
 unfold kr;rw[List.length_map];exact SV h (nR h)
theorem PD {m:List It} {g q:List I2} (u:jy l=true) (hm:jy m=true) (f:∀x,x∈l↔x∈m) (z:∀a,jw l a=true->mW g a=mW q a):kr l g=kr m q:=by
 unfold kr;rw[show lM l=lM m from aaD hm u f (nR hm) (nR u)];refine bY λa H=>?_
 have i:=((nR hm).all a).1 H;obtain⟨x,e,rfl⟩:=jO.1 i;have j:jw l (iid x)=true:=jO.2 ⟨x,(f x).2 e,rfl⟩;unfold sH;rw[Cm u ((f x).2 e),Cm hm e,z _ j]
theorem wW (h:jy l=true) (g:List I2) (c k:Int):BS (kr l g) c k=jw l (c,k):=by
 rw[dC,MF,<-(nR h).all];unfold kr mJ;constructor
 ·rintro⟨x,i,e⟩
  obtain⟨a,f,rfl⟩:=cG.1 i;obtain⟨q,j⟩:=of_decide_eq_true e;have:a=(c,k):=fN q j;exact this▸f
 ·intro f
  exact⟨_,List.mem_map_of_mem f,decide_eq_true ⟨rfl,rfl⟩⟩
theorem Ky:∀(o:List I2) (f:I2->En),(∀a,(f a).c=a.1/\(f a).k=a.2)->o.Nodup->apart (o.map f)=true
 |[],f,hf,h=>rfl
 |a::o,f,hf,h=>by
  rw[List.nodup_cons] at h;rw[bA,apart,Ky o f hf h.2,Bool.and_true,Bool.not_eq_true',DU];intro x e;obtain⟨b,i,rfl⟩:=cG.1 e;unfold mJ;rw[decide_eq_false_iff_not,(hf a).1,(hf a).2,(hf b).1,(hf b).2];rintro⟨q,j⟩;have:b=a:=fN q j;exact h.1 (this▸i)
theorem WC (h:jy l=true) (g:List I2):apart (kr l g)=true:=
 Ky _ _ (λa=>⟨rfl,rfl⟩) (zI (nR h).rise)
end
section
structure Nd where
 id:I2
 on:Nat
 right:Bool
 depth:Nat
 far:Nat
def nd0:Nd:=⟨(0,0),0,false,0,0⟩
def qj (l:List It) (a:I2):Nat:=match fnd l a with
 |none=>0
 |some i=>i+1
def ny (l:List It) (n:Nat):Pth:=if n=0 then [] else((l[n-1]?).map λx=>pth l (iid x)).getD []
variable {i n:Nat} {l:List It} {ns:List Nd} {x:It}
theorem ze (l:List It):ny l 0=[]:=rfl
theorem zf (h:l[i]? =some x):ny l (i+1)=pth l (iid x):=by
 unfold ny;rw[if_neg ω,Nat.add_sub_cancel,h];rfl
theorem Ta {a:I2} (h:fnd l a=some i):qj l a=i+1:=by unfold qj;rw[h]
theorem BG (l:List It) (a:I2):qj l a<=l.length:=by
 unfold qj;cases h:fnd l a with
 |none=>exact Nat.zero_le _
 |some i=>
  obtain⟨x,e,_⟩:=tF h;rcases bL i l.length with g|g
  ·exact g
  ·rw[cU g] at e;cases e
theorem xX (h:jy l=true) (a:I2):ny l (qj l a)=pth l a:=by
 cases f:fnd l a with
 |none=>
  have:qj l a=0:=by unfold qj;rw[f]
  rw[this,ze,kF (rM.1 f)]
 |some i=>
  obtain⟨x,j,e⟩:=tF f;rw[Ta f,zf j,e]
theorem kJ {a:Type} {l:List a} {x:a} (h:l[i]? =some x):i<l.length:=by
 rcases bL i l.length with g|g
 ·exact g
 ·rw[cU g] at h;cases h
theorem wO (h:jy l=true) (hn:n<=l.length):(ny l n).length<=l.length:=by
 cases n with
 |zero=>simp[ze]
 |succ i=>
  obtain⟨y,a⟩:∃y,l[i]? =some y:=⟨l[i],ay ω⟩;rw[zf a];exact oJ h _
theorem qN (f:jy (l++[x])=true) (hn:n<=l.length):ny (l++[x]) n=ny l n:=by
 cases n with
 |zero=>rfl
 |succ i=>
  obtain⟨y,e⟩:∃y,l[i]? =some y:=⟨l[i],ay ω⟩;have a:(l++[x])[i]? =some y:=by rw[bX ω];exact e
  rw[zf e,zf a,oP (jO.2 ⟨y,aD e,rfl⟩)]
theorem Gi (e:jy (l++[x])=true):ny (l++[x]) (l.length+1)=ny l (qj l (hgP l x).on)++[((hgP l x).right,iid x)]:=by
 have a:=e;rw[jZ,aC] at a;rw[zf (by simp:(l++[x])[l.length]? =some x),qw (jG a.2).2.1,pI,xX a.1]
structure GrN (l:List It) (ns:List Nd):Prop where
 len:ns.length=l.length+1
 root:ns[0]? =some nd0
 ids:∀i x,l[i]? =some x->∃nd,ns[i+1]? =some nd/\nd.id=iid x
 deep:∀n nd,ns[n]? =some nd->nd.depth=(ny l n).length/\nd.on<=l.length/\nd.far<=l.length/\∃q,ny l n=ny l nd.far++q/\(0<n->q≠[])
 up:∀n nd,ns[n]? =some nd->0<n->ny l n=ny l nd.on++[(nd.right,nd.id)]
theorem GrN.get (h:GrN l ns) (hn:n<=l.length):∃nd,ns[n]? =some nd:=⟨ns[n]'(by rw[h.len];omega),ay (by rw[h.len];omega)⟩
theorem GrN.nil:GrN [] [nd0] where
 len:=rfl
 root:=rfl
 ids i x h:=by simp at h
 deep n nd h:=by
  cases n with
  |zero=>simp at h;subst h;exact⟨rfl,am _,am _,[],rfl,λh=>absurd h ω⟩
  |succ n=>simp at h
 up n nd h h0:=by
  cases n with
  |zero=>omega
  |succ n=>simp at h
theorem GrN.snoc (h:GrN l ns) (j:jy (l++[x])=true) {f:Nat} {q:Pth} (U:f<=l.length) (Q:ny l (qj l (hgP l x).on)=ny l f++q) {nd:Nd} (hn:ns[qj l (hgP l x).on]? =some nd):
  GrN (l++[x]) (ns++[⟨iid x,qj l (hgP l x).on,(hgP l x).right,nd.depth+1,f⟩]) where
 len:=by simp[h.len]
 root:=by rw[bX (by rw[h.len];omega)];exact h.root
 ids i y hy:=by
  rcases bL i l.length with g|g
  ·rw[bX g] at hy
   obtain⟨z,a,e⟩:=h.ids i y hy;exact⟨z,by rw[bX (by rw[h.len];omega)];exact a,e⟩
  ·rw[di g] at hy
   have hi:i-l.length=0:=by
       rcases Nat.eq_zero_or_pos (i-l.length) with e|e
       ·exact e
       ·rw[cU (by simp;omega)] at hy;cases hy
   have I:i=l.length:=ω
   subst I;simp at hy;subst hy;exact⟨_,by rw[di (by rw[h.len];omega),h.len,gV];rfl,rfl⟩
 deep n z a:=by
  rcases bL n ns.length with g|g
  ·rw[bX g] at a
   have u:n<=l.length:=by rw[h.len] at g;omega
   obtain⟨H,O,N,J,M,K⟩:=h.deep n z a;refine⟨by rw[qN j u];exact H,by simp;omega,by simp;omega,J,?_,K⟩;rw[qN j u,qN j N];exact M
  ·have hi:n=l.length+1:=by
        have:=kJ a;simp[h.len] at this;rw[h.len] at g;omega
   subst hi;rw[di (by rw[h.len];omega),h.len,gV] at a;simp at a;subst a;obtain⟨H,_⟩:=h.deep _ _ hn;refine⟨?_,by have:=BG l (hgP l x).on;simp;omega,by simp;omega,q++[((hgP l x).right,iid x)],?_,λ_=>ι⟩
   ·rw[Gi j,ag]
    show nd.depth+1=_;rw[H];rfl
   ·rw[Gi j,qN j U,Q,aK]
 up n z a h0:=by
  rcases bL n ns.length with g|g
  ·rw[bX g] at a
   have u:n<=l.length:=by rw[h.len] at g;omega
   obtain⟨H,O,N,J,M,K⟩:=h.deep n z a;rw[qN j u,qN j O];exact h.up n z a h0
  ·have hi:n=l.length+1:=by
        have:=kJ a;simp[h.len] at this;rw[h.len] at g;omega
   subst hi;rw[di (by rw[h.len];omega),h.len,gV] at a;simp at a;subst a;have:=BG l (hgP l x).on;rw[Gi j,qN j this]
def RG (ns:List Nd) (on:Nat):Nat:=
 let far:=(ns.getD on nd0).far
 let a:=(ns.getD far nd0).far
 if((ns.getD on nd0).depth:Int)-(ns.getD far nd0).depth=((ns.getD far nd0).depth:Int)-(ns.getD a nd0).depth then a else on
theorem BU {nd:Nd} (h:ns[n]? =some nd):ns.getD n nd0=nd:=by rw[List.getD_eq_getElem?_getD,h];rfl
theorem GrN.ab3 (h:GrN l ns) {on:Nat} (e:on<=l.length):RG ns on<=l.length/\∃q,ny l on=ny l (RG ns on)++q:=by
 obtain⟨a,j⟩:=h.get e;obtain⟨_,_,K,z,J,_⟩:=h.deep _ _ j;obtain⟨b,f⟩:=h.get K;obtain⟨_,_,I,u,H,_⟩:=h.deep _ _ f;unfold RG;simp only[BU j,BU f]
 split
 ·exact⟨I,u++z,by rw[J,H,aK]⟩
 ·exact⟨e,[],ι⟩
theorem yP (h:jy l=true) {a b:I2} (K:jw l a=true) (H:jw l b=true):
  pQ l (paths l) a b=(decide ((pth l b).length<(pth l a).length)&&decide ((pth l a).take (pth l b).length=pth l b)):=by
 have z:b.1≠0:=λe=>by
  have:=kH h b.2;rw[show((0:Int),b.2)=b from by rw[<-e]] at this;rw[this] at H;cases H
 obtain⟨I,J,N,_⟩:=kN h b H;obtain⟨Q,q,j,_⟩:=kN h a K;have U:(pth l a).dropLast=q:=by rw[j];simp
 unfold pQ;rw[decide_eq_false z,Bool.false_or];show(pth l a).dropLast.any _=_;rw[U,dC];simp only[List.any_eq_true,decide_eq_true_eq,aC];constructor
 ·rintro⟨⟨s,c⟩,hm,rfl⟩
  obtain⟨u,v,e⟩:=List.append_of_mem hm;have O:pth l a=u++(s,c)::(v++[(Q,a)]):=by rw[j,e];simp
  obtain⟨_,W⟩:=rz h K O;rw[W,O];refine⟨ι,?_⟩;rw[ag,cy,iR,List.take_of_length_le ω,show u.length+1-u.length=1 by omega];rfl
 ·rintro⟨M,f⟩
  refine⟨(I,b),?_,rfl⟩;rw[j,N] at f;rw[j,N] at M;simp only[ag,cy] at M f;rw[iR,show J.length+1-q.length=0 by omega,List.take_zero,bB] at f;have:(I,b)∈q.take (J.length+1):=by rw[f];simp
  exact List.mem_of_mem_take this
end
section
theorem GY:∀{p q:Pth},ltP q p=true->(∀r,q≠p++r)->∀z,ltP q (p++z)=true
 |[],q,h,hn,z=>absurd rfl (hn q)
 |(s,a)::p,[],h,hn,z=>h
 |(s,a)::p,(t,b)::q,h,hn,z=>by
  rw[List.cons_append,ltP];rw[ltP] at h;by_cases f:t=s
  ·subst f
   rw[if_pos rfl] at h⊢;by_cases i:b=a
   ·subst i
    rw[if_pos rfl] at h⊢;exact GY h (λr e=>hn r (by rw[e];rfl)) z
   ·rw[if_neg i] at h⊢;exact h
  ·rw[if_neg f] at h⊢;exact h
def nu (l:List It) (a b:I2):Option I2:=
 if(pth l b).length<(pth l a).length/\(pth l a).take (pth l b).length=pth l b then((pth l a)[(pth l b).length]?).map (·.2) else none
variable {a b:I2} {j q:Nat} {l:List It} {x:It}
theorem DN {s:Bool} {c:I2} {r:Pth} (e:pth l a=pth l b++(s,c)::r):nu l a b=some c:=by
 unfold nu;rw[if_pos ⟨by rw[e];simp,by rw[e];simp⟩,e];simp
theorem DR (h:∀s c r,pth l a≠pth l b++(s,c)::r):nu l a b=none:=by
 unfold nu;rw[if_neg];rintro⟨u,i⟩;obtain⟨x,r,e⟩:∃x r,(pth l a).drop (pth l b).length=x::r:=by
  cases f:(pth l a).drop (pth l b).length with
  |nil=>rw[List.drop_eq_nil_iff] at f;omega
  |cons x r=>exact⟨x,r,rfl⟩
 refine h x.1 x.2 r ?_;have:=ek (pth l b).length (pth l a);rw[i,e] at this;exact this.symm
theorem Fj (l:List It) (a b:I2):(∃s c r,pth l a=pth l b++(s,c)::r/\nu l a b=some c)\/((∀s c r,pth l a≠pth l b++(s,c)::r)/\nu l a b=none):=by
 by_cases h:∃s c r,pth l a=pth l b++(s,c)::r
 ·obtain⟨s,c,r,e⟩:=h
  exact .inl ⟨s,c,r,e,DN e⟩
 ·have f:∀s c r,pth l a≠pth l b++(s,c)::r:=λs c r e=>h ⟨s,c,r,e⟩
  exact .inr ⟨f,DR f⟩
theorem Qt (h:jy l=true) (W:jw l a=true) {s:Bool} {c:I2} {r:Pth} (e:pth l a=(s,c)::r):s=true:=by
 obtain⟨U,X⟩:=rz h W (P:=[]) e;obtain⟨i,Q⟩:=Cc U;obtain⟨x,N,M,_,u,H⟩:=Ll h Q;rw[X] at u;have K:pth l (hgP (l.take i) x).on=[]/\(hgP (l.take i) x).right=s:=by
  rcases I:pth l (hgP (l.take i) x).on with _|⟨y,t⟩
  ·rw[I] at u;simp at u;exact⟨rfl,u.symm⟩
  ·rw[I] at u;simp at u
 rw[<-K.2];have f:(hgP (l.take i) x).on=(0,0):=by
  rcases H with f|f
  ·exact f
  ·obtain⟨s1,Y,J,_⟩:=kN h _ (yI f)
   rw[K.1] at J;simp at J
 obtain⟨O,_⟩:=wo h N;unfold hgP Dk at f⊢
 split
 ·rename_i z
  rw[if_pos z] at f;have:x.rc=0:=congrArg Prod.fst f;exact absurd this z.1
 ·rfl
def tq (l:List It) (x:It):Pth:=pth l (hgP l x).on++[((hgP l x).right,iid x)]
theorem Qv (h:jy l=true) (J:kC l x=true) (M:(hgP l x).right=true) (z:jw l a=true) (u:(hgP l x).on=(0,0)\/ltP (pth l (hgP l x).on) (pth l a)=true):
  (match nu l a (hgP l x).on with|none=>true|some c=>ltI (iid x) c)=ltP (tq l x) (pth l a):=by
 unfold tq;rw[M];have i:=(jG J).2.1;obtain⟨O,Q,I,_⟩:=kN h a z;have f:ltP (pth l (hgP l x).on) (pth l a)=true:=by
  rcases u with u|u
  ·rw[u,kF (kH h 0)]
   rcases H:pth l a with _|⟨⟨s,c⟩,r⟩
   ·rw[H] at I;simp at I
   ·show s=true
    exact Qt h z H
  ·exact u
 rcases Fj l a (hgP l x).on with⟨s,c,r,e,eh⟩|⟨hn,eh⟩
 ·rw[eh]
  show ltI (iid x) c=_;rw[e] at f⊢;have K:s=true:=by
   have:=BK (pth l (hgP l x).on) [] ((s,c)::r);rw[bB] at this;rw[this] at f;exact f
  subst K;rw[BK,ltP,if_pos rfl];have N:jw l c=true:=(rz h z e).1;rw[if_neg (λe=>by rw[e,N] at i;cases i)]
 ·rw[eh]
  show true=_;refine(GV f (λr e=>?_) _).symm;rcases r with _|⟨⟨s,c⟩,r⟩
  ·rw[bB] at e
   rw[e,wS] at f;cases f
  ·exact hn s c r e
theorem Vw (h:jy l=true) (u:kC l x=true) (H:(hgP l x).right=false) (J:jw l a=true) (f:ltP (pth l a) (pth l (hgP l x).on)=true):
  (match nu l a (hgP l x).on with|none=>false|some c=>ltI (iid x) c)=ltP (tq l x) (pth l a):=by
 unfold tq;rw[H];have i:=(jG u).2.1;rcases Fj l a (hgP l x).on with⟨s,c,r,e,eh⟩|⟨hn,eh⟩
 ·rw[eh]
  show ltI (iid x) c=_;rw[e] at f⊢;have z:s=false:=by
   have:=BK (pth l (hgP l x).on) ((s,c)::r) [];rw[bB] at this;rw[this] at f;have f:(!s)=true:=f;cases s
   ·rfl
   ·cases f
  subst z;rw[BK,ltP,if_pos rfl];have I:jw l c=true:=(rz h J e).1;rw[if_neg (λe=>by rw[e,I] at i;cases i)]
 ·rw[eh]
  show false=_;refine(vW (GY f (λr e=>?_) _)).symm;rcases r with _|⟨⟨s,c⟩,r⟩
  ·rw[bB] at e
   rw[e,wS] at f;cases f
  ·exact hn s c r e
def xH (l:List It) (x:It) (p:Nat):Prop:=p<=(lM l).length/\∀j a,(lM l)[j]? =some a->(ltP (tq l x) (pth l a)=true↔p<=j)
theorem oh (h:jy l=true) (e:(lM l)[j]? =some a):jw l a=true:=((nR h).all a).1 (aD e)
theorem xZ (h:jy l=true) {i:Nat} (u:(lM l)[i]? =some a) (f:(lM l)[j]? =some b) (e:i<j):ltP (pth l a) (pth l b)=true:=by
 obtain⟨H,J⟩:=aq.1 u;obtain⟨z,I⟩:=aq.1 f;have:=List.pairwise_iff_getElem.1 (nR h).rise i j H z e;rw[J,I] at this;exact this
theorem Js (h:jy l=true) (x:It) {i:Nat} (H:(lM l)[i]? =some a) (f:(lM l)[j]? =some b) (u:i<=j) (z:ltP (tq l x) (pth l a)=true):ltP (tq l x) (pth l b)=true:=by
 rcases gI u with e|e
 ·subst e
  rw[H] at f;injection f with f;subst f;exact z
 ·exact vV z (xZ h H f e)
theorem U5 (h:jy (l++[x])=true) {p:Nat} (hp:xH l x p):lM (l++[x])=(lM l).take p++iid x::(lM l).drop p:=by
 have X:=h;rw[jZ,aC] at X;obtain⟨M,Y⟩:=X;have K:=(jG Y).2.1;obtain⟨Z,J⟩:=hp;refine(Gu (nR h) ⟨λa=>?_,?_⟩)
 ·rw[lD,Bool.or_eq_true,<-(nR M).all,decide_eq_true_eq]
  constructor
  ·intro f
   rcases aA.1 f with f|f
   ·exact .inl (List.mem_of_mem_take f)
   ·rcases aE.1 f with e|f
    ·exact .inr e.symm
    ·exact .inl (List.mem_of_mem_drop f)
  ·rintro(f|e)
   ·rw[<-ek p (lM l)] at f
    rcases aA.1 f with f|f
    ·exact aX _ f
    ·exact aM _ (List.mem_cons_of_mem _ f)
   ·rw[e]
    exact aM _ (aH ..)
 ·have z:pth (l++[x]) (iid x)=tq l x:=by rw[qw K,pI];rfl
  have i:∀a,a∈lM l->pth (l++[x]) a=pth l a:=λa f=>oP (((nR M).all a).1 f)
  have H:(lM l).Pairwise (ltO (l++[x])):=by
   refine List.Pairwise.imp_of_mem ?_ (nR M).rise;intro a b f N O;unfold ltO at O⊢;rw[i a f,i b N];exact O
  have hA:∀a∈(lM l).take p,ltO (l++[x]) a (iid x):=by
   intro a f;obtain⟨j,u⟩:=ey f;have U:j<p:=by
        have:=kJ u;rw[List.length_take] at this;omega
   rw[List.getElem?_take_of_lt U] at u;unfold ltO;rw[z,i a (aD u)];have hf:ltP (tq l x) (pth l a)≠true:=λe=>by have:=(J j a u).1 e;omega
   have Q:pth l a≠tq l x:=λe=>by
        have W:=oh M u;obtain⟨s,q,e2,_⟩:=kN M a W;rw[e2] at e;unfold tq at e;have:=(List.append_inj' e rfl).2;simp at this;rw[this.2,K] at W;cases W
   rcases JF Q with e|e
   ·exact e
   ·exact absurd e hf
  have hB:∀a∈(lM l).drop p,ltO (l++[x]) (iid x) a:=by
   intro a f;obtain⟨j,u⟩:=ey f;rw[List.getElem?_drop] at u;unfold ltO;rw[z,i a (aD u)];exact(J _ a u).2 ω
  have I:=co.1 (by rw[ek];exact H:((lM l).take p++(lM l).drop p).Pairwise (ltO (l++[x])));refine co.2 ⟨I.1,List.pairwise_cons.2 ⟨hB,I.2.1⟩,?_⟩;intro a f b N;rcases aE.1 N with e|N
  ·subst e;exact hA a f
  ·exact I.2.2 a f b N
theorem ab8 (h:jy (l++[x])=true) {p:Nat} (O:xH l x p) {g:List I2} (Q:∀a∈g,jw l a=true) (gone:Bool):
  zY (kr l g) p ⟨x.c,x.k,x.ch,gone⟩=kr (l++[x]) (if gone then g++[(x.c,x.k)] else g):=by
 have M:=h;rw[jZ,aC] at M;obtain⟨K,N⟩:=M;have i:=(jG N).2.1;unfold kr zY;rw[U5 h O,List.map_append,bA,List.map_take,List.map_drop,aK];have f:∀a,jw l a=true->sH (l++[x]) (if gone then g++[(x.c,x.k)] else g) a=sH l g a:=by
  intro a z;obtain⟨y,J,rfl⟩:=jO.1 z;unfold sH;rw[Cm h (aX _ J),Cm K J];have:mW (if gone then g++[(x.c,x.k)] else g) (iid y)=mW g (iid y):=by
   cases gone
   ·rfl
   ·show mW (g++[(x.c,x.k)]) (iid y)=_
    have H:¬(iid x=iid y):=λe=>by rw[<-e,i] at z;cases z
    have u:¬((x.c,x.k)=iid y):=H;unfold mW;rw[List.any_append,List.any_cons,List.any_nil,decide_eq_false u,fO,fO]
  rw[this]
 have W:(List.map (sH (l++[x]) (if gone then g++[(x.c,x.k)] else g)) (lM l))=List.map (sH l g) (lM l):=
  bY λa z=>f a (((nR K).all a).1 z)
 have U:sH (l++[x]) (if gone then g++[(x.c,x.k)] else g) (iid x)=⟨x.c,x.k,x.ch,gone⟩:=by
  unfold sH;rw[Cm h (aM _ (aN.2 rfl))];have:mW (if gone then g++[(x.c,x.k)] else g) (iid x)=gone:=by
   cases gone
   ·show mW g (iid x)=false
    cases I:mW g (iid x) with
    |false=>rfl
    |true=>have:=Q _ (pY.1 I);rw[i] at this;cases this
   ·exact pY.2 (aM _ (aN.2 rfl))
  rw[this];rfl
 rw[W,U];rfl
theorem ZT (l:List It) (g:List I2) (c k:Int):EA (kr l g) c k=kr l (g++[(c,k)]):=by
 unfold EA kr;rw[List.map_map];refine bY λa z=>?_
 show(if mJ (sH l g a) c k then{ sH l g a with g:=true } else sH l g a)=sH l (g++[(c,k)]) a;by_cases e:a=(c,k)
 ·subst e
  rw[if_pos (by unfold mJ sH;simp)];unfold sH;have:mW (g++[(c,k)]) (c,k)=true:=pY.2 ι;rw[this]
 ·rw[if_neg (by
   unfold mJ sH;rw[decide_eq_true_eq];rintro⟨u,i⟩;exact e (fN u i))]
  unfold sH;have f:¬((c,k)=a):=λh=>e h.symm
  have:mW (g++[(c,k)]) a=mW g a:=by
   unfold mW;rw[List.any_append,List.any_cons,List.any_nil,decide_eq_false f,fO,fO]
  rw[this]
theorem PE (g:List I2) {c k:Int} (h:jY (kr l g) c k=some q):(lM l)[q]? =some (c,k):=by
 have i:∀(o:List I2) (q:Nat),jY (o.map (sH l g)) c k=some q->o[q]? =some (c,k):=by
  intro o
  induction o with
  |nil=>intro q h;cases h
  |cons a o ih=>
   intro q h;rw[bA,jY] at h;by_cases e:mJ (sH l g a) c k=true
   ·rw[if_pos e] at h
    injection h with h;subst h;unfold mJ sH at e;obtain⟨z,u⟩:=of_decide_eq_true e;show some a=_;rw[show a=(c,k) from fN z u]
   ·rw[if_neg e] at h
    cases f:jY (o.map (sH l g)) c k with
    |none=>rw[f] at h;cases h
    |some j=>
     rw[f] at h;simp only[Option.map_some,aL] at h;subst h;rw[List.getElem?_cons_succ];exact ih j f
 exact i _ q h
theorem ZU (g:List I2) (h:(lM l)[q]? =some a):(kr l g)[q]? =some (sH l g a):=by
 unfold kr;rw[List.getElem?_map,h];rfl
theorem rD (h:jy l=true):(lM l).length=l.length:=SV h (nR h)
theorem NZ (h:jy l=true) (U:kC l x=true) (J:(hgP l x).right=true) {f k:Nat} (K:f+k<=l.length)
  (N:((hgP l x).on=(0,0)/\f=0)\/(∃q,f=q+1/\(lM l)[q]? =some (hgP l x).on))
  (Q:∀j a,j<k->(lM l)[f+j]? =some a->ltP (tq l x) (pth l a)=false) (O:∀j a,k<=j->(lM l)[f+j]? =some a->ltP (tq l x) (pth l a)=true):xH l x (f+k):=by
 refine⟨by rw[rD h];exact K,λj a z=>?_⟩;rcases bL j f with M|M
 ·have H:ltP (tq l x) (pth l a)=false:=by
   rcases N with⟨_,e⟩|⟨q,e,hq⟩
   ·omega
   ·have u:ltP (pth l (hgP l x).on) (tq l x)=true:=by unfold tq;rw[J];exact JG _ _ _
    rcases gI (show j<=q by omega) with I|I
    ·subst I
     rw[z] at hq;injection hq with hq;rw[hq];exact vW u
    ·exact vW (vV (xZ h z hq I) u)
  rw[H];constructor
  ·intro e;cases e
  ·intro e;omega
 ·obtain⟨i,rfl⟩:∃i,j=f+i:=⟨j-f,ω⟩
  rcases bL i k with hi|hi
  ·rw[Q i a hi z]
   constructor
   ·intro e;cases e
   ·intro e;omega
  ·rw[O i a hi z]
   constructor
   ·intro _;omega
   ·intro _;rfl
theorem QU (h:jy l=true) (N:kC l x=true) (J:(hgP l x).right=false) {k:Nat} (O:k<=q) (i:(lM l)[q]? =some (hgP l x).on)
  (M:∀j a,j<k->(lM l)[j]? =some a->ltP (tq l x) (pth l a)=false) (K:∀j a,k<=j->j<q->(lM l)[j]? =some a->ltP (tq l x) (pth l a)=true):xH l x k:=by
 refine⟨by have:=kJ i;omega,λj a H=>?_⟩;rcases bL j k with z|z
 ·rw[M j a z H]
  constructor
  ·intro e;cases e
  ·intro e;omega
 ·have:ltP (tq l x) (pth l a)=true:=by
   rcases bL j q with f|f
   ·exact K j a z f H
   ·have u:ltP (tq l x) (pth l (hgP l x).on)=true:=by unfold tq;rw[J];exact Oz _ _ _
    rcases gI f with I|I
    ·subst I
     rw[H] at i;injection i with i;rw[i];exact u
    ·exact vV u (xZ h i H I)
  rw[this];constructor
  ·intro _;exact z
  ·intro _;rfl
def bare (a b:I2):It:=⟨a.1,a.2,b.1,b.2,0,0,0⟩
def nbs (l:List It) (x:It):List It:=
 (if x.lc=0 then [] else [bare (ilf x) (0,0)])++
 (if x.rc=0\/irt x=ilf x then [] else [bare (irt x) (if(nu l (irt x) (if x.lc=0 then(0,0) else ilf x)).isSome then ilf x else(0,0))])
theorem yH (e:x.rc=0):hgP l x=if x.lc=0 then⟨(0,0),true⟩ else⟨ilf x,true⟩:=by
 unfold hgP Dk;rw[if_neg (λh=>h.1 e)];by_cases h:x.lc=0
 ·rw[if_pos h,if_pos h]
 ·rw[if_neg h,if_neg h]
theorem Mc (e:x.rc≠0) (f:x.lc=0):hgP l x=⟨irt x,false⟩:=by
 unfold hgP Dk;rw[if_pos ⟨e,by unfold pQ;rw[show(ilf x).1=0 from f];simp⟩]
theorem DT (f:x.rc≠0) (i:x.lc≠0):hgP l x=if pQ l (paths l) (irt x) (ilf x)=true then⟨irt x,false⟩ else⟨ilf x,true⟩:=by
 unfold hgP Dk;by_cases h:pQ l (paths l) (irt x) (ilf x)=true
 ·rw[if_pos ⟨f,h⟩,if_pos h]
 ·rw[if_neg (λe=>h e.2),if_neg h,if_neg i]
theorem abK (h:jy l=true) (u:jw l a=true) (i:jw l b=true):(nu l a b).isSome=pQ l (paths l) a b:=by
 rw[yP h u i];unfold nu;by_cases f:(pth l b).length<(pth l a).length/\(pth l a).take (pth l b).length=pth l b
 ·rw[if_pos f,decide_eq_true f.1,decide_eq_true f.2,ay f.1]
  rfl
 ·rw[if_neg f]
  rcases Decidable.not_and_iff_or_not.1 f with e|e
  ·rw[decide_eq_false e];rfl
  ·rw[decide_eq_false e,Bool.and_false];rfl
theorem CF (H:a.1≠0) (i:b.1=0):jy [bare a b]=true/\pth [bare a b] a=[(true,a)]:=by
 have e:kC [] (bare a b)=true:=by
  unfold kC bare;simp[H,i,jw]
 have z:jy ([]++[bare a b])=true:=by rw[jZ,e];rfl
 have u:hgP [] (bare a b)=⟨(0,0),true⟩:=by
  rw[yH (show(bare a b).rc=0 from rfl),if_pos (show(bare a b).lc=0 from i)]
 have f:=qw (jG e).2.1;rw[pI,u] at f;exact⟨z,f⟩
theorem aaz {d:I2} (O:a.1≠0) (N:b.1≠0) (u:b≠a) (I:d.1=0\/d=a):jy [bare a (0,0),bare b d]=true/\pth [bare a (0,0),bare b d] a=[(true,a)]/\pth [bare a (0,0),bare b d] b=if d.1=0 then [(true,b)] else [(true,a),(true,b)]:=by
 obtain⟨K,J⟩:=CF O (show((0,0):I2).1=0 from rfl);have i:jw [bare a (0,0)] a=true:=jO.2 ⟨_,aH ..,rfl⟩;have H:kC [bare a (0,0)] (bare b d)=true:=by
  unfold kC;have X:decide ((bare b d).c≠0)=true:=decide_eq_true N;have W:jw [bare a (0,0)] (iid (bare b d))=false:=by
   unfold jw;have:¬(iid (bare a (0,0))=iid (bare b d)):=λe=>u (show b=a from e.symm)
   simp[this]
  have U:(decide ((bare b d).lc=0)||jw [bare a (0,0)] (ilf (bare b d)))=true:=by
   rcases I with e|e
   ·rw[decide_eq_true (show(bare b d).lc=0 from e)];rfl
   ·rw[show ilf (bare b d)=a from e,i,Bool.or_true]
  have Q:decide ((bare b d).rc=0)=true:=rfl;rw[X,W,U,Q];rfl
 have M:jy ([bare a (0,0)]++[bare b d])=true:=by rw[jZ,K,H];rfl
 have f:=qw (jG H).2.1;rw[pI,yH (show(bare b d).rc=0 from rfl)] at f;refine⟨M,(oP (x:=bare b d) i).trans J,?_⟩;by_cases e:d.1=0
 ·rw[if_pos e]
  rw[if_pos (show(bare b d).lc=0 from e)] at f;rw[show pth [bare a (0,0)] ((0,0),(true:Bool)).1=[] from kF (kH K 0)] at f;exact f
 ·rw[if_neg e]
  rw[if_neg (show¬(bare b d).lc=0 from e)] at f;have z:ilf (bare b d)=a:=(I.resolve_left e);rw[z] at f;have f:pth ([bare a (0,0)]++[bare b d]) b=pth [bare a (0,0)] a++[(true,b)]:=f;rw[J] at f;exact f
theorem adQ (h:jy l=true) (hx:kC l x=true):jy (nbs l x)=true/\kC (nbs l x) x=true/\hgP (nbs l x) x=hgP l x/\(nbs l x).length<=2:=by
 obtain⟨h0,a0,a1,M⟩:=jG hx;have I:∀a:I2,jw l a=true->iid x≠a:=λa ha e=>by rw[<-e,a0] at ha;cases ha
 have Q:∀m:List It,jw m (iid x)=false->(x.lc=0\/jw m (ilf x)=true)->(x.rc=0\/jw m (irt x)=true)->kC m x=true:=by
  intro m W U e3;unfold kC;rw[decide_eq_true h0,W];have a4:(decide (x.lc=0)||jw m (ilf x))=true:=by rcases U with e|e <;> simp[e]
  have a3:(decide (x.rc=0)||jw m (irt x))=true:=by rcases e3 with e|e <;> simp[e]
  rw[a4,a3];rfl
 unfold nbs;by_cases i:x.lc=0
 ·rw[if_pos i]
  by_cases f:x.rc=0
  ·rw[if_pos (.inl f)]
   refine⟨rfl,Q _ rfl (.inl i) (.inl f),?_,ι⟩;rw[bB,yH f,yH f]
  ·have H:=M.resolve_left f
   have u:¬(irt x=ilf x):=λe=>f ((congrArg Prod.fst e).trans i)
   rw[if_neg (λe=>e.elim f u),if_pos i,List.nil_append];have hs:(nu l (irt x) (0,0)).isSome=true:=by
     obtain⟨s,p,e,_⟩:=kN h _ H;rcases Z:pth l (irt x) with _|⟨⟨s1,c1⟩,r⟩
     ·rw[Z] at e;simp at e
     ·rw[DN (show pth l (irt x)=pth l (0,0)++(s1,c1)::r by rw[kF (kH h 0)];exact Z)];rfl
   rw[if_pos hs];have J:=(CF (show(irt x).1≠0 from f) (show(ilf x).1=0 from i)).1;refine⟨J,Q _ ?_ (.inl i) (.inr (jO.2 ⟨_,aH ..,rfl⟩)),?_,ι⟩
   ·unfold jw
    have:=I _ H;have:¬(iid (bare (irt x) (ilf x))=iid x):=λe=>this e.symm
    simp[this]
   ·rw[Mc f i,Mc f i]
 ·rw[if_neg i]
  have z:=a1.resolve_left i;by_cases f:x.rc=0
  ·rw[if_pos (.inl f),bB]
   refine⟨(CF (show(ilf x).1≠0 from i) rfl).1,Q _ ?_ (.inr (jO.2 ⟨_,aH ..,rfl⟩)) (.inl f),?_,ι⟩
   ·unfold jw
    have:=I _ z;have:¬(iid (bare (ilf x) (0,0))=iid x):=λe=>this e.symm
    simp[this]
   ·rw[yH f,yH f]
  ·have H:=M.resolve_left f
   by_cases u:irt x=ilf x
   ·rw[if_pos (.inr u),bB]
    obtain⟨J,Z⟩:=CF (show(ilf x).1≠0 from i) (show((0,0):I2).1=0 from rfl);have hh:jw [bare (ilf x) (0,0)] (ilf x)=true:=jO.2 ⟨_,aH ..,rfl⟩;refine⟨J,Q _ ?_ (.inr hh) (.inr (by rw[u];exact hh)),?_,ι⟩
    ·unfold jw
     have:=I _ z;have:¬(iid (bare (ilf x) (0,0))=iid x):=λe=>this e.symm
     simp[this]
    ·rw[DT f i,DT f i,u,yP J hh hh,yP h z z]
     simp
   ·rw[if_neg (λe=>e.elim f u),if_neg i,abK h H z]
    have hd:(if pQ l (paths l) (irt x) (ilf x)=true then ilf x else((0,0):I2)).1=0\/(if pQ l (paths l) (irt x) (ilf x)=true then ilf x else((0,0):I2))=ilf x:=by
     by_cases K:pQ l (paths l) (irt x) (ilf x)=true
     ·rw[if_pos K];exact .inr rfl
     ·rw[if_neg K];exact .inl rfl
    obtain⟨J,Y,X⟩:=aaz (show(ilf x).1≠0 from i) (show(irt x).1≠0 from f) u hd;have O:jw ([bare (ilf x) (0,0)]++[bare (irt x) (if pQ l (paths l) (irt x) (ilf x)=true then ilf x else(0,0))]) (ilf x)=true:=jO.2 ⟨_,aX _ (aH ..),rfl⟩;have N:jw ([bare (ilf x) (0,0)]++[bare (irt x) (if pQ l (paths l) (irt x) (ilf x)=true then ilf x else(0,0))]) (irt x)=true:=jO.2 ⟨_,aM _ (aH ..),rfl⟩;refine⟨J,Q _ ?_ (.inr O) (.inr N),?_,ι⟩
    ·have W:=I _ z
     have U:=I _ H;have W:¬(iid (bare (ilf x) (0,0))=iid x):=λe=>W e.symm
     have U:∀d,¬(iid (bare (irt x) d)=iid x):=λd e=>U e.symm
     unfold jw;simp[W,U]
    ·have a2:jy ([bare (ilf x) (0,0)]++[bare (irt x) (if pQ l (paths l) (irt x) (ilf x)=true then ilf x else(0,0))])=true:=J
     rw[DT f i,DT f i,yP a2 N O];have a5:pth ([bare (ilf x) (0,0)]++[bare (irt x) (if pQ l (paths l) (irt x) (ilf x)=true then ilf x else(0,0))]) (ilf x)=[(true,ilf x)]:=Y;have a6:pth ([bare (ilf x) (0,0)]++[bare (irt x) (if pQ l (paths l) (irt x) (ilf x)=true then ilf x else(0,0))]) (irt x)=if(if pQ l (paths l) (irt x) (ilf x)=true then ilf x else((0,0):I2)).1=0 then [(true,irt x)] else [(true,ilf x),(true,irt x)]:=X;rw[a5,a6];by_cases K:pQ l (paths l) (irt x) (ilf x)=true
     ·rw[if_pos K,if_pos K,if_neg (show¬(ilf x).1=0 from i)]
      simp
     ·rw[if_neg K,if_neg K,if_pos rfl]
      simp
end
end Go.Proofs.YtncfhbpejchbfaaGreatDoor

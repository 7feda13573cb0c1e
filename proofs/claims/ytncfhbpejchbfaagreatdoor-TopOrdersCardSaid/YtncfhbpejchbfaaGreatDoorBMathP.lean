/-
  Batches as bytes, in plain lists: no memory; no claim stands here.
-/
import Derived.Test.YtncfhbpejchbfaaGreatDoorWMathP
import Derived.Test.YtncfhbpejchbfaaGreatDoorPMn1
set_option linter.unusedVariables false
set_option linter.unusedSimpArgs false
open Int renaming toNat_natCast→bJ
open List renaming append_assoc→aK,flatMap_cons→eM,getD_cons_succ→cY,getD_cons_zero→cP,length_append→ag,length_cons→ar,length_drop→bk,mem_cons_of_mem→aF,mem_cons_self→aH,mem_cons→aE,not_mem_nil→ep
open Nat renaming add_assoc→fH,zero_add→aW
open Option.some renaming injEq→aL
open Prod.mk renaming injEq→bg
namespace Go.Proofs.YtncfhbpejchbfaaGreatDoor
open Go.Lib
abbrev Sp:=Int×Int×Int
def EK (s:Sp):Prop:=0<=s.1/\s.1<=4294967295/\0<=s.2.1/\s.2.1<=4294967295/\0<=s.2.2/\s.2.2<=4294967295
def jN (a:List Nat):List UInt8:=a.flatMap jX
def runN (r:Rn):List Nat:=[r.c.toNat,r.k.toNat,r.lc.toNat,r.lk.toNat,r.rc.toNat,r.rk.toNat]
def kX (r:Rn):List UInt8:=jN (runN r)++sF r.t
def xD (s:Sp):List Nat:=[s.1.toNat,s.2.1.toNat,s.2.2.toNat]
def lK (s:Sp):List UInt8:=jN (xD s)
def nN (rs:List Rn) (ds:List Sp):List UInt8:=jX rs.length++rs.flatMap kX++jX ds.length++ds.flatMap lK
def lZ (l:List UInt8):Nat->Nat->Option (List Nat×Nat)
 |0,p=>some ([],p)
 |n+1,p=>match oQ l p with
  |none=>none
  |some (v,k)=>match lZ l n (p+k) with
   |none=>none
   |some (vs,q)=>some (v::vs,q)
def Jp (a:List Nat) (t:List UInt8):Rn:=⟨a.getD 0 0,a.getD 1 0,a.getD 2 0,a.getD 3 0,a.getD 4 0,a.getD 5 0,t⟩
def zT (a:List Nat):Sp:=(a.getD 0 0,a.getD 1 0,a.getD 2 0)
def vL (l:List UInt8) (p:Nat):Option (Rn×Nat):=match lZ l 6 p with
 |none=>none
 |some (vs,q)=>match xK l q with
  |none=>none
  |some (t,k)=>some (Jp vs t,q+k)
def nX (l:List UInt8):Nat->Nat->Option (List Rn×Nat)
 |0,p=>some ([],p)
 |n+1,p=>match vL l p with
  |none=>none
  |some (r,q)=>match nX l n q with
   |none=>none
   |some (rs,e)=>some (r::rs,e)
def mH (l:List UInt8):Nat->Nat->Option (List Sp×Nat)
 |0,p=>some ([],p)
 |n+1,p=>match lZ l 3 p with
  |none=>none
  |some (a,q)=>match mH l n q with
   |none=>none
   |some (ds,e)=>some (zT a::ds,e)
def parse (l:List UInt8):Option (List Rn×List Sp×Nat):=match oQ l 0 with
 |none=>none
 |some (m,p)=>match nX l m p with
  |none=>none
  |some (rs,q)=>match oQ l q with
   |none=>none
   |some (m',k)=>match mH l m' (q+k) with
    |none=>none
    |some (ds,e)=>some (rs,ds,e)
variable {l:List UInt8} {p:Nat} {r:Rn}
theorem Af (v:Nat) (a:List Nat):jN (v::a)=jX v++jN a:=by simp[jN]
theorem Ag:∀(f:List Nat) (a b:List UInt8),(∀v∈f,v<4294967296)->lZ (a++jN f++b) f.length a.length=some (f,a.length+(jN f).length)
 |[],a,b,_=>rfl
 |v::f,a,b,h=>by
  have q:=BX a (jN f++b) (h v (aH ..));have j:=Ag f (a++jX v) b λx i=>h x (aF _ i)
  have e:a++jN (v::f)++b=a++jX v++(jN f++b):=by rw[Af];simp
  have u:a++jX v++(jN f++b)=a++jX v++jN f++b:=ι
  rw[e,ar,lZ,q];simp only;rw[u,show a.length+(jX v).length=(a++jX v).length by simp,j];simp only[Af,ag];rw[fH]
theorem vB {n:Nat} {x:List UInt8} (a:x=(l.drop p).take n):l.take (p+n)=l.take p++x:=by rw[a,List.take_add]
theorem uI:∀{n:Nat} {l:List UInt8} {p q:Nat} {a:List Nat},p<=l.length->lZ l n p=some (a,q)->q<=l.length/\l.take q=l.take p++jN a/\a.length=n/\(∀v∈a,v<4294967296)/\p+n<=q
 |0,l,p,q,a,hp,h=>by
  simp only[lZ,aL,bg] at h;obtain⟨rfl,rfl⟩:=h;exact⟨hp,by simp[jN],rfl,ι,ω⟩
 |n+1,l,p,q,a,hp,h=>by
  rw[lZ] at h;cases i:oQ l p with
  |none=>rw[i] at h;cases h
  |some u=>
   obtain⟨v,k⟩:=u;rw[i] at h;simp only at h;obtain⟨I,H,M,_,z⟩:=sM i;cases f:lZ l n (p+k) with
   |none=>rw[f] at h;cases h
   |some j=>
    obtain⟨J,K⟩:=j;rw[f] at h;simp only[aL,bg] at h;obtain⟨rfl,rfl⟩:=h;obtain⟨c1,c2,c3,c4,c5⟩:=uI H f;refine⟨c1,?_,by simp[c3],?_,ω⟩
    ·rw[c2,vB I,Af,aK]
    ·intro x e
     rcases aE.1 e with rfl|e
     ·exact z
     ·exact c4 x e
theorem AJ {s:List UInt8} {n:Nat} (u:p<=l.length) (h:xK l p=some (s,n)):p+n<=l.length/\l.take (p+n)=l.take p++sF s/\validD s=true/\s.length<4294967296/\0<n:=by
 unfold xK at h;cases a:oQ l p with
 |none=>rw[a] at h;cases h
 |some f=>
  obtain⟨z,k⟩:=f;rw[a] at h;simp only[bJ] at h;obtain⟨q,I,H,_,j⟩:=sM a
  split at h
  ·cases h
  ·rename_i i
   split at h
   ·rename_i hv
    simp only[aL,bg] at h;obtain⟨rfl,rfl⟩:=h;rw[bk] at i;have e:((l.drop (p+k)).take z).length=z:=by rw[List.length_take,bk];omega
    refine⟨ω,?_,hv,by rw[e];exact j,ω⟩;rw[<-fH,vB rfl,vB q,sF,e,aK]
   ·cases h
theorem Yl (r:Rn):(runN r).length=6:=rfl
theorem UE (s:Sp):(xD s).length=3:=rfl
theorem abb (h:wfR r):∀v∈runN r,v<4294967296:=by
 unfold wfR at h;intro v hv;simp only[runN,aE,ep,or_false] at hv;omega
theorem X7 {s:Sp} (h:EK s):∀v∈xD s,v<4294967296:=by
 unfold EK at h;intro v hv;simp only[xD,aE,ep,or_false] at hv;omega
theorem aa9 (h:wfR r):Jp (runN r) r.t=r:=by
 unfold wfR at h;obtain⟨c,k,lc,lk,rc,rk,t⟩:=r;simp only at h;simp only[Jp,runN,cP,cY,Rn.mk.injEq,and_true];omega
theorem X6 {s:Sp} (h:EK s):zT (xD s)=s:=by
 unfold EK at h;obtain⟨x,y,z⟩:=s;simp only at h;simp only[zT,xD,cP,cY,bg];omega
def N9 (r:Rn):Prop:=wfR r/\validD r.t=true/\r.t.length<4294967296
theorem UR (h:N9 r) (a b:List UInt8):vL (a++kX r++b) a.length=some (r,a.length+(kX r).length):=by
 have f:=Ag (runN r) a (sF r.t++b) (abb h.1);have e:a++kX r++b=a++jN (runN r)++(sF r.t++b):=by rw[kX];simp
 have j:a++jN (runN r)++(sF r.t++b)=(a++jN (runN r))++sF r.t++b:=ι
 have i:=ZJ (a++jN (runN r)) b h.2.2 h.2.1;rw[Yl] at f;unfold vL;rw[e,f];simp only;rw[j,show a.length+(jN (runN r)).length=(a++jN (runN r)).length by simp,i];simp only[aa9 h.1,kX,ag];rw[fH]
theorem adS {l:List Nat} (h:l.length=6):∃a b c d e f,l=[a,b,c,d,e,f]:=by
 match l,h with
 |[a,b,c,d,e,f],_=>exact⟨a,b,c,d,e,f,rfl⟩
theorem adT {l:List Nat} (h:l.length=3):∃a b c,l=[a,b,c]:=by
 match l,h with
 |[a,b,c],_=>exact⟨a,b,c,rfl⟩
theorem F6 {q:Nat} (j:p<=l.length) (h:vL l p=some (r,q)):q<=l.length/\l.take q=l.take p++kX r/\N9 r/\p+7<=q:=by
 unfold vL at h;cases e:lZ l 6 p with
 |none=>rw[e] at h;cases h
 |some f=>
  obtain⟨J,i⟩:=f;rw[e] at h;simp only at h;obtain⟨I,H,z,u,K⟩:=uI j e;cases a:xK l i with
  |none=>rw[a] at h;cases h
  |some tk=>
   obtain⟨t,k⟩:=tk;rw[a] at h;simp only[aL,bg] at h;obtain⟨rfl,rfl⟩:=h;obtain⟨c1,c2,c3,c4,c5⟩:=AJ I a;obtain⟨x0,x1,x2,x3,x4,x5,rfl⟩:=adS z;simp only[aE,ep,or_false,forall_eq_or_imp,forall_eq] at u;refine⟨c1,?_,⟨?_,c3,c4⟩,ω⟩
   ·rw[c2,H,kX,aK]
    simp only[Jp,runN,cP,cY,bJ]
   ·unfold wfR Jp
    simp only[cP,cY];omega
theorem FW:∀(rs:List Rn) (a b:List UInt8),(∀r∈rs,N9 r)->nX (a++rs.flatMap kX++b) rs.length a.length=some (rs,a.length+(rs.flatMap kX).length)
 |[],a,b,_=>rfl
 |r::rs,a,b,h=>by
  have j:=UR (h r (aH ..)) a (rs.flatMap kX++b);have i:=FW rs (a++kX r) b λx f=>h x (aF _ f)
  have e:a++(r::rs).flatMap kX++b=a++kX r++(rs.flatMap kX++b):=ι
  have q:a++kX r++(rs.flatMap kX++b)=a++kX r++rs.flatMap kX++b:=ι
  rw[e,ar,nX,j];simp only;rw[q,show a.length+(kX r).length=(a++kX r).length by simp,i];simp only[eM,ag];rw[fH]
theorem Ej:∀{n:Nat} {l:List UInt8} {p q:Nat} {rs:List Rn},p<=l.length->nX l n p=some (rs,q)->q<=l.length/\l.take q=l.take p++rs.flatMap kX/\rs.length=n/\(∀r∈rs,N9 r)/\p+7*n<=q
 |0,l,p,q,rs,hp,h=>by
  simp only[nX,aL,bg] at h;obtain⟨rfl,rfl⟩:=h;exact⟨hp,ι,rfl,ι,ω⟩
 |n+1,l,p,q,rs,hp,h=>by
  rw[nX] at h;cases f:vL l p with
  |none=>rw[f] at h;cases h
  |some rk=>
   obtain⟨r,k⟩:=rk;rw[f] at h;simp only at h;obtain⟨z,u,j,J⟩:=F6 hp f;cases e:nX l n k with
   |none=>rw[e] at h;cases h
   |some i=>
    obtain⟨H,I⟩:=i;rw[e] at h;simp only[aL,bg] at h;obtain⟨rfl,rfl⟩:=h;obtain⟨c1,c2,c3,c4,c5⟩:=Ej z e;refine⟨c1,?_,by simp[c3],?_,ω⟩
    ·rw[c2,u,eM,aK]
    ·intro x a
     rcases aE.1 a with rfl|a
     ·exact j
     ·exact c4 x a
theorem Ef:∀(ds:List Sp) (a b:List UInt8),(∀s∈ds,EK s)->mH (a++ds.flatMap lK++b) ds.length a.length=some (ds,a.length+(ds.flatMap lK).length)
 |[],a,b,_=>rfl
 |s::ds,a,b,h=>by
  have f:=Ag (xD s) a (ds.flatMap lK++b) (X7 (h s (aH ..)));have j:=Ef ds (a++lK s) b λx i=>h x (aF _ i)
  have e:a++(s::ds).flatMap lK++b=a++jN (xD s)++(ds.flatMap lK++b):=by simp[lK]
  have q:a++jN (xD s)++(ds.flatMap lK++b)=a++lK s++ds.flatMap lK++b:=by simp[lK]
  rw[UE] at f;rw[e,ar,mH,f];simp only;rw[q,show a.length+(jN (xD s)).length=(a++lK s).length by simp[lK],j];simp only[eM,ag,X6 (h s (aH ..))];rw[fH]
theorem Bn:∀{n:Nat} {l:List UInt8} {p q:Nat} {ds:List Sp},p<=l.length->mH l n p=some (ds,q)->q<=l.length/\l.take q=l.take p++ds.flatMap lK/\ds.length=n/\(∀s∈ds,EK s)/\p+3*n<=q
 |0,l,p,q,rs,hp,h=>by
  simp only[mH,aL,bg] at h;obtain⟨rfl,rfl⟩:=h;exact⟨hp,ι,rfl,ι,ω⟩
 |n+1,l,p,q,rs,hp,h=>by
  rw[mH] at h;cases f:lZ l 3 p with
  |none=>rw[f] at h;cases h
  |some rk=>
   obtain⟨J,k⟩:=rk;rw[f] at h;simp only at h;obtain⟨H,z,u,j,M⟩:=uI hp f;obtain⟨x0,x1,x2,rfl⟩:=adT u;simp only[aE,ep,or_false,forall_eq_or_imp,forall_eq] at j;cases e:mH l n k with
   |none=>rw[e] at h;cases h
   |some i=>
    obtain⟨I,K⟩:=i;rw[e] at h;simp only[aL,bg] at h;obtain⟨rfl,rfl⟩:=h;obtain⟨c1,c2,c3,c4,c5⟩:=Bn H e;refine⟨c1,?_,by simp[c3],?_,ω⟩
    ·rw[c2,z,eM,aK]
     simp only[lK,xD,zT,cP,cY,bJ]
    ·intro x a
     rcases aE.1 a with rfl|a
     ·unfold EK zT
      simp only[cP,cY];omega
     ·exact c4 x a
theorem U7 {rs:List Rn} {ds:List Sp} (e:∀r∈rs,N9 r) (f:∀s∈ds,EK s) (j:rs.length<4294967296) (i:ds.length<4294967296) (b:List UInt8):parse (nN rs ds++b)=some (rs,ds,(nN rs ds).length):=by
 have K:nN rs ds++b=[]++jX rs.length++(rs.flatMap kX++(jX ds.length++(ds.flatMap lK++b))):=by simp[nN]
 have a:=BX [] (rs.flatMap kX++(jX ds.length++(ds.flatMap lK++b))) j;have J:[]++jX rs.length++(rs.flatMap kX++(jX ds.length++(ds.flatMap lK++b)))=jX rs.length++rs.flatMap kX++(jX ds.length++(ds.flatMap lK++b)):=ι
 have z:=FW rs (jX rs.length) (jX ds.length++(ds.flatMap lK++b)) e;have I:jX rs.length++rs.flatMap kX++(jX ds.length++(ds.flatMap lK++b))=(jX rs.length++rs.flatMap kX)++jX ds.length++(ds.flatMap lK++b):=ι
 have u:=BX (jX rs.length++rs.flatMap kX) (ds.flatMap lK++b) i;have H:(jX rs.length++rs.flatMap kX)++jX ds.length++(ds.flatMap lK++b)=(jX rs.length++rs.flatMap kX++jX ds.length)++ds.flatMap lK++b:=ι
 have q:=Ef ds (jX rs.length++rs.flatMap kX++jX ds.length) b f;unfold parse;rw[List.length_nil] at a;rw[K,show(0:Int)=((0:Nat):Int) from rfl,a];simp only;rw[J,z];simp only;rw[I,show(jX rs.length).length+(rs.flatMap kX).length=(jX rs.length++rs.flatMap kX).length by simp,u];simp only;rw[H,show(jX rs.length++rs.flatMap kX).length+(jX ds.length).length=(jX rs.length++rs.flatMap kX++jX ds.length).length from(ag ..).symm,q];simp only[nN,ag]
theorem Ae {rs:List Rn} {ds:List Sp} {e:Nat} (h:parse l=some (rs,ds,e)):e<=l.length/\l.take e=nN rs ds/\(∀r∈rs,N9 r)/\(∀s∈ds,EK s)/\7*rs.length+3*ds.length+2<=e:=by
 unfold parse at h;cases j:oQ l 0 with
 |none=>rw[j] at h;cases h
 |some J=>
  obtain⟨m,p⟩:=J;rw[j] at h;simp only at h;obtain⟨a1,z,a3,_,a5⟩:=sM (p:=0) j;rw[aW] at z;cases i:nX l m p with
  |none=>rw[i] at h;cases h
  |some I=>
   obtain⟨H,q⟩:=I;rw[i] at h;simp only at h;obtain⟨b1,Z,Y,X,b5⟩:=Ej z i;cases f:oQ l q with
   |none=>rw[f] at h;cases h
   |some mk=>
    obtain⟨K,k⟩:=mk;rw[f] at h;simp only at h;obtain⟨c1,c2,c3,_,c5⟩:=sM f;cases a:mH l K (q+k) with
    |none=>rw[a] at h;cases h
    |some N=>
     obtain⟨M,e'⟩:=N;rw[a] at h;simp only[aL,bg] at h;obtain⟨rfl,rfl,rfl⟩:=h;obtain⟨W,U,Q,O,d5⟩:=Bn c2 a;refine⟨W,?_,X,O,ω⟩;have u:=vB (p:=0) a1;rw[aW,List.take_zero,List.nil_append] at u;rw[U,vB c1,Z,u,nN,Y,Q]
end Go.Proofs.YtncfhbpejchbfaaGreatDoor

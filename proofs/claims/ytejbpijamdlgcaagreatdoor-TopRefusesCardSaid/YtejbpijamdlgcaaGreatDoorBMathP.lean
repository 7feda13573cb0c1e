/-
  aiG as bytes, in plain lists: no memory; no claim stands here.
-/
import Derived.Test.YtejbpijamdlgcaaGreatDoorWMathP
import Derived.Test.YtejbpijamdlgcaaGreatDoorPMn1
set_option linter.unusedVariables false
set_option linter.unusedSimpArgs false
open Int renaming toNat_natCast→dx
open List renaming append_assoc→aY,flatMap_cons→mJ,getD_cons_succ→fO,getD_cons_zero→fM,length_drop→bP,mem_cons→aS,not_mem_nil→jk
open Nat renaming zero_add→bH
open Option.some renaming injEq→bJ
open Prod.mk renaming injEq→dI
namespace Go.Proofs.YtejbpijamdlgcaaGreatDoor
open Go.Lib
abbrev Sp:=Int×Int×Int
def Y2 (s:Sp):Prop:=0<=s.1/\s.1<=4294967295/\0<=s.2.1/\s.2.1<=4294967295/\0<=s.2.2/\s.2.2<=4294967295
def oU (a:List Nat):List UInt8:=a.flatMap vT
def runN (r:Rn):List Nat:=[r.c.toNat,r.k.toNat,r.lc.toNat,r.lk.toNat,r.rc.toNat,r.rk.toNat]
def yw (r:Rn):List UInt8:=oU (runN r)++FV r.t
def aeG (s:Sp):List Nat:=[s.1.toNat,s.2.1.toNat,s.2.2.toNat]
def Eu (s:Sp):List UInt8:=oU (aeG s)
def Ap (rs:List Rn) (ds:List Sp):List UInt8:=vT rs.length++rs.flatMap yw++vT ds.length++ds.flatMap Eu
def qZ (l:List UInt8):Nat->Nat->Option (List Nat×Nat)
 |0,p=>some ([],p)
 |n+1,p=>match uJ l p with
  |none=>none
  |some (v,k)=>match qZ l n (p+k) with
   |none=>none
   |some (vs,q)=>some (v::vs,q)
def Vj (a:List Nat) (t:List UInt8):Rn:=⟨a.getD 0 0,a.getD 1 0,a.getD 2 0,a.getD 3 0,a.getD 4 0,a.getD 5 0,t⟩
def IZ (a:List Nat):Sp:=(a.getD 0 0,a.getD 1 0,a.getD 2 0)
def Bq (l:List UInt8) (p:Nat):Option (Rn×Nat):=match qZ l 6 p with
 |none=>none
 |some (vs,q)=>match Dp l q with
  |none=>none
  |some (t,k)=>some (Vj vs t,q+k)
def uF (l:List UInt8):Nat->Nat->Option (List Rn×Nat)
 |0,p=>some ([],p)
 |n+1,p=>match Bq l p with
  |none=>none
  |some (r,q)=>match uF l n q with
   |none=>none
   |some (rs,e)=>some (r::rs,e)
def sG (l:List UInt8):Nat->Nat->Option (List Sp×Nat)
 |0,p=>some ([],p)
 |n+1,p=>match qZ l 3 p with
  |none=>none
  |some (a,q)=>match sG l n q with
   |none=>none
   |some (ds,e)=>some (IZ a::ds,e)
def parse (l:List UInt8):Option (List Rn×List Sp×Nat):=match uJ l 0 with
 |none=>none
 |some (m,p)=>match uF l m p with
  |none=>none
  |some (rs,q)=>match uJ l q with
   |none=>none
   |some (m',k)=>match sG l m' (q+k) with
    |none=>none
    |some (ds,e)=>some (rs,ds,e)
variable {l:List UInt8} {p:Nat}
theorem TA (v:Nat) (a:List Nat):oU (v::a)=vT v++oU a:=by simp[oU]
theorem za {n:Nat} {x:List UInt8} (a:x=(l.drop p).take n):l.take (p+n)=l.take p++x:=by rw[a,List.take_add]
theorem yH:∀{n:Nat} {l:List UInt8} {p q:Nat} {a:List Nat},p<=l.length->qZ l n p=some (a,q)->q<=l.length/\l.take q=l.take p++oU a/\a.length=n/\(∀v∈a,v<4294967296)/\p+n<=q
 |0,l,p,q,a,hp,h=>by
  simp only[qZ,bJ,dI] at h;obtain⟨rfl,rfl⟩:=h;exact⟨hp,by simp[oU],rfl,ι,ω⟩
 |n+1,l,p,q,a,hp,h=>by
  rw[qZ] at h;cases i:uJ l p with
  |none=>rw[i] at h;cases h
  |some u=>
   obtain⟨v,k⟩:=u;rw[i] at h;simp only at h;obtain⟨I,H,M,_,z⟩:=xB i;cases f:qZ l n (p+k) with
   |none=>rw[f] at h;cases h
   |some j=>
    obtain⟨J,K⟩:=j;rw[f] at h;simp only[bJ,dI] at h;obtain⟨rfl,rfl⟩:=h;obtain⟨c1,c2,c3,c4,c5⟩:=yH H f;refine⟨c1,?_,by simp[c3],?_,ω⟩
    ·rw[c2,za I,TA,aY]
    ·intro x e
     rcases aS.1 e with rfl|e
     ·exact z
     ·exact c4 x e
theorem D9 {s:List UInt8} {n:Nat} (u:p<=l.length) (h:Dp l p=some (s,n)):p+n<=l.length/\l.take (p+n)=l.take p++FV s/\validD s=true/\s.length<4294967296/\0<n:=by
 unfold Dp at h;cases a:uJ l p with
 |none=>rw[a] at h;cases h
 |some f=>
  obtain⟨z,k⟩:=f;rw[a] at h;simp only[dx] at h;obtain⟨q,I,H,_,j⟩:=xB a
  split at h
  ·cases h
  ·rename_i i
   split at h
   ·rename_i hv
    simp only[bJ,dI] at h;obtain⟨rfl,rfl⟩:=h;rw[bP] at i;have e:((l.drop (p+k)).take z).length=z:=by rw[List.length_take,bP];omega
    refine⟨ω,?_,hv,by rw[e];exact j,ω⟩;rw[<-Nat.add_assoc,za rfl,za q,FV,e,aY]
   ·cases h
theorem aiE {r:Rn} (h:wfR r):∀v∈runN r,v<4294967296:=by
 unfold wfR at h;intro v hv;simp only[runN,aS,jk,or_false] at hv;omega
def acW (r:Rn):Prop:=wfR r/\validD r.t=true/\r.t.length<4294967296
theorem afA {l:List Nat} (h:l.length=6):∃a b c d e f,l=[a,b,c,d,e,f]:=by
 match l,h with
 |[a,b,c,d,e,f],_=>exact⟨a,b,c,d,e,f,rfl⟩
theorem afB {l:List Nat} (h:l.length=3):∃a b c,l=[a,b,c]:=by
 match l,h with
 |[a,b,c],_=>exact⟨a,b,c,rfl⟩
theorem Jg {q:Nat} {r:Rn} (j:p<=l.length) (h:Bq l p=some (r,q)):q<=l.length/\l.take q=l.take p++yw r/\acW r/\p+7<=q:=by
 unfold Bq at h;cases e:qZ l 6 p with
 |none=>rw[e] at h;cases h
 |some f=>
  obtain⟨J,i⟩:=f;rw[e] at h;simp only at h;obtain⟨I,H,z,u,K⟩:=yH j e;cases a:Dp l i with
  |none=>rw[a] at h;cases h
  |some tk=>
   obtain⟨t,k⟩:=tk;rw[a] at h;simp only[bJ,dI] at h;obtain⟨rfl,rfl⟩:=h;obtain⟨c1,c2,c3,c4,c5⟩:=D9 I a;obtain⟨x0,x1,x2,x3,x4,x5,rfl⟩:=afA z;simp only[aS,jk,or_false,forall_eq_or_imp,forall_eq] at u;refine⟨c1,?_,⟨?_,c3,c4⟩,ω⟩
   ·rw[c2,H,yw,aY]
    simp only[Vj,runN,fM,fO,dx]
   ·unfold wfR Vj
    simp only[fM,fO];omega
theorem GZ:∀{n:Nat} {l:List UInt8} {p q:Nat} {rs:List Rn},p<=l.length->uF l n p=some (rs,q)->q<=l.length/\l.take q=l.take p++rs.flatMap yw/\rs.length=n/\(∀r∈rs,acW r)/\p+7*n<=q
 |0,l,p,q,rs,hp,h=>by
  simp only[uF,bJ,dI] at h;obtain⟨rfl,rfl⟩:=h;exact⟨hp,ι,rfl,ι,ω⟩
 |n+1,l,p,q,rs,hp,h=>by
  rw[uF] at h;cases f:Bq l p with
  |none=>rw[f] at h;cases h
  |some rk=>
   obtain⟨r,k⟩:=rk;rw[f] at h;simp only at h;obtain⟨z,u,j,J⟩:=Jg hp f;cases e:uF l n k with
   |none=>rw[e] at h;cases h
   |some i=>
    obtain⟨H,I⟩:=i;rw[e] at h;simp only[bJ,dI] at h;obtain⟨rfl,rfl⟩:=h;obtain⟨c1,c2,c3,c4,c5⟩:=GZ z e;refine⟨c1,?_,by simp[c3],?_,ω⟩
    ·rw[c2,u,mJ,aY]
    ·intro x a
     rcases aS.1 a with rfl|a
     ·exact j
     ·exact c4 x a
theorem Et:∀{n:Nat} {l:List UInt8} {p q:Nat} {ds:List Sp},p<=l.length->sG l n p=some (ds,q)->q<=l.length/\l.take q=l.take p++ds.flatMap Eu/\ds.length=n/\(∀s∈ds,Y2 s)/\p+3*n<=q
 |0,l,p,q,rs,hp,h=>by
  simp only[sG,bJ,dI] at h;obtain⟨rfl,rfl⟩:=h;exact⟨hp,ι,rfl,ι,ω⟩
 |n+1,l,p,q,rs,hp,h=>by
  rw[sG] at h;cases f:qZ l 3 p with
  |none=>rw[f] at h;cases h
  |some rk=>
   obtain⟨J,k⟩:=rk;rw[f] at h;simp only at h;obtain⟨H,z,u,j,M⟩:=yH hp f;obtain⟨x0,x1,x2,rfl⟩:=afB u;simp only[aS,jk,or_false,forall_eq_or_imp,forall_eq] at j;cases e:sG l n k with
   |none=>rw[e] at h;cases h
   |some i=>
    obtain⟨I,K⟩:=i;rw[e] at h;simp only[bJ,dI] at h;obtain⟨rfl,rfl⟩:=h;obtain⟨c1,c2,c3,c4,c5⟩:=Et H e;refine⟨c1,?_,by simp[c3],?_,ω⟩
    ·rw[c2,z,mJ,aY]
     simp only[Eu,aeG,IZ,fM,fO,dx]
    ·intro x a
     rcases aS.1 a with rfl|a
     ·unfold Y2 IZ
      simp only[fM,fO];omega
     ·exact c4 x a
theorem DU {rs:List Rn} {ds:List Sp} {e:Nat} (h:parse l=some (rs,ds,e)):e<=l.length/\l.take e=Ap rs ds/\(∀r∈rs,acW r)/\(∀s∈ds,Y2 s)/\7*rs.length+3*ds.length+2<=e:=by
 unfold parse at h;cases j:uJ l 0 with
 |none=>rw[j] at h;cases h
 |some J=>
  obtain⟨m,p⟩:=J;rw[j] at h;simp only at h;obtain⟨a1,z,a3,_,a5⟩:=xB (p:=0) j;rw[bH] at z;cases i:uF l m p with
  |none=>rw[i] at h;cases h
  |some I=>
   obtain⟨H,q⟩:=I;rw[i] at h;simp only at h;obtain⟨b1,Z,Y,X,b5⟩:=GZ z i;cases f:uJ l q with
   |none=>rw[f] at h;cases h
   |some mk=>
    obtain⟨K,k⟩:=mk;rw[f] at h;simp only at h;obtain⟨c1,c2,c3,_,c5⟩:=xB f;cases a:sG l K (q+k) with
    |none=>rw[a] at h;cases h
    |some N=>
     obtain⟨M,e'⟩:=N;rw[a] at h;simp only[bJ,dI] at h;obtain⟨rfl,rfl,rfl⟩:=h;obtain⟨W,U,Q,O,d5⟩:=Et c2 a;refine⟨W,?_,X,O,ω⟩;have u:=za (p:=0) a1;rw[bH,List.take_zero,List.nil_append] at u;rw[U,za c1,Z,u,Ap,Y,Q]
end Go.Proofs.YtejbpijamdlgcaaGreatDoor

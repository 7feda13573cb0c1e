/-
  Which aiF may be, in plain lists: no memory; no claim stands here.
-/
import Derived.Test.YtejbpijamdlgcaaGreatDoorBMathP
import Derived.Test.YtejbpijamdlgcaaGreatDoorRMathP
set_option linter.unusedVariables false
set_option linter.unusedSimpArgs false
open Bool renaming and_eq_true→aQ
open List renaming all_cons→jS,cons_append→aV,length_append→ay,length_cons→aH,nil_append→bB
open Option.some renaming injEq→bJ
namespace Go.Proofs.YtejbpijamdlgcaaGreatDoor
open Go.Lib
def YH (x y:It):Bool:=decide (x.c<y.c\/x.c=y.c/\x.k<y.k)
def Oh:List It->Bool
 |[]=>true
 |x::l=>match l with
  |[]=>true
  |y::_=>YH x y&&Oh l
def uS (r:Rn):Int:=r.k+(oJ r.t).length-1
def Lu (r s:Rn):Bool:=decide (r.c<s.c\/r.c=s.c/\uS r<s.k)
def onR (r s:Rn):Bool:=decide (r.c≠0/\uS r+1<=4294967294/\s.c=r.c/\s.k=uS r+1/\s.lc=r.c/\s.lk=uS r/\s.rc=r.rc/\s.rk=r.rk)
def zl (p:Rn->Rn->Bool):List Rn->Bool
 |[]=>true
 |r::l=>match l with
  |[]=>true
  |s::_=>p r s&&zl p l
def Ia (rs:List Rn) (ds:List Sp):Bool:=rs.all rW&&Oh (nY rs)&&decide ((pO (nY rs)).length=rs.length)&&oC zS ds
theorem sV (c k lc lk rc rk:Int) (v:Nat) (a:List Nat):pF c k lc lk rc rk (v::a)=⟨c,k,lc,lk,rc,rk,(v:Int)⟩::pF c (k+1) c k rc rk a:=rfl
theorem Iq (x y:It) (l:List It):Oh (x::y::l)=(YH x y&&Oh (y::l)):=rfl
theorem aa8 (c rc rk:Int) (y:It) (M:List It):∀(a:List Nat) (v:Nat) (k lc lk:Int),Oh (pF c k lc lk rc rk (v::a)++y::M)=(decide (c<y.c\/c=y.c/\k+a.length<y.k)&&Oh (y::M))
 |[],v,k,lc,lk=>by
  rw[sV];simp only[pF,aV,bB,Iq,YH,List.length_nil,Int.natCast_zero,Int.add_zero]
 |e::a,v,k,lc,lk=>by
  have ih:=aa8 c rc rk y M a e (k+1) c k;rw[sV,aV];rw[sV,aV,Iq];rw[sV,aV] at ih;rw[ih,aH];have:YH ⟨c,k,lc,lk,rc,rk,(v:Int)⟩ ⟨c,k+1,c,k,rc,rk,(e:Int)⟩=true:=by unfold YH;simp;omega
  rw[this,Bool.true_and]
  congr 2
  rw[show k+1+(a.length:Int)=k+((a.length+1:Nat):Int) by omega]
theorem J9 (c rc rk:Int):∀(a:List Nat) (v:Nat) (k lc lk:Int),Oh (pF c k lc lk rc rk (v::a))=true
 |[],v,k,lc,lk=>rfl
 |v'::a,v,k,lc,lk=>by
  have ih:=J9 c rc rk a v' (k+1) c k;rw[sV];rw[sV,Iq];rw[sV] at ih;rw[ih,Bool.and_true];unfold YH;simp;omega
theorem Gz (b:Bool) (x:It) (rs:List Rn) (h:b=true->rs≠[]):(KG b x rs).length=rs.length+if b then 0 else 1:=by
 cases rs with
 |nil=>
  cases b with
  |true=>exact absurd rfl (h rfl)
  |false=>rfl
 |cons r rs=>
  rw[xU];cases b <;> simp
theorem ac5 (c k rc rk lc lk f e:Int) (a b:Int) (j:c≠0) (i:k+1<=4294967294):onI ⟨c,k,lc,lk,rc,rk,a⟩ ⟨c,k+1,c,k,rc,rk,b⟩=true:=by
 unfold onI;rw[decide_eq_true_eq];exact⟨j,i,rfl,rfl,rfl,rfl,rfl,rfl⟩
theorem MB {x:It} {M:List It} (h:vU x M=true):M≠[]:=by rintro rfl;cases h
theorem OY (c rc rk:Int) (M:List It) (f:c≠0):∀(a:List Nat) (v:Nat) (k lc lk:Int),k+a.length<=4294967294->
  ∃z,z.c=c/\z.k=k+a.length/\z.rc=rc/\z.rk=rk/\(pO (pF c k lc lk rc rk (v::a)++M)).length=(pO M).length+if vU z M then 0 else 1
 |[],v,k,lc,lk,_=>by
  refine⟨⟨c,k,lc,lk,rc,rk,(v:Int)⟩,rfl,ι,rfl,rfl,?_⟩;rw[sV];simp only[pF,aV,bB];rw[vP,Gz];intro h;exact Oc (MB h)
 |e::a,v,k,lc,lk,hk=>by
  rw[aH] at hk;obtain⟨z,I,H,u,q,j⟩:=OY c rc rk M f a e (k+1) c k ω;refine⟨z,I,by rw[H,aH];omega,u,q,?_⟩;rw[sV,aV,vP];have i:vU ⟨c,k,lc,lk,rc,rk,(v:Int)⟩ (pF c (k+1) c k rc rk (e::a)++M)=true:=by
   rw[sV,aV];exact ac5 c k rc rk lc lk 0 0 _ _ f ω
  rw[Gz _ _ _ (λ_=>Oc (MB i)),i,j];simp
theorem DX {r:Rn} (h:rW r=true):∃v a,oJ r.t=v::a/\r.c≠0/\r.k+a.length<=4294967294/\uS r=r.k+a.length/\rX r=pF r.c r.k r.lc r.lk r.rc r.rk (v::a)/\validD r.t=true:=by
 unfold rW at h;rw[decide_eq_true_eq] at h;obtain⟨q,f,j,i⟩:=h;cases e:oJ r.t with
 |nil=>rw[e] at f;simp at f
 |cons v a=>
  rw[e,aH] at i;refine⟨v,a,rfl,j,ω,?_,by rw[rX,e],q⟩;unfold uS;rw[e,aH];omega
theorem Ey (p:Rn->Rn->Bool) (r s:Rn) (l:List Rn):zl p (r::s::l)=(p r s&&zl p (s::l)):=rfl
theorem JV {s:Rn} (h:rW s=true) (l:List Rn):∃y M,nY (s::l)=y::M/\y.c=s.c/\y.k=s.k/\y.lc=s.lc/\y.lk=s.lk/\y.rc=s.rc/\y.rk=s.rk:=by
 obtain⟨v,a,_,_,_,_,e,_⟩:=DX h;exact⟨_,_,by rw[um,e,sV,aV],rfl,rfl,rfl,rfl,rfl,rfl⟩
theorem Qo:∀(rs:List Rn),rs.all rW=true->Oh (nY rs)=zl Lu rs
 |[],_=>rfl
 |[r],h=>by
  obtain⟨v,i,_,_,_,_,e,_⟩:=DX (r:=r) (by simpa using h);rw[MV,e,J9];rfl
 |r::s::l,h=>by
  rw[jS,aQ] at h;obtain⟨v,i,_,_,_,u,e,_⟩:=DX h.1;have q:rW s=true:=by have:=h.2;rw[jS,aQ] at this;exact this.1
  obtain⟨y,M,j,f,a,_⟩:=JV q l;have ih:=Qo (s::l) h.2;rw[um,Ey,<-ih,e,j,aa8,Lu,u,f,a]
theorem LV:∀(rs:List Rn),rs.all rW=true->(pO (nY rs)).length<=rs.length/\decide ((pO (nY rs)).length=rs.length)=zl (λr s=> !onR r s) rs
 |[],_=>⟨by simp[nY,pO],by simp[nY,pO,zl]⟩
 |[r],h=>by
  obtain⟨v,i,_,H,u,_,e,_⟩:=DX (r:=r) (by simpa using h);obtain⟨z,_,_,_,_,f⟩:=OY r.c r.rc r.rk [] H i v r.k r.lc r.lk u;rw[List.append_nil] at f;rw[MV,e,f];exact⟨by simp[pO,vU],by simp[pO,vU,zl]⟩
 |r::s::l,h=>by
  rw[jS,aQ] at h;obtain⟨v,i,_,H,u,hl,e,_⟩:=DX h.1;have hs:rW s=true:=by have:=h.2;rw[jS,aQ] at this;exact this.1
  obtain⟨y,M,Z,Y,X,W,U,Q,O⟩:=JV hs l;obtain⟨a,j⟩:=LV (s::l) h.2;obtain⟨z,N,K,J,I,f⟩:=OY r.c r.rc r.rk (nY (s::l)) H i v r.k r.lc r.lk u;have q:vU z (nY (s::l))=onR r s:=by
   rw[Z];show onI z y=onR r s;unfold onI onR;rw[N,K,J,I,Y,X,W,U,Q,O,hl]
  rw[um,e,f,q];rw[Ey,<-j];refine⟨?_,?_⟩
  ·simp only[aH] at a⊢
   split <;> omega
  ·cases onR r s with
   |true=>
    simp only[aH] at a⊢;simp;omega
   |false=>simp
theorem Xx (rs:List Rn) (ds:List Sp):Ia rs ds=(rs.all rW&&zl Lu rs&&zl (λr s=> !onR r s) rs&&oC zS ds):=by
 unfold Ia;cases h:rs.all rW with
 |false=>rfl
 |true=>rw[Qo rs h,(LV rs h).2]
def uo (l:List UInt8):Option (List Rn×List Sp):=if 20000<l.length then none else match parse l with
 |none=>none
 |some (rs,ds,e)=>if e=l.length/\Ia rs ds=true then some (rs,ds) else none
theorem Hw {l:List UInt8} {rs:List Rn} {ds:List Sp} (h:uo l=some (rs,ds)):Ap rs ds=l/\Ia rs ds=true/\(∀r∈rs,acW r)/\(∀s∈ds,Y2 s)/\l.length<=20000:=by
 unfold uo at h
 split at h
 ·cases h
 ·rename_i H
  cases a:parse l with
  |none=>rw[a] at h;cases h
  |some x=>
   obtain⟨j,q,e⟩:=x;rw[a] at h;simp only at h
   split at h
   ·rename_i f
    simp only[bJ,Prod.mk.injEq] at h;obtain⟨rfl,rfl⟩:=h;obtain⟨I,i,z,u,_⟩:=DU a;rw[f.1,List.take_length] at i;exact⟨i.symm,f.2,z,u,ω⟩
   ·cases h
theorem aaA (rs:List Rn) (ds:List Sp):(nY rs).length<=(Ap rs ds).length:=by
 have h:∀l:List Rn,(nY l).length<=(l.flatMap yw).length:=by
  intro l
  induction l with
  |nil=>simp[nY]
  |cons r l ih=>
   rw[um,ay,List.flatMap_cons,ay];have e:(rX r).length<=r.t.length:=by rw[rX,wF];exact xI _
   have a:r.t.length<=(yw r).length:=by rw[yw,FV];simp only[ay];omega
   omega
 have:=h rs;rw[Ap];simp only[ay];omega
end Go.Proofs.YtejbpijamdlgcaaGreatDoor

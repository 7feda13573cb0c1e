/-
  Which batches may be, in plain lists: no memory; no claim stands here.
-/
import Derived.Test.YtncfhbpejchbfaaGreatDoorBMathP
import Derived.Test.YtncfhbpejchbfaaGreatDoorRMathP
set_option linter.unusedVariables false
set_option linter.unusedSimpArgs false
open Bool renaming and_eq_true→aC
open List renaming all_cons→fR,append_nil→bB,cons_append→aJ,length_append→ag,length_cons→ar,nil_append→aR
open Option.some renaming injEq→aL
namespace Go.Proofs.YtncfhbpejchbfaaGreatDoor
open Go.Lib
def WX (x y:It):Bool:=decide (x.c<y.c\/x.c=y.c/\x.k<y.k)
def Le:List It->Bool
 |[]=>true
 |x::l=>match l with
  |[]=>true
  |y::_=>WX x y&&Le l
def pW (r:Rn):Int:=r.k+(jK r.t).length-1
def I7 (r s:Rn):Bool:=decide (r.c<s.c\/r.c=s.c/\pW r<s.k)
def onR (r s:Rn):Bool:=decide (r.c≠0/\pW r+1<=4294967294/\s.c=r.c/\s.k=pW r+1/\s.lc=r.c/\s.lk=pW r/\s.rc=r.rc/\s.rk=r.rk)
def vH (p:Rn->Rn->Bool):List Rn->Bool
 |[]=>true
 |r::l=>match l with
  |[]=>true
  |s::_=>p r s&&vH p l
def wR (rs:List Rn) (ds:List Sp):Bool:=rs.all mZ&&Le (jr rs)&&decide ((ko (jr rs)).length=rs.length)&&jE zS ds
variable {ds:List Sp} {rs:List Rn}
theorem nG (c k lc lk rc rk:Int) (v:Nat) (a:List Nat):jT c k lc lk rc rk (v::a)=⟨c,k,lc,lk,rc,rk,(v:Int)⟩::jT c (k+1) c k rc rk a:=rfl
theorem E8 (x y:It) (l:List It):Le (x::y::l)=(WX x y&&Le (y::l)):=rfl
theorem ZC (c rc rk:Int) (y:It) (M:List It):∀(a:List Nat) (v:Nat) (k lc lk:Int),Le (jT c k lc lk rc rk (v::a)++y::M)=(decide (c<y.c\/c=y.c/\k+a.length<y.k)&&Le (y::M))
 |[],v,k,lc,lk=>by
  rw[nG];simp only[jT,aJ,aR,E8,WX,List.length_nil,Int.natCast_zero,Int.add_zero]
 |e::a,v,k,lc,lk=>by
  have ih:=ZC c rc rk y M a e (k+1) c k;rw[nG,aJ];rw[nG,aJ,E8];rw[nG,aJ] at ih;rw[ih,ar];have:WX ⟨c,k,lc,lk,rc,rk,(v:Int)⟩ ⟨c,k+1,c,k,rc,rk,(e:Int)⟩=true:=by unfold WX;simp;omega
  rw[this,Bool.true_and]
  congr 2
  rw[show k+1+(a.length:Int)=k+((a.length+1:Nat):Int) by omega]
theorem HY (c rc rk:Int):∀(a:List Nat) (v:Nat) (k lc lk:Int),Le (jT c k lc lk rc rk (v::a))=true
 |[],v,k,lc,lk=>rfl
 |v'::a,v,k,lc,lk=>by
  have ih:=HY c rc rk a v' (k+1) c k;rw[nG];rw[nG,E8];rw[nG] at ih;rw[ih,Bool.and_true];unfold WX;simp;omega
theorem DY (b:Bool) (x:It) (rs:List Rn) (h:b=true->rs≠[]):(Il b x rs).length=rs.length+if b then 0 else 1:=by
 cases rs with
 |nil=>
  cases b with
  |true=>exact absurd rfl (h rfl)
  |false=>rfl
 |cons r rs=>
  rw[tK];cases b <;> simp
theorem abp (c k rc rk lc lk f e:Int) (a b:Int) (j:c≠0) (i:k+1<=4294967294):onI ⟨c,k,lc,lk,rc,rk,a⟩ ⟨c,k+1,c,k,rc,rk,b⟩=true:=by
 unfold onI;rw[decide_eq_true_eq];exact⟨j,i,rfl,rfl,rfl,rfl,rfl,rfl⟩
theorem Jy {x:It} {M:List It} (h:qO x M=true):M≠[]:=by rintro rfl;cases h
theorem MG (c rc rk:Int) (M:List It) (f:c≠0):∀(a:List Nat) (v:Nat) (k lc lk:Int),k+a.length<=4294967294->
  ∃z,z.c=c/\z.k=k+a.length/\z.rc=rc/\z.rk=rk/\(ko (jT c k lc lk rc rk (v::a)++M)).length=(ko M).length+if qO z M then 0 else 1
 |[],v,k,lc,lk,_=>by
  refine⟨⟨c,k,lc,lk,rc,rk,(v:Int)⟩,rfl,ι,rfl,rfl,?_⟩;rw[nG];simp only[jT,aJ,aR];rw[qJ,DY];intro h;exact KZ (Jy h)
 |e::a,v,k,lc,lk,hk=>by
  rw[ar] at hk;obtain⟨z,I,H,u,q,j⟩:=MG c rc rk M f a e (k+1) c k ω;refine⟨z,I,by rw[H,ar];omega,u,q,?_⟩;rw[nG,aJ,qJ];have i:qO ⟨c,k,lc,lk,rc,rk,(v:Int)⟩ (jT c (k+1) c k rc rk (e::a)++M)=true:=by
   rw[nG,aJ];exact abp c k rc rk lc lk 0 0 _ _ f ω
  rw[DY _ _ _ (λ_=>KZ (Jy i)),i,j];simp
theorem yx {r:Rn} (h:mZ r=true):∃v a,jK r.t=v::a/\r.c≠0/\r.k+a.length<=4294967294/\pW r=r.k+a.length/\mF r=jT r.c r.k r.lc r.lk r.rc r.rk (v::a)/\validD r.t=true:=by
 unfold mZ at h;rw[decide_eq_true_eq] at h;obtain⟨q,f,j,i⟩:=h;cases e:jK r.t with
 |nil=>rw[e] at f;simp at f
 |cons v a=>
  rw[e,ar] at i;refine⟨v,a,rfl,j,ω,?_,by rw[mF,e],q⟩;unfold pW;rw[e,ar];omega
theorem Bq (p:Rn->Rn->Bool) (r s:Rn) (l:List Rn):vH p (r::s::l)=(p r s&&vH p (s::l)):=rfl
theorem G8 {s:Rn} (h:mZ s=true) (l:List Rn):∃y M,jr (s::l)=y::M/\y.c=s.c/\y.k=s.k/\y.lc=s.lc/\y.lk=s.lk/\y.rc=s.rc/\y.rk=s.rk:=by
 obtain⟨v,a,_,_,_,_,e,_⟩:=yx h;exact⟨_,_,by rw[ni,e,nG,aJ],rfl,rfl,rfl,rfl,rfl,rfl⟩
theorem NW:∀(rs:List Rn),rs.all mZ=true->Le (jr rs)=vH I7 rs
 |[],_=>rfl
 |[r],h=>by
  obtain⟨v,i,_,_,_,_,e,_⟩:=yx (r:=r) (by simpa using h);rw[JN,e,HY];rfl
 |r::s::l,h=>by
  rw[fR,aC] at h;obtain⟨v,i,_,_,_,u,e,_⟩:=yx h.1;have q:mZ s=true:=by have:=h.2;rw[fR,aC] at this;exact this.1
  obtain⟨y,M,j,f,a,_⟩:=G8 q l;have ih:=NW (s::l) h.2;rw[ni,Bq,<-ih,e,j,ZC,I7,u,f,a]
theorem Jk:∀(rs:List Rn),rs.all mZ=true->(ko (jr rs)).length<=rs.length/\decide ((ko (jr rs)).length=rs.length)=vH (λr s=> !onR r s) rs
 |[],_=>⟨by simp[jr,ko],by simp[jr,ko,vH]⟩
 |[r],h=>by
  obtain⟨v,i,_,H,u,_,e,_⟩:=yx (r:=r) (by simpa using h);obtain⟨z,_,_,_,_,f⟩:=MG r.c r.rc r.rk [] H i v r.k r.lc r.lk u;rw[bB] at f;rw[JN,e,f];exact⟨by simp[ko,qO],by simp[ko,qO,vH]⟩
 |r::s::l,h=>by
  rw[fR,aC] at h;obtain⟨v,i,_,H,u,hl,e,_⟩:=yx h.1;have hs:mZ s=true:=by have:=h.2;rw[fR,aC] at this;exact this.1
  obtain⟨y,M,Z,Y,X,W,U,Q,O⟩:=G8 hs l;obtain⟨a,j⟩:=Jk (s::l) h.2;obtain⟨z,N,K,J,I,f⟩:=MG r.c r.rc r.rk (jr (s::l)) H i v r.k r.lc r.lk u;have q:qO z (jr (s::l))=onR r s:=by
   rw[Z];show onI z y=onR r s;unfold onI onR;rw[N,K,J,I,Y,X,W,U,Q,O,hl]
  rw[ni,e,f,q];rw[Bq,<-j];refine⟨?_,?_⟩
  ·simp only[ar] at a⊢
   split <;> omega
  ·cases onR r s with
   |true=>
    simp only[ar] at a⊢;simp;omega
   |false=>simp
theorem Vj (rs:List Rn) (ds:List Sp):wR rs ds=(rs.all mZ&&vH I7 rs&&vH (λr s=> !onR r s) rs&&jE zS ds):=by
 unfold wR;cases h:rs.all mZ with
 |false=>rfl
 |true=>rw[NW rs h,(Jk rs h).2]
def kT (l:List UInt8):Option (List Rn×List Sp):=if 20000<l.length then none else match parse l with
 |none=>none
 |some (rs,ds,e)=>if e=l.length/\wR rs ds=true then some (rs,ds) else none
theorem abt (e:∀r∈rs,wfR r/\r.t.length<4294967296) (h:wR rs ds=true):∀r∈rs,N9 r:=by
 unfold wR at h;simp only[aC] at h;intro r a;obtain⟨_,_,_,_,_,_,_,hv⟩:=yx (List.all_eq_true.1 h.1.1.1 r a);exact⟨(e r a).1,hv,(e r a).2⟩
theorem Ro (a:∀r∈rs,wfR r/\r.t.length<4294967296) (e:∀s∈ds,EK s) (i:rs.length<4294967296) (f:ds.length<4294967296) (h:wR rs ds=true) (j:(nN rs ds).length<=20000):
  kT (nN rs ds)=some (rs,ds):=by
 have:=U7 (abt a h) e i f [];rw[bB] at this;unfold kT;rw[if_neg ω,this];simp only;rw[if_pos ⟨trivial,h⟩]
theorem ED {l:List UInt8} (h:kT l=some (rs,ds)):nN rs ds=l/\wR rs ds=true/\(∀r∈rs,N9 r)/\(∀s∈ds,EK s)/\l.length<=20000:=by
 unfold kT at h
 split at h
 ·cases h
 ·rename_i H
  cases a:parse l with
  |none=>rw[a] at h;cases h
  |some x=>
   obtain⟨j,q,e⟩:=x;rw[a] at h;simp only at h
   split at h
   ·rename_i f
    simp only[aL,Prod.mk.injEq] at h;obtain⟨rfl,rfl⟩:=h;obtain⟨I,i,z,u,_⟩:=Ae a;rw[f.1,List.take_length] at i;exact⟨i.symm,f.2,z,u,ω⟩
   ·cases h
theorem Y8 (rs:List Rn) (ds:List Sp):(jr rs).length<=(nN rs ds).length:=by
 have h:∀l:List Rn,(jr l).length<=(l.flatMap kX).length:=by
  intro l
  induction l with
  |nil=>simp[jr]
  |cons r l ih=>
   rw[ni,ag,List.flatMap_cons,ag];have e:(mF r).length<=r.t.length:=by rw[mF,pX];exact qL _
   have a:r.t.length<=(kX r).length:=by rw[kX,sF];simp only[ag];omega
   omega
 have:=h rs;rw[nN];simp only[ag];omega
end Go.Proofs.YtncfhbpejchbfaaGreatDoor

/-
  Plain mathematics of vectors (lists of a client and its Next), without memory; no claim stands here.
-/
import Derived.Test.YtejbpijamdlgcaaGreatDoorClnP
set_option linter.unusedVariables false
set_option linter.unusedSimpArgs false
open Bool renaming false_and→iQ
open Int renaming lt_trichotomy→lN
open List renaming cons_append→aV,nil_append→bB
namespace Go.Proofs.YtejbpijamdlgcaaGreatDoor
def nW:List (Int×Int)->Int->Int
 |[],_=>0
 |p::l,c=>if p.1=c then p.2 else nW l c
def oq:Int->List (Int×Int)->Bool
 |_,[]=>true
 |a,p::l=>decide (a<p.1/\0<p.2)&&oq p.1 l
variable {l:List (Int×Int)} {p q:Int×Int}
theorem oO {a:Int} :oq a (p::l)=true↔a<p.1/\0<p.2/\oq p.1 l=true:=by
 simp[oq,and_assoc]
theorem QK {a e:Int} (h:oq a l=true) (f:e<=a):oq e l=true:=by
 cases l with
 |nil=>rfl
 |cons p l=>rw[oO] at h⊢;exact⟨ω,h.2.1,h.2.2⟩
theorem ru:∀{l:List (Int×Int)} {a c:Int},oq a l=true->c<=a->nW l c=0
 |[],_,_,_,_=>rfl
 |p::l,a,c,h,hc=>by
  rw[oO] at h;rw[nW,if_neg ω];exact ru h.2.2 ω
theorem sO:∀{l:List (Int×Int)} {a:Int} (c:Int),oq a l=true->0<=nW l c
 |[],_,_,_=>by simp[nW]
 |p::l,a,c,h=>by
  rw[oO] at h;rw[nW]
  split
  ·omega
  ·exact sO c h.2.2
theorem QC:∀{l m:List (Int×Int)} {a:Int},oq a l=true->oq a m=true->(∀c,nW l c=nW m c)->l=m
 |[],[],_,_,_,_=>rfl
 |[],q::m,a,_,hm,h=>by
  rw[oO] at hm;have:=h q.1;simp[nW] at this;omega
 |p::l,[],a,hl,_,h=>by
  rw[oO] at hl;have:=h p.1;simp[nW] at this;omega
 |p::l,q::m,a,hl,hm,h=>by
  have u:=hl;have j:=hm;rw[oO] at hl hm;rcases lN p.1 q.1 with g|g|g
  ·have f:=h p.1
   rw[nW,if_pos rfl,nW,if_neg ω,ru hm.2.2 ω] at f;omega
  ·have f:=h p.1
   rw[nW,if_pos rfl,nW,if_pos g.symm] at f;have e:p=q:=Prod.ext g f;subst e
   congr 1
   refine QC hl.2.2 hm.2.2 λc=>?_
   by_cases i:p.1=c
   ·rw[ru hl.2.2 ω,ru hm.2.2 ω]
   ·have:=h c
    rwa[nW,if_neg i,nW,if_neg i] at this
  ·have f:=h q.1
   rw[nW,if_neg ω,ru hl.2.2 ω,nW,if_pos rfl] at f;omega
def setOf:List (Int×Int)->Int->Int->List (Int×Int)
 |[],c,n=>if n=0 then [] else [(c,n)]
 |p::l,c,n=>if p.1<c then p::setOf l c n else(if n=0 then [] else [(c,n)])++(if p.1=c then l else p::l)
theorem Ob:∀(l:List (Int×Int)) (c n:Int),(setOf l c n).length<=l.length+1
 |[],c,n=>by simp only[setOf];split <;> simp
 |p::l,c,n=>by
  have:=Ob l c n;simp only[setOf]
  split
  ·simp;omega
  ·split <;> split <;> simp <;> omega
theorem Oa:∀{l:List (Int×Int)} {a c n:Int},oq a l=true->a<c->0<=n->oq a (setOf l c n)=true
 |[],a,c,n,_,hc,hn=>by
  simp only[setOf]
  split
  ·rfl
  ·rw[oO];exact⟨hc,by simp only;omega,rfl⟩
 |p::l,a,c,n,h,hc,hn=>by
  rw[oO] at h;simp only[setOf]
  split
  ·rw[oO];exact⟨h.1,h.2.1,Oa h.2.2 (by assumption) hn⟩
  ·split <;> split
   ·exact QK h.2.2 ω
   ·simp only[bB];rw[oO];exact h
   ·simp only[aV,bB];rw[oO];exact⟨hc,by simp only;omega,QK h.2.2 (by simp only;omega)⟩
   ·simp only[aV,bB];rw[oO,oO];exact⟨hc,by simp only;omega,by simp only;omega,h.2.1,h.2.2⟩
theorem ug:∀{l:List (Int×Int)} {a:Int} (c n d:Int),oq a l=true->nW (setOf l c n) d=if d=c then n else nW l d
 |[],a,c,n,d,_=>by
  simp only[setOf]
  split
  ·simp only[nW];split <;> omega
  ·simp only[nW];split <;> split <;> omega
 |p::l,a,c,n,d,h=>by
  rw[oO] at h;simp only[setOf];have ih:=ug (l:=l) c n d h.2.2;have f:d<=p.1->nW l d=0:=λg=>ru h.2.2 g
  split
  ·simp only[nW,ih]
   split <;> split <;> first|rfl|omega
  ·split <;> split
   ·simp only[bB,nW]
    by_cases e:d=c
    ·rw[if_pos e,f ω];omega
    ·rw[if_neg e,if_neg ω]
   ·simp only[bB,nW]
    by_cases e:d=c
    ·rw[if_pos e,if_neg ω,f ω];omega
    ·rw[if_neg e]
   ·simp only[aV,bB,nW]
    by_cases e:d=c
    ·rw[if_pos e,if_pos e.symm]
    ·rw[if_neg e,if_neg ω,if_neg ω]
   ·simp only[aV,bB,nW]
    by_cases e:d=c
    ·rw[if_pos e,if_pos e.symm]
    ·rw[if_neg e,if_neg ω]
def setRef:Bool->List (Int×Int)->Int->Int->List (Int×Int)
 |put,[],c,n=>if put then [] else [(c,n)]
 |put,p::l,c,n=>(if !put&&decide (c<=p.1) then [(c,n)] else [])++((if p.1=c then [] else [p])++setRef (put||decide (c<=p.1)) l c n)
theorem DL:∀{l:List (Int×Int)} {a:Int} (c n:Int),oq a l=true->c<=a->setRef true l c n=l
 |[],_,_,_,_,_=>rfl
 |p::l,a,c,n,h,hc=>by
  rw[oO] at h;simp only[setRef,Bool.not_true,iQ,Bool.true_or,if_neg (show¬p.1=c by omega)];rw[DL c n h.2.2 ω];rfl
theorem Qi:∀{l:List (Int×Int)} {a:Int} (c:Int),oq a l=true->setRef true l c 0=setOf l c 0
 |[],_,_,_=>by simp[setRef,setOf]
 |p::l,a,c,h=>by
  rw[oO] at h;simp only[setRef,Bool.not_true,iQ,Bool.true_or,setOf];by_cases e:p.1<c
  ·rw[if_pos e,if_neg (show¬p.1=c by omega),Qi c h.2.2];rfl
  ·by_cases f:p.1=c
   ·rw[if_neg e,DL c 0 h.2.2 ω];simp[f]
   ·rw[if_neg e,DL c 0 h.2.2 ω];simp[f]
def idxOf:List (Int×Int)->Int->Nat
 |[],_=>0
 |p::l,c=>if p.1<c then idxOf l c+1 else 0
def sP:List (Int×Int)->Int->Bool
 |[],_=>false
 |p::l,c=>if p.1<c then sP l c else decide (p.1=c)
theorem aaH:∀(l:List (Int×Int)) (c:Int),idxOf l c<=l.length
 |[],_=>by simp[idxOf]
 |p::l,c=>by have:=aaH l c;simp only[idxOf];split <;> simp <;> omega
theorem OI:∀{l:List (Int×Int)} {c:Int},sP l c=true->∃n,l[idxOf l c]? =some (c,n)
 |[],_,h=>by simp[sP] at h
 |p::l,c,h=>by
  simp only[sP] at h;simp only[idxOf]
  split at h
  ·rename_i g;rw[if_pos g];obtain⟨n,e⟩:=OI h;exact⟨n,by simpa using e⟩
  ·rename_i g;rw[if_neg g];have:p.1=c:=by simpa using h
   exact⟨p.2,by simp;exact Prod.ext this rfl⟩
theorem Q7:∀{l:List (Int×Int)} {a c n:Int},oq a l=true->l[idxOf l c]? =some (c,n)->nW l c=n
 |[],_,_,_,_,h=>by simp at h
 |p::l,a,c,n,hm,h=>by
  rw[oO] at hm;simp only[idxOf] at h;simp only[nW]
  split at h
  ·rw[if_neg ω];exact Q7 hm.2.2 (by simpa using h)
  ·have e:p=(c,n):=by simpa using h
   rw[e];simp
theorem VU:∀{l:List (Int×Int)} {a c:Int},oq a l=true->sP l c=false->nW l c=0
 |[],_,_,_,_=>rfl
 |p::l,a,c,hm,h=>by
  rw[oO] at hm;simp only[sP] at h;simp only[nW]
  split at h
  ·rw[if_neg ω];exact VU hm.2.2 h
  ·have:p.1≠c:=by simpa using h
   rw[if_neg this];exact ru hm.2.2 ω
theorem FQ:∀(l:List (Int×Int)) (c n:Int),setOf l c n=(l.take (idxOf l c)++if n=0 then [] else [(c,n)])++l.drop (idxOf l c+if sP l c then 1 else 0)
 |[],c,n=>by simp[setOf,idxOf,sP]
 |p::l,c,n=>by
  have ih:=FQ l c n;simp only[setOf,idxOf,sP];by_cases a:p.1<c
  ·simp only[if_pos a,ih,List.take_succ_cons,aV,Nat.add_right_comm _ 1,List.drop_succ_cons]
  ·simp only[if_neg a,List.take_zero,bB,Nat.zero_add]
   by_cases e:p.1=c <;> simp[e]
theorem ZC (h:oq 0 l=true):idxOf l 0=0/\sP l 0=false:=by
 cases l with
 |nil=>exact⟨rfl,rfl⟩
 |cons p l=>rw[oO] at h;simp only[idxOf,sP];rw[if_neg ω,if_neg ω];exact⟨rfl,by simp;omega⟩
theorem aaG:∀{l:List (Int×Int)} {c:Int} {i:Nat},i<=l.length->(∀t p,t<i->l[t]? =some p->p.1<c)->(∀p,l[i]? =some p->c<=p.1)->idxOf l c=i
 |[],_,i,hi,_,_=>by simp at hi;simp[idxOf,hi]
 |p::l,c,0,_,_,h2=>by
  have:=h2 p ι;rw[idxOf,if_neg ω]
 |p::l,c,i+1,hi,h1,h2=>by
  have:=h1 0 p ω ι;rw[idxOf,if_pos this,aaG (by simpa using hi) (λt q e a=>h1 (t+1) q ω (by simpa using a)) (λq a=>h2 q (by simpa using a))]
theorem aa2:∀{l:List (Int×Int)} {c:Int} {p:Int×Int},l[idxOf l c]? =some p->sP l c=decide (p.1=c)
 |[],_,_,h=>by simp at h
 |q::l,c,p,h=>by
  simp only[idxOf] at h;simp only[sP]
  split at h
  ·rename_i g;rw[if_pos g];exact aa2 (by simpa using h)
  ·rename_i g;rw[if_neg g];have e:q=p:=by simpa using h
   rw[e]
theorem VW:∀{l:List (Int×Int)} {c:Int},idxOf l c=l.length->sP l c=false
 |[],_,_=>rfl
 |q::l,c,h=>by
  simp only[idxOf] at h;simp only[sP]
  split at h
  ·rename_i g;rw[if_pos g];exact VW (by simpa using h)
  ·simp at h
theorem MH:∀{l:List (Int×Int)} {a:Int} {j:Nat} {q:Int×Int},oq a l=true->l[j]? =some q->a<q.1
 |[],_,_,_,_,h=>by simp at h
 |p::l,a,0,q,hm,h=>by rw[oO] at hm;have e:p=q:=by simpa using h
                      subst e;omega
 |p::l,a,j+1,q,hm,h=>by rw[oO] at hm;have:=MH (j:=j) hm.2.2 (by simpa using h);omega
theorem DW:∀{l:List (Int×Int)} {a:Int} {i j:Nat} {p q:Int×Int},oq a l=true->i<j->l[i]? =some p->l[j]? =some q->p.1<q.1
 |[],_,_,_,_,_,_,_,h,_=>by simp at h
 |x::l,a,0,j+1,p,q,hm,_,h,g=>by
  rw[oO] at hm;have e:x=p:=by simpa using h
  subst e;exact MH (j:=j) hm.2.2 (by simpa using g)
 |x::l,a,i+1,j+1,p,q,hm,hij,h,g=>by
  rw[oO] at hm;exact DW (i:=i) (j:=j) hm.2.2 ω (by simpa using h) (by simpa using g)
def qm:List (Int×Int)->List (Int×Int)->List (Int×Int)
 |[],b=>b
 |p::a,[]=>p::a
 |p::a,q::b=>if p.1<q.1 then p::qm a (q::b) else if q.1<p.1 then q::qm (p::a) b else(p.1,max p.2 q.2)::qm a b
termination_by a b=>a.length+b.length
theorem F9 (b:List (Int×Int)):qm [] b=b:=by simp[qm]
theorem Gf (a:List (Int×Int)):qm a []=a:=by cases a <;> simp[qm]
theorem merge_lt (a b:List (Int×Int)) (h:p.1<q.1):qm (p::a) (q::b)=p::qm a (q::b):=by rw[qm,if_pos h]
theorem JG (a b:List (Int×Int)) (h:q.1<p.1):qm (p::a) (q::b)=q::qm (p::a) b:=by rw[qm,if_neg ω,if_pos h]
theorem JH (a b:List (Int×Int)) (h:p.1=q.1):qm (p::a) (q::b)=(p.1,max p.2 q.2)::qm a b:=by rw[qm,if_neg ω,if_neg ω]
theorem C9:∀(a b:List (Int×Int)) {x:Int},oq x a=true->oq x b=true->oq x (qm a b)=true
 |[],b,x,_,hb=>by rw[F9];exact hb
 |p::a,[],x,ha,_=>by rw[Gf];exact ha
 |p::a,q::b,x,ha,hb=>by
  have f:=ha;have e:=hb;rw[oO] at ha hb;rcases lN p.1 q.1 with h|h|h
  ·rw[merge_lt a b h,oO]
   exact⟨ha.1,ha.2.1,C9 a (q::b) ha.2.2 (by rw[oO];exact⟨h,hb.2⟩)⟩
  ·rw[JH a b h,oO]
   exact⟨ha.1,by simp only;omega,C9 a b ha.2.2 (by rw[h];exact hb.2.2)⟩
  ·rw[JG a b h,oO]
   exact⟨hb.1,hb.2.1,C9 (p::a) b (by rw[oO];exact⟨h,ha.2⟩) hb.2.2⟩
termination_by a b=>a.length+b.length
theorem zZ:∀(a b:List (Int×Int)) {x:Int} (c:Int),oq x a=true->oq x b=true->nW (qm a b) c=max (nW a c) (nW b c)
 |[],b,x,c,_,hb=>by have:=sO c hb;rw[F9];simp only[nW];omega
 |p::a,[],x,c,ha,_=>by have:=sO c ha;rw[Gf];simp only[nW] at this⊢;omega
 |p::a,q::b,x,c,ha,hb=>by
  rw[oO] at ha hb;rcases lN p.1 q.1 with h|h|h
  ·have f:oq p.1 (q::b)=true:=by rw[oO];exact⟨h,hb.2⟩
   rw[merge_lt a b h];have ih:=zZ a (q::b) c ha.2.2 f;by_cases e:p.1=c
   ·have:=ru f (c:=c) ω
    rw[nW,if_pos e,nW,if_pos e,this];omega
   ·rw[nW,if_neg e,nW,if_neg e,ih]
  ·rw[JH a b h]
   have ih:=zZ a b (x:=p.1) c ha.2.2 (by rw[h];exact hb.2.2);by_cases e:p.1=c
   ·rw[nW,if_pos e,nW,if_pos e,nW,if_pos ω]
   ·rw[nW,if_neg e,nW,if_neg e,nW,if_neg ω,ih]
  ·have i:oq q.1 (p::a)=true:=by rw[oO];exact⟨h,ha.2⟩
   rw[JG a b h];have ih:=zZ (p::a) b c i hb.2.2;by_cases e:q.1=c
   ·have:=ru i (c:=c) ω
    rw[this];rw[nW,if_pos e,nW,if_pos e];omega
   ·rw[nW,if_neg e,ih]
    conv=>rhs;rw[nW.eq_2 c q b,if_neg e]
termination_by a b=>a.length+b.length
def wfC (l:List (Int×Int)):Prop:=∀p∈l,0<=p.1/\p.1<=4294967295/\0<=p.2/\p.2<=4294967295
end Go.Proofs.YtejbpijamdlgcaaGreatDoor

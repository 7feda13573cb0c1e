/-
  Plain mathematics of vectors (lists of a client and its Next), without memory; no claim stands here.
-/
import Derived.Test.YtncfhbpejchbfaaGreatDoorClnP
set_option linter.unusedVariables false
set_option linter.unusedSimpArgs false
open Bool renaming false_and→et
open Int renaming lt_trichotomy→ie
open List renaming cons_append→aJ,nil_append→aR
namespace Go.Proofs.YtncfhbpejchbfaaGreatDoor
def jq:List (Int×Int)->Int->Int
 |[],_=>0
 |p::l,c=>if p.1=c then p.2 else jq l c
def jB:Int->List (Int×Int)->Bool
 |_,[]=>true
 |a,p::l=>decide (a<p.1/\0<p.2)&&jB p.1 l
variable {l:List (Int×Int)} {p q:Int×Int}
theorem jP {a:Int} :jB a (p::l)=true↔a<p.1/\0<p.2/\jB p.1 l=true:=by
 simp[jB,and_assoc]
theorem Ov {a e:Int} (h:jB a l=true) (f:e<=a):jB e l=true:=by
 cases l with
 |nil=>rfl
 |cons p l=>rw[jP] at h⊢;exact⟨ω,h.2.1,h.2.2⟩
theorem mD:∀{l:List (Int×Int)} {a c:Int},jB a l=true->c<=a->jq l c=0
 |[],_,_,_,_=>rfl
 |p::l,a,c,h,hc=>by
  rw[jP] at h;rw[jq,if_neg ω];exact mD h.2.2 ω
theorem nO:∀{l:List (Int×Int)} {a:Int} (c:Int),jB a l=true->0<=jq l c
 |[],_,_,_=>by simp[jq]
 |p::l,a,c,h=>by
  rw[jP] at h;rw[jq]
  split
  ·omega
  ·exact nO c h.2.2
theorem GA:∀{l m:List (Int×Int)} {a:Int},jB a l=true->jB a m=true->(∀c,jq l c=jq m c)->l=m
 |[],[],_,_,_,_=>rfl
 |[],q::m,a,_,hm,h=>by
  rw[jP] at hm;have:=h q.1;simp[jq] at this;omega
 |p::l,[],a,hl,_,h=>by
  rw[jP] at hl;have:=h p.1;simp[jq] at this;omega
 |p::l,q::m,a,hl,hm,h=>by
  have u:=hl;have j:=hm;rw[jP] at hl hm;rcases ie p.1 q.1 with g|g|g
  ·have f:=h p.1
   rw[jq,if_pos rfl,jq,if_neg ω,mD hm.2.2 ω] at f;omega
  ·have f:=h p.1
   rw[jq,if_pos rfl,jq,if_pos g.symm] at f;have e:p=q:=Prod.ext g f;subst e
   congr 1
   refine GA hl.2.2 hm.2.2 λc=>?_
   by_cases i:p.1=c
   ·rw[mD hl.2.2 ω,mD hm.2.2 ω]
   ·have:=h c
    rwa[jq,if_neg i,jq,if_neg i] at this
  ·have f:=h q.1
   rw[jq,if_neg ω,mD hl.2.2 ω,jq,if_pos rfl] at f;omega
def setOf:List (Int×Int)->Int->Int->List (Int×Int)
 |[],c,n=>if n=0 then [] else [(c,n)]
 |p::l,c,n=>if p.1<c then p::setOf l c n else(if n=0 then [] else [(c,n)])++(if p.1=c then l else p::l)
theorem KY:∀(l:List (Int×Int)) (c n:Int),(setOf l c n).length<=l.length+1
 |[],c,n=>by simp only[setOf];split <;> simp
 |p::l,c,n=>by
  have:=KY l c n;simp only[setOf]
  split
  ·simp;omega
  ·split <;> split <;> simp <;> omega
theorem KX:∀{l:List (Int×Int)} {a c n:Int},jB a l=true->a<c->0<=n->jB a (setOf l c n)=true
 |[],a,c,n,_,hc,hn=>by
  simp only[setOf]
  split
  ·rfl
  ·rw[jP];exact⟨hc,by simp only;omega,rfl⟩
 |p::l,a,c,n,h,hc,hn=>by
  rw[jP] at h;simp only[setOf]
  split
  ·rw[jP];exact⟨h.1,h.2.1,KX h.2.2 (by assumption) hn⟩
  ·split <;> split
   ·exact Ov h.2.2 ω
   ·simp only[aR];rw[jP];exact h
   ·simp only[aJ,aR];rw[jP];exact⟨hc,by simp only;omega,Ov h.2.2 (by simp only;omega)⟩
   ·simp only[aJ,aR];rw[jP,jP];exact⟨hc,by simp only;omega,by simp only;omega,h.2.1,h.2.2⟩
theorem oG:∀{l:List (Int×Int)} {a:Int} (c n d:Int),jB a l=true->jq (setOf l c n) d=if d=c then n else jq l d
 |[],a,c,n,d,_=>by
  simp only[setOf]
  split
  ·simp only[jq];split <;> omega
  ·simp only[jq];split <;> split <;> omega
 |p::l,a,c,n,d,h=>by
  rw[jP] at h;simp only[setOf];have ih:=oG (l:=l) c n d h.2.2;have f:d<=p.1->jq l d=0:=λg=>mD h.2.2 g
  split
  ·simp only[jq,ih]
   split <;> split <;> first|rfl|omega
  ·split <;> split
   ·simp only[aR,jq]
    by_cases e:d=c
    ·rw[if_pos e,f ω];omega
    ·rw[if_neg e,if_neg ω]
   ·simp only[aR,jq]
    by_cases e:d=c
    ·rw[if_pos e,if_neg ω,f ω];omega
    ·rw[if_neg e]
   ·simp only[aJ,aR,jq]
    by_cases e:d=c
    ·rw[if_pos e,if_pos e.symm]
    ·rw[if_neg e,if_neg ω,if_neg ω]
   ·simp only[aJ,aR,jq]
    by_cases e:d=c
    ·rw[if_pos e,if_pos e.symm]
    ·rw[if_neg e,if_neg ω]
def setRef:Bool->List (Int×Int)->Int->Int->List (Int×Int)
 |put,[],c,n=>if put then [] else [(c,n)]
 |put,p::l,c,n=>(if !put&&decide (c<=p.1) then [(c,n)] else [])++((if p.1=c then [] else [p])++setRef (put||decide (c<=p.1)) l c n)
theorem zW:∀{l:List (Int×Int)} {a:Int} (c n:Int),jB a l=true->c<=a->setRef true l c n=l
 |[],_,_,_,_,_=>rfl
 |p::l,a,c,n,h,hc=>by
  rw[jP] at h;simp only[setRef,Bool.not_true,et,Bool.true_or,if_neg (show¬p.1=c by omega)];rw[zW c n h.2.2 ω];rfl
theorem NP:∀{l:List (Int×Int)} {a:Int} (c:Int),jB a l=true->setRef true l c 0=setOf l c 0
 |[],_,_,_=>by simp[setRef,setOf]
 |p::l,a,c,h=>by
  rw[jP] at h;simp only[setRef,Bool.not_true,et,Bool.true_or,setOf];by_cases e:p.1<c
  ·rw[if_pos e,if_neg (show¬p.1=c by omega),NP c h.2.2];rfl
  ·by_cases f:p.1=c
   ·rw[if_neg e,zW c 0 h.2.2 ω];simp[f]
   ·rw[if_neg e,zW c 0 h.2.2 ω];simp[f]
def idxOf:List (Int×Int)->Int->Nat
 |[],_=>0
 |p::l,c=>if p.1<c then idxOf l c+1 else 0
def nP:List (Int×Int)->Int->Bool
 |[],_=>false
 |p::l,c=>if p.1<c then nP l c else decide (p.1=c)
theorem Ze:∀(l:List (Int×Int)) (c:Int),idxOf l c<=l.length
 |[],_=>by simp[idxOf]
 |p::l,c=>by have:=Ze l c;simp only[idxOf];split <;> simp <;> omega
theorem LV:∀{l:List (Int×Int)} {c:Int},nP l c=true->∃n,l[idxOf l c]? =some (c,n)
 |[],_,h=>by simp[nP] at h
 |p::l,c,h=>by
  simp only[nP] at h;simp only[idxOf]
  split at h
  ·rename_i g;rw[if_pos g];obtain⟨n,e⟩:=LV h;exact⟨n,by simpa using e⟩
  ·rename_i g;rw[if_neg g];have:p.1=c:=by simpa using h
   exact⟨p.2,by simp;exact Prod.ext this rfl⟩
theorem OQ:∀{l:List (Int×Int)} {a c n:Int},jB a l=true->l[idxOf l c]? =some (c,n)->jq l c=n
 |[],_,_,_,_,h=>by simp at h
 |p::l,a,c,n,hm,h=>by
  rw[jP] at hm;simp only[idxOf] at h;simp only[jq]
  split at h
  ·rw[if_neg ω];exact OQ hm.2.2 (by simpa using h)
  ·have e:p=(c,n):=by simpa using h
   rw[e];simp
theorem TG:∀{l:List (Int×Int)} {a c:Int},jB a l=true->nP l c=false->jq l c=0
 |[],_,_,_,_=>rfl
 |p::l,a,c,hm,h=>by
  rw[jP] at hm;simp only[nP] at h;simp only[jq]
  split at h
  ·rw[if_neg ω];exact TG hm.2.2 h
  ·have:p.1≠c:=by simpa using h
   rw[if_neg this];exact mD hm.2.2 ω
theorem Db:∀(l:List (Int×Int)) (c n:Int),setOf l c n=(l.take (idxOf l c)++if n=0 then [] else [(c,n)])++l.drop (idxOf l c+if nP l c then 1 else 0)
 |[],c,n=>by simp[setOf,idxOf,nP]
 |p::l,c,n=>by
  have ih:=Db l c n;simp only[setOf,idxOf,nP];by_cases a:p.1<c
  ·simp only[if_pos a,ih,List.take_succ_cons,aJ,Nat.add_right_comm _ 1,List.drop_succ_cons]
  ·simp only[if_neg a,List.take_zero,aR,Nat.zero_add]
   by_cases e:p.1=c <;> simp[e]
theorem Ye (h:jB 0 l=true):idxOf l 0=0/\nP l 0=false:=by
 cases l with
 |nil=>exact⟨rfl,rfl⟩
 |cons p l=>rw[jP] at h;simp only[idxOf,nP];rw[if_neg ω,if_neg ω];exact⟨rfl,by simp;omega⟩
theorem Zd:∀{l:List (Int×Int)} {c:Int} {i:Nat},i<=l.length->(∀t p,t<i->l[t]? =some p->p.1<c)->(∀p,l[i]? =some p->c<=p.1)->idxOf l c=i
 |[],_,i,hi,_,_=>by simp at hi;simp[idxOf,hi]
 |p::l,c,0,_,_,h2=>by
  have:=h2 p ι;rw[idxOf,if_neg ω]
 |p::l,c,i+1,hi,h1,h2=>by
  have:=h1 0 p ω ι;rw[idxOf,if_pos this,Zd (by simpa using hi) (λt q e a=>h1 (t+1) q ω (by simpa using a)) (λq a=>h2 q (by simpa using a))]
theorem Zw:∀{l:List (Int×Int)} {c:Int} {p:Int×Int},l[idxOf l c]? =some p->nP l c=decide (p.1=c)
 |[],_,_,h=>by simp at h
 |q::l,c,p,h=>by
  simp only[idxOf] at h;simp only[nP]
  split at h
  ·rename_i g;rw[if_pos g];exact Zw (by simpa using h)
  ·rename_i g;rw[if_neg g];have e:q=p:=by simpa using h
   rw[e]
theorem TI:∀{l:List (Int×Int)} {c:Int},idxOf l c=l.length->nP l c=false
 |[],_,_=>rfl
 |q::l,c,h=>by
  simp only[idxOf] at h;simp only[nP]
  split at h
  ·rename_i g;rw[if_pos g];exact TI (by simpa using h)
  ·simp at h
theorem JC:∀{l:List (Int×Int)} {a:Int} {j:Nat} {q:Int×Int},jB a l=true->l[j]? =some q->a<q.1
 |[],_,_,_,_,h=>by simp at h
 |p::l,a,0,q,hm,h=>by rw[jP] at hm;have e:p=q:=by simpa using h
                      subst e;omega
 |p::l,a,j+1,q,hm,h=>by rw[jP] at hm;have:=JC (j:=j) hm.2.2 (by simpa using h);omega
theorem Ai:∀{l:List (Int×Int)} {a:Int} {i j:Nat} {p q:Int×Int},jB a l=true->i<j->l[i]? =some p->l[j]? =some q->p.1<q.1
 |[],_,_,_,_,_,_,_,h,_=>by simp at h
 |x::l,a,0,j+1,p,q,hm,_,h,g=>by
  rw[jP] at hm;have e:x=p:=by simpa using h
  subst e;exact JC (j:=j) hm.2.2 (by simpa using g)
 |x::l,a,i+1,j+1,p,q,hm,hij,h,g=>by
  rw[jP] at hm;exact Ai (i:=i) (j:=j) hm.2.2 ω (by simpa using h) (by simpa using g)
def kM:List (Int×Int)->List (Int×Int)->List (Int×Int)
 |[],b=>b
 |p::a,[]=>p::a
 |p::a,q::b=>if p.1<q.1 then p::kM a (q::b) else if q.1<p.1 then q::kM (p::a) b else(p.1,max p.2 q.2)::kM a b
termination_by a b=>a.length+b.length
theorem Dv (b:List (Int×Int)):kM [] b=b:=by simp[kM]
theorem Dw (a:List (Int×Int)):kM a []=a:=by cases a <;> simp[kM]
theorem merge_lt (a b:List (Int×Int)) (h:p.1<q.1):kM (p::a) (q::b)=p::kM a (q::b):=by rw[kM,if_pos h]
theorem GJ (a b:List (Int×Int)) (h:q.1<p.1):kM (p::a) (q::b)=q::kM (p::a) b:=by rw[kM,if_neg ω,if_pos h]
theorem GK (a b:List (Int×Int)) (h:p.1=q.1):kM (p::a) (q::b)=(p.1,max p.2 q.2)::kM a b:=by rw[kM,if_neg ω,if_neg ω]
theorem zl:∀(a b:List (Int×Int)) {x:Int},jB x a=true->jB x b=true->jB x (kM a b)=true
 |[],b,x,_,hb=>by rw[Dv];exact hb
 |p::a,[],x,ha,_=>by rw[Dw];exact ha
 |p::a,q::b,x,ha,hb=>by
  have f:=ha;have e:=hb;rw[jP] at ha hb;rcases ie p.1 q.1 with h|h|h
  ·rw[merge_lt a b h,jP]
   exact⟨ha.1,ha.2.1,zl a (q::b) ha.2.2 (by rw[jP];exact⟨h,hb.2⟩)⟩
  ·rw[GK a b h,jP]
   exact⟨ha.1,by simp only;omega,zl a b ha.2.2 (by rw[h];exact hb.2.2)⟩
  ·rw[GJ a b h,jP]
   exact⟨hb.1,hb.2.1,zl (p::a) b (by rw[jP];exact⟨h,ha.2⟩) hb.2.2⟩
termination_by a b=>a.length+b.length
theorem wQ:∀(a b:List (Int×Int)) {x:Int} (c:Int),jB x a=true->jB x b=true->jq (kM a b) c=max (jq a c) (jq b c)
 |[],b,x,c,_,hb=>by have:=nO c hb;rw[Dv];simp only[jq];omega
 |p::a,[],x,c,ha,_=>by have:=nO c ha;rw[Dw];simp only[jq] at this⊢;omega
 |p::a,q::b,x,c,ha,hb=>by
  rw[jP] at ha hb;rcases ie p.1 q.1 with h|h|h
  ·have f:jB p.1 (q::b)=true:=by rw[jP];exact⟨h,hb.2⟩
   rw[merge_lt a b h];have ih:=wQ a (q::b) c ha.2.2 f;by_cases e:p.1=c
   ·have:=mD f (c:=c) ω
    rw[jq,if_pos e,jq,if_pos e,this];omega
   ·rw[jq,if_neg e,jq,if_neg e,ih]
  ·rw[GK a b h]
   have ih:=wQ a b (x:=p.1) c ha.2.2 (by rw[h];exact hb.2.2);by_cases e:p.1=c
   ·rw[jq,if_pos e,jq,if_pos e,jq,if_pos ω]
   ·rw[jq,if_neg e,jq,if_neg e,jq,if_neg ω,ih]
  ·have i:jB q.1 (p::a)=true:=by rw[jP];exact⟨h,ha.2⟩
   rw[GJ a b h];have ih:=wQ (p::a) b c i hb.2.2;by_cases e:q.1=c
   ·have:=mD i (c:=c) ω
    rw[this];rw[jq,if_pos e,jq,if_pos e];omega
   ·rw[jq,if_neg e,ih]
    conv=>rhs;rw[jq.eq_2 c q b,if_neg e]
termination_by a b=>a.length+b.length
def wfC (l:List (Int×Int)):Prop:=∀p∈l,0<=p.1/\p.1<=4294967295/\0<=p.2/\p.2<=4294967295
end Go.Proofs.YtncfhbpejchbfaaGreatDoor

/-
  Plain mathematics of sets of spans (a client, From, To), without memory; no claim stands here.
-/
import Derived.Test.YtncfhbpejchbfaaGreatDoorClnP
set_option linter.unusedVariables false
set_option linter.unusedSimpArgs false
open Bool renaming eq_iff_iff→dC,false_or→dv,or_assoc→dD,or_eq_true→cE,or_false→fO
open List renaming cons_append→aJ,filter_cons_of_pos→iX,length_cons→ar,mem_append→aA,mem_cons_of_mem→aF,mem_cons_self→aH,mem_cons→aE,mem_singleton→aN,pairwise_cons→bd
open List.Pairwise renaming nil→eR
namespace Go.Proofs.YtncfhbpejchbfaaGreatDoor
def lH (a b:Int×Int×Int):Bool:=decide (a.1<b.1\/(a.1=b.1/\a.2.2<b.2.1))
def oW (p:Int×Int×Int):Bool:=decide (0<p.1/\p.2.1<p.2.2)
variable {a b p q:Int×Int×Int} {c k:Int} {l m:List (Int×Int×Int)}
theorem sO:lH a b=true↔(a.1<b.1\/(a.1=b.1/\a.2.2<b.2.1)):=by simp[lH]
theorem wD:oW p=true↔(0<p.1/\p.2.1<p.2.2):=by simp[oW]
theorem D9:lH a b=false↔¬(a.1<b.1\/(a.1=b.1/\a.2.2<b.2.1)):=by rw[<-sO];simp
def wfS (l:List (Int×Int×Int)):Prop:=∀p∈l,0<=p.1/\p.1<=4294967295/\0<=p.2.1/\p.2.1<=4294967295/\0<=p.2.2/\p.2.2<=4294967295
def jE:Int×Int×Int->List (Int×Int×Int)->Bool
 |_,[]=>true
 |a,p::l=>(lH a p&&oW p)&&jE p l
def zS:Int×Int×Int:=(0,0,0)
theorem jM:jE a (p::l)=true↔(a.1<p.1\/(a.1=p.1/\a.2.2<p.2.1))/\0<p.1/\p.2.1<p.2.2/\jE p l=true:=by
 simp[jE,sO,wD,and_assoc]
theorem JD (h:jE b l=true) (e:b.2.1<b.2.2) (f:a.1<b.1\/(a.1=b.1/\a.2.2<b.2.1)):jE a l=true:=by
 cases l with
 |nil=>rfl
 |cons p l=>rw[jM] at h⊢;exact⟨ω,h.2⟩
theorem Vh (h:jE a l=true):jE zS l=true:=by
 cases l with
 |nil=>rfl
 |cons p l=>rw[jM] at h⊢;exact⟨.inl h.2.1,h.2⟩
def inS (p:Int×Int×Int) (c k:Int):Bool:=decide (p.1=c/\p.2.1<=k/\k<p.2.2)
theorem mI:inS p c k=true↔(p.1=c/\p.2.1<=k/\k<p.2.2):=by simp[inS]
theorem uM:inS p c k=false↔¬(p.1=c/\p.2.1<=k/\k<p.2.2):=by rw[<-mI];simp
def jJ:List (Int×Int×Int)->Int->Int->Bool
 |[],_,_=>false
 |p::l,c,k=>inS p c k||jJ l c k
theorem kP:∀(l m:List (Int×Int×Int)) (c k:Int),jJ (l++m) c k=(jJ l c k||jJ m c k)
 |[],m,c,k=>by simp[jJ]
 |p::l,m,c,k=>by rw[aJ,jJ,jJ,kP l m,dD]
theorem Ve (h:l.Perm m) (c k:Int):jJ l c k=jJ m c k:=by
 induction h with
 |nil=>rfl
 |cons x _ ih=>rw[jJ,jJ,ih]
 |swap x y l=>rw[jJ,jJ,jJ,jJ,<-dD,<-dD,Bool.or_comm (inS y c k)]
 |trans _ _ f e=>rw[f,e]
theorem mY:∀{l:List (Int×Int×Int)} {a:Int×Int×Int} {c k:Int},jE a l=true->(c<a.1\/(c=a.1/\k<=a.2.2))->jJ l c k=false
 |[],_,_,_,_,_=>rfl
 |p::l,a,c,k,h,hc=>by
  rw[jM] at h;rw[jJ,mY h.2.2.2 ω,fO,uM];omega
theorem Dx (p:Int×Int×Int) (l:List (Int×Int×Int)) (h:p.2.1<p.2.2):jJ (p::l) p.1 p.2.1=true:=by
 rw[jJ,mI.2 ⟨rfl,ω,h⟩,Bool.true_or]
theorem O7 (f:p.2.1<p.2.2) (i:q.2.1<q.2.2) (hm:jE q m=true) (h:∀c k,jJ (p::l) c k=jJ (q::m) c k):q.1<p.1\/(q.1=p.1/\q.2.1<=p.2.1):=by
 have e:=h p.1 p.2.1;rw[Dx p l f,jJ] at e;cases hi:inS q p.1 p.2.1 with
 |true=>rw[mI] at hi;omega
 |false=>
  rw[hi,dv] at e;rcases Int.lt_trichotomy q.1 p.1 with g|g|g
  ·exact .inl g
  ·rcases Int.lt_or_le q.2.2 p.2.1 with k|k
   ·exact .inr ⟨g,ω⟩
   ·rw[mY hm (.inr ⟨g.symm,k⟩)] at e;cases e
  ·rw[mY hm (.inl g)] at e;cases e
theorem O6 (e:jE p l=true) (h:∀c k,jJ (p::l) c k=jJ (q::m) c k) (j:p.1=q.1) (i:p.2.1=q.2.1) (f:p.2.1<p.2.2):q.2.2<=p.2.2:=by
 rcases Int.lt_or_le p.2.2 q.2.2 with g|g
 ·have:=h p.1 p.2.2
  rw[jJ,jJ,mY e (.inr ⟨rfl,Int.le_refl _⟩),mI.2 (show q.1=p.1/\q.2.1<=p.2.2/\p.2.2<q.2.2 by omega),uM.2 (show¬(p.1=p.1/\p.2.1<=p.2.2/\p.2.2<p.2.2) by omega)] at this;simp at this
 ·exact g
theorem Bw:∀{l m:List (Int×Int×Int)} {a b:Int×Int×Int},jE a l=true->jE b m=true->(∀c k,jJ l c k=jJ m c k)->l=m
 |[],[],_,_,_,_,_=>rfl
 |[],q::m,a,b,_,hm,h=>by
  rw[jM] at hm;have:=h q.1 q.2.1;rw[Dx q m hm.2.2.1] at this;cases this
 |p::l,[],a,b,hl,_,h=>by
  rw[jM] at hl;have:=h p.1 p.2.1;rw[Dx p l hl.2.2.1] at this;cases this
 |p::l,q::m,a,b,hl,hm,h=>by
  rw[jM] at hl hm;have N:=O7 hl.2.2.1 hm.2.2.1 hm.2.2.2 h;have M:=O7 hm.2.2.1 hl.2.2.1 hl.2.2.2 (λc k=>(h c k).symm);have K:=O6 hl.2.2.2 h ω ω hl.2.2.1;have J:=O6 hm.2.2.2 (λc k=>(h c k).symm) ω ω hm.2.2.1;have e:p=q:=by
   obtain⟨I,H,z⟩:=p;obtain⟨u,j,i⟩:=q;simp only at N M K J;have:I=u:=ω
   have:H=j:=ω
   have:z=i:=ω
   simp_all
  subst e;rw[Bw hl.2.2.2 hm.2.2.2 λc k=>?_];have f:=h c k;rw[jJ,jJ] at f;cases hi:inS p c k with
  |false=>rw[hi] at f;simpa using f
  |true=>
   rw[mI] at hi;rw[mY hl.2.2.2 ω,mY hm.2.2.2 ω]
def yu (s x:Int×Int×Int):Int×Int×Int:=(s.1,min s.2.1 x.2.1,max s.2.2 x.2.2)
def r9:List (Int×Int×Int)->Int×Int×Int->List (Int×Int×Int)
 |[],s=>[s]
 |x::l,s=>if lH x s then x::r9 l s else if lH s x then s::x::l else r9 l (yu s x)
theorem Fh:∀{l:List (Int×Int×Int)} {a s:Int×Int×Int},jE a l=true->(a.1<s.1\/(a.1=s.1/\a.2.2<s.2.1))->0<s.1->s.2.1<s.2.2->jE a (r9 l s)=true
 |[],a,s,_,h1,h2,h3=>by rw[r9,jM];exact⟨h1,h2,h3,rfl⟩
 |x::l,a,s,h,h1,h2,h3=>by
  rw[jM] at h;rw[r9];cases e:lH x s with
  |true=>
   rw[sO] at e;rw[if_pos rfl,jM];exact⟨h.1,h.2.1,h.2.2.1,Fh h.2.2.2 e h2 h3⟩
  |false=>
   rw[if_neg ι];cases f:lH s x with
   |true=>
    rw[sO] at f;rw[if_pos rfl,jM,jM];exact⟨h1,h2,h3,f,h.2⟩
   |false=>
    rw[D9] at e f;rw[if_neg ι];refine Fh (JD h.2.2.2 h.2.2.1 h.1) ?_ h2 ?_
    ·simp only[yu];omega
    ·simp only[yu];omega
theorem YK {s x:Int×Int×Int} (j:s.2.1<s.2.2) (i:x.2.1<x.2.2) (f:lH x s=false) (e:lH s x=false) (c k:Int):inS (yu s x) c k=(inS s c k||inS x c k):=by
 rw[D9] at f e;rw[dC,cE,mI,mI,mI];simp only[yu];omega
theorem LJ:∀{l:List (Int×Int×Int)} {a s:Int×Int×Int},jE a l=true->s.2.1<s.2.2->∀c k,jJ (r9 l s) c k=(inS s c k||jJ l c k)
 |[],a,s,_,h3,c,k=>by simp[r9,jJ]
 |x::l,a,s,h,h3,c,k=>by
  rw[jM] at h;rw[r9];cases e:lH x s with
  |true=>rw[if_pos rfl,jJ,jJ,LJ h.2.2.2 h3,<-dD,<-dD,Bool.or_comm (inS x c k)]
  |false=>
   rw[if_neg ι];cases f:lH s x with
   |true=>rw[if_pos rfl,jJ]
   |false=>rw[if_neg ι,LJ h.2.2.2 (by simp only[yu];omega),YK h3 h.2.2.1 e f,jJ,dD]
theorem LK:∀(l:List (Int×Int×Int)) (s:Int×Int×Int),(r9 l s).length<=l.length+1
 |[],s=>by simp[r9]
 |x::l,s=>by
  rw[r9]
  split
  ·have:=LK l s;simp only[ar];omega
  ·split
   ·simp
   ·have:=LK l (yu s x);simp only[ar];omega
theorem QV:∀{l:List (Int×Int×Int)} {s:Int×Int×Int},wfS l->wfS [s]->wfS (r9 l s)
 |[],s,_,h=>by rw[r9];exact h
 |x::l,s,hl,hs=>by
  have u:=hl x (aH ..);have i:wfS l:=λq f=>hl q (aF _ f)
  have j:=hs s (aH ..);rw[r9]
  split
  ·have ih:=QV i hs
   intro q f;rcases aE.1 f with e|e
   ·rw[e];exact u
   ·exact ih q e
  ·split
   ·intro q f
    rcases aE.1 f with e|e
    ·rw[e];exact j
    ·exact hl q e
   ·refine QV i ?_
    intro q f;rw[aN] at f;subst f;simp only[yu];omega
def aci:List (Int×Int×Int)->Int
 |[]=>0
 |p::l=>(p.2.2-p.2.1)+aci l
theorem RS:∀{l:List (Int×Int×Int)} {a:Int×Int×Int},jE a l=true->0<=aci l
 |[],_,_=>by simp[aci]
 |p::l,a,h=>by
  rw[jM] at h;have:=RS h.2.2.2;rw[aci];omega
def xG:List (Int×Int×Int)->List (Int×Int×Int)->List (Int×Int×Int)
 |o,[]=>o
 |o,p::l=>xG (if oW p then r9 o p else o) l
def kW (l:List (Int×Int×Int)):List (Int×Int×Int):=xG [] l
theorem Jh:∀{l o:List (Int×Int×Int)},jE zS o=true->jE zS (xG o l)=true
 |[],o,h=>h
 |p::l,o,h=>by
  rw[xG];refine Jh ?_;cases e:oW p with
  |false=>exact h
  |true=>
   rw[wD] at e;rw[if_pos rfl];exact Fh h (.inl e.1) e.1 e.2
theorem Df:∀{l o:List (Int×Int×Int)},jE zS o=true->∀c k,jJ (xG o l) c k=(jJ o c k||jJ (l.filter oW) c k)
 |[],o,h,c,k=>by simp[xG,jJ]
 |p::l,o,h,c,k=>by
  rw[xG];cases e:oW p with
  |false=>rw[if_neg ι,List.filter_cons_of_neg (by simp[e]),Df h]
  |true=>
   rw[iX e];rw[wD] at e;rw[if_pos rfl,Df (Fh h (.inl e.1) e.1 e.2),LJ h e.2,jJ,<-dD,Bool.or_comm (jJ o c k)]
theorem Ji:∀(l o:List (Int×Int×Int)),(xG o l).length<=o.length+l.length
 |[],o=>by simp[xG]
 |p::l,o=>by
  rw[xG];have f:=Ji l (if oW p then r9 o p else o);have i:=LK o p;rw[ar]
  split at f <;> rename_i e
  ·rw[if_pos e];omega
  ·rw[if_neg e];omega
theorem NR:∀{l o:List (Int×Int×Int)},wfS o->wfS l->wfS (xG o l)
 |[],o,h,_=>h
 |p::l,o,h,hl=>by
  rw[xG];refine NR ?_ λq e=>hl q (aF _ e)
  split
  ·refine QV h ?_
   intro q e;rw[aN] at e;subst e;exact hl q (aH ..)
  ·exact h
theorem vJ (l:List (Int×Int×Int)):jE zS (kW l)=true:=Jh rfl
theorem sI (l:List (Int×Int×Int)) (c k:Int):jJ (kW l) c k=jJ (l.filter oW) c k:=by rw[kW,Df rfl,jJ,dv]
theorem Dc (l:List (Int×Int×Int)):(kW l).length<=l.length:=by have:=Ji l [];simpa[kW] using this
theorem Yg (h:wfS l):wfS (kW l):=NR (by intro p e;cases e) h
theorem NQ (h:jE a m=true) (hm:∀c k,jJ m c k=jJ (l.filter oW) c k):m=kW l:=
 Bw h (vJ l) λc k=>by rw[hm,sI]
theorem nI:∀{l:List (Int×Int×Int)} {a:Int×Int×Int},jE a l=true->l.filter oW=l
 |[],_,_=>rfl
 |p::l,a,h=>by
  rw[jM] at h;rw[iX (wD.2 ⟨h.2.1,h.2.2.1⟩),nI h.2.2.2]
theorem Qr (h:jE zS l=true):kW l=l:=(NQ h λc k=>by rw[nI h]).symm
def ltB (a b:Int×Int×Int):Bool:=decide (a.1<b.1\/(a.1=b.1/\a.2.1<b.2.1))
theorem lt_iff:ltB a b=true↔(a.1<b.1\/(a.1=b.1/\a.2.1<b.2.1)):=by simp[ltB]
theorem yC:ltB a b=false↔¬(a.1<b.1\/(a.1=b.1/\a.2.1<b.2.1)):=by rw[<-lt_iff];simp
def uQ (l:List (Int×Int×Int)) (s:Int×Int×Int):List (Int×Int×Int):=
 match l.getLast? with
 |none=>[s]
 |some z=>if lH z s then l++[s] else l.dropLast++[(z.1,z.2.1,max z.2.2 s.2.2)]
def qU:List (Int×Int×Int)->List (Int×Int×Int)->List (Int×Int×Int)
 |o,[]=>o
 |o,s::r=>qU (uQ o s) r
theorem EI (o:List (Int×Int×Int)) (s:Int×Int×Int) (r:List (Int×Int×Int)):qU o (s::r)=qU (uQ o s) r:=rfl
theorem add_nil (s:Int×Int×Int):uQ [] s=[s]:=rfl
theorem IC (l:List (Int×Int×Int)) (z s:Int×Int×Int):uQ (l++[z]) s=if lH z s then l++[z]++[s] else l++[(z.1,z.2.1,max z.2.2 s.2.2)]:=by
 simp[uQ]
theorem Ur (l:List (Int×Int×Int)) (s:Int×Int×Int):(uQ l s).length<=l.length+1:=by
 rcases List.eq_nil_or_concat l with e|⟨l0,z,e⟩
 ·subst e;simp[add_nil]
 ·rw[List.concat_eq_append] at e;subst e
  rw[IC];split <;> simp
def Eu:Int×Int×Int->List (Int×Int×Int)->Int×Int×Int
 |a,[]=>a
 |_,p::l=>Eu p l
theorem zm:∀{l:List (Int×Int×Int)} {a z:Int×Int×Int},jE a (l++[z])=true↔jE a l=true/\((Eu a l).1<z.1\/((Eu a l).1=z.1/\(Eu a l).2.2<z.2.1))/\0<z.1/\z.2.1<z.2.2
 |[],a,z=>by rw[List.nil_append,jM];simp[jE,Eu]
 |p::l,a,z=>by
  rw[aJ,jM,jM,zm,Eu];simp only[and_assoc]
theorem G6:∀(l:List (Int×Int×Int)) (a z:Int×Int×Int),Eu a (l++[z])=z
 |[],a,z=>rfl
 |p::l,a,z=>by rw[aJ,Eu,G6 l]
def Sl (o:List (Int×Int×Int)) (s:Int×Int×Int):Prop:=∀z,o.getLast? =some z->ltB s z=false
theorem acI {o:List (Int×Int×Int)} {s:Int×Int×Int} (h:jE zS o=true) (K:Sl o s) (I:0<s.1) (J:s.2.1<s.2.2):
  jE zS (uQ o s)=true/\(∀c k,jJ (uQ o s) c k=(jJ o c k||inS s c k))/\∀t,ltB t s=false->Sl (uQ o s) t:=by
 rcases List.eq_nil_or_concat o with e|⟨l0,z,e⟩
 ·subst e
  rw[add_nil];refine⟨jM.2 ⟨.inl I,I,J,rfl⟩,λc k=>by simp[jJ],λt f z j=>?_⟩;have:s=z:=by simpa using j
  rw[<-this];exact f
 ·rw[List.concat_eq_append] at e
  subst e;have j:=K z ι;rw[yC] at j;rw[IC];have i:=h;rw[zm] at i;cases H:lH z s with
  |true=>
   rw[sO] at H;rw[if_pos rfl];refine⟨?_,λc k=>?_,λt f y u=>?_⟩
   ·rw[zm,G6];exact⟨h,H,I,J⟩
   ·rw[kP];simp[jJ]
   ·have:s=y:=by simpa using u
    rw[<-this];exact f
  |false=>
   rw[D9] at H;rw[if_neg ι];refine⟨?_,λc k=>?_,λt f y u=>?_⟩
   ·rw[zm];exact⟨i.1,i.2.1,i.2.2.1,by simp only;omega⟩
   ·rw[kP,kP]
    simp only[jJ,fO];rw[dD]
    congr 1
    rw[dC,cE,mI,mI,mI];simp only;omega
   ·have:(z.1,z.2.1,max z.2.2 s.2.2)=y:=by simpa using u
    rw[<-this];rw[yC] at f⊢;simp only;omega
theorem KD:∀{r o:List (Int×Int×Int)},jE zS o=true->(∀s∈r,Sl o s)->(∀s∈r,0<s.1/\s.2.1<s.2.2)->r.Pairwise (λs t=>ltB t s=false)->
  jE zS (qU o r)=true/\∀c k,jJ (qU o r) c k=(jJ o c k||jJ r c k)
 |[],o,h,_,_,_=>⟨h,λc k=>by simp[qU,jJ]⟩
 |s::r,o,h,ha,hg,hp=>by
  rw[bd] at hp;have f:=hg s (aH ..);obtain⟨u,j,i⟩:=acI h (ha s (aH ..)) f.1 f.2;obtain⟨c1,c2⟩:=KD (r:=r) u (λt e=>i t (hp.1 t e)) (λt e=>hg t (aF _ e)) hp.2;rw[qU];exact⟨c1,λc k=>by rw[c2,j,jJ,dD]⟩
theorem Sn {r:List (Int×Int×Int)} (e:r.Perm (l.filter oW)) (j:r.Pairwise (λs t=>ltB t s=false)):qU [] r=kW l:=by
 obtain⟨H,u⟩:=KD (r:=r) (o:=[]) rfl (λs _ z f=>by simp at f) (λs i=>by
  have:=e.mem_iff.1 i;rw[List.mem_filter,wD] at this;exact this.2) j
 exact NQ H λc k=>by rw[u,jJ,dv];exact Ve e c k
def tu:List (Int×Int×Int)->List (Int×Int×Int)->List (Int×Int×Int)
 |[],b=>b
 |p::a,[]=>p::a
 |p::a,q::b=>if ltB p q then p::tu a (q::b) else q::tu (p::a) b
termination_by a b=>a.length+b.length
theorem BJ (b:List (Int×Int×Int)):tu [] b=b:=by rw[tu]
theorem Fg (a:List (Int×Int×Int)):tu a []=a:=by cases a <;> rw[tu]
theorem QG (a b:List (Int×Int×Int)) (h:ltB p q=true):tu (p::a) (q::b)=p::tu a (q::b):=by rw[tu,if_pos h]
theorem QH (a b:List (Int×Int×Int)) (h:ltB p q=false):tu (p::a) (q::b)=q::tu (p::a) b:=by rw[tu,if_neg (by simp[h])]
theorem yt:∀(a b:List (Int×Int×Int)),(tu a b).Perm (a++b)
 |[],b=>by rw[BJ];exact List.Perm.refl _
 |p::a,[]=>by rw[Fg,List.append_nil]
 |p::a,q::b=>by
  cases h:ltB p q with
  |true=>rw[QG a b h];exact(yt a (q::b)).cons p
  |false=>
   rw[QH a b h];exact((yt (p::a) b).cons q).trans (List.perm_middle (l₁:=p::a)).symm
termination_by a b=>a.length+b.length
theorem GI:∀{a b:List (Int×Int×Int)},a.Pairwise (λs t=>ltB t s=false)->b.Pairwise (λs t=>ltB t s=false)->(tu a b).Pairwise (λs t=>ltB t s=false)
 |[],b,_,hb=>by rw[BJ];exact hb
 |p::a,[],ha,_=>by rw[Fg];exact ha
 |p::a,q::b,ha,hb=>by
  have i:=bd.1 ha;have f:=bd.1 hb;cases h:ltB p q with
  |true=>
   rw[QG a b h,bd];refine⟨λt j=>?_,GI i.2 hb⟩;rw[lt_iff] at h;rcases aA.1 ((yt a (q::b)).mem_iff.1 j) with g|g
   ·exact i.1 t g
   ·rcases aE.1 g with e|e
    ·subst e;rw[yC];omega
    ·have:=f.1 t e
     rw[yC] at this⊢;omega
  |false=>
   rw[QH a b h,bd];refine⟨λt j=>?_,GI ha f.2⟩;rw[yC] at h;rcases aA.1 ((yt (p::a) b).mem_iff.1 j) with g|g
   ·rcases aE.1 g with e|e
    ·subst e;rw[yC];exact h
    ·have:=i.1 t e
     rw[yC] at this⊢;omega
   ·exact f.1 t g
termination_by a b=>a.length+b.length
theorem uK:∀{l:List (Int×Int×Int)} {a:Int×Int×Int},jE a l=true->∀p∈l,0<p.1/\p.2.1<p.2.2/\(a.1<p.1\/(a.1=p.1/\a.2.2<p.2.1))
 |[],_,_,p,hp=>by cases hp
 |q::l,a,h,p,hp=>by
  rw[jM] at h;rcases aE.1 hp with e|e
  ·subst e;exact⟨h.2.1,h.2.2.1,h.1⟩
  ·have:=uK h.2.2.2 p e
   exact⟨this.1,this.2.1,ω⟩
theorem GL:∀{l:List (Int×Int×Int)} {a:Int×Int×Int},jE a l=true->l.Pairwise (λs t=>ltB t s=false)
 |[],_,_=>eR
 |p::l,a,h=>by
  rw[jM] at h;rw[bd];refine⟨λt e=>?_,GL h.2.2.2⟩;have:=uK h.2.2.2 t e;rw[yC];omega
theorem abC {a b:List (Int×Int×Int)} (f:jE zS a=true) (e:jE zS b=true):qU [] (tu a b)=kW (a++b):=
 Sn (by rw[List.filter_append,nI f,nI e];exact yt a b) (GI (GL f) (GL e))
def lY (p:Int×Int×Int) (c k:Int):Int:=if p.1<c then-1 else if c<p.1 then 1 else if p.2.2<=k then-1 else if k<p.2.1 then 1 else 0
theorem Br:lY p c k<0↔(p.1<c\/(p.1=c/\p.2.2<=k)):=by
 unfold lY;(repeat' split) <;> omega
theorem Da:lY p c k=0↔(p.1=c/\p.2.1<=k/\k<p.2.2):=by
 unfold lY;(repeat' split) <;> omega
theorem yA:∀{l:List (Int×Int×Int)} {a:Int×Int×Int} {i:Nat} {p:Int×Int×Int},jE a l=true->l[i]? =some p->jE p (l.drop (i+1))=true/\p.2.1<p.2.2
 |[],_,_,_,_,h=>by simp at h
 |q::l,a,0,p,hm,h=>by
  rw[jM] at hm;have e:q=p:=by simpa using h
  subst e;exact⟨by simpa using hm.2.2.2,hm.2.2.1⟩
 |q::l,a,i+1,p,hm,h=>by
  rw[jM] at hm;have:=yA (i:=i) hm.2.2.2 (by simpa using h);simpa using this
theorem Ou {i j:Nat} (hm:jE a l=true) (u:i<j) (f:l[i]? =some p) (e:l[j]? =some q):
  (p.1<q.1\/(p.1=q.1/\p.2.2<q.2.1))/\p.2.1<p.2.2/\q.2.1<q.2.2:=by
 obtain⟨I,H⟩:=yA hm f;have z:q∈l.drop (i+1):=List.mem_of_getElem? (i:=j-(i+1)) (by rw[List.getElem?_drop,show i+1+(j-(i+1))=j by omega];exact e);have:=uK I q z;exact⟨this.2.2,H,this.2.1⟩
theorem JB:∀{l:List (Int×Int×Int)} {c k:Int},(∀p∈l,inS p c k=false)->jJ l c k=false
 |[],_,_,_=>rfl
 |p::l,c,k,h=>by rw[jJ,h p (aH ..),JB λq e=>h q (aF _ e)];rfl
theorem V8 {i:Nat} (hm:jE a l=true) (N:∀t p,t<i->l[t]? =some p->lY p c k<0) (M:∀p,l[i]? =some p->0<=lY p c k):
  jJ l c k=match l[i]? with|none=>false|some p=>decide (lY p c k=0):=by
 have z:jJ (l.take i) c k=false:=JB λp H=>by
  obtain⟨t,f⟩:=List.getElem?_of_mem H;rw[List.getElem?_take] at f
  split at f
  ·rename_i u
   have:=N t p u f;rw[Br] at this;rw[uM];omega
  ·cases f
 have I:jJ l c k=jJ (l.drop i) c k:=by
  conv=>lhs;rw[<-List.take_append_drop i l]
  rw[kP,z,dv]
 rw[I];cases hi:l[i]? with
 |none=>
  rw[List.drop_eq_nil_of_le (List.getElem?_eq_none_iff.1 hi)];rfl
 |some p=>
  obtain⟨J,e⟩:=List.getElem?_eq_some_iff.1 hi;rw[List.drop_eq_getElem_cons J,e,jJ];have g:=M p hi;have K:=(yA hm hi).1;by_cases j:lY p c k=0
  ·rw[Da] at j
   simp only;rw[mI.2 j,Bool.true_or,decide_eq_true (Da.2 j)]
  ·have hn:¬lY p c k<0:=ω
   simp only;rw[decide_eq_false j];rw[Da] at j;rw[Br] at hn;rw[uM.2 j,dv];exact mY K ω
end Go.Proofs.YtncfhbpejchbfaaGreatDoor

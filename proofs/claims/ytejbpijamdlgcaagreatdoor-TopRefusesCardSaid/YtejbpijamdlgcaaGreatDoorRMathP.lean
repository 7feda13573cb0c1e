/-
  Plain mathematics of sets of spans (a client, From, To), without memory; no claim stands here.
-/
import Derived.Test.YtejbpijamdlgcaaGreatDoorClnP
set_option linter.unusedVariables false
set_option linter.unusedSimpArgs false
open Bool renaming eq_iff_iff→gu,false_or→fU,or_assoc→gB,or_eq_true→dV,or_false→jR
open List renaming cons_append→aV,filter_cons_of_pos→nk,length_cons→aH,mem_append→aZ,mem_cons_of_mem→aU,mem_cons_self→aW,mem_cons→aS,mem_singleton→cu,pairwise_cons→bM
open List.Pairwise renaming nil→jd
namespace Go.Proofs.YtejbpijamdlgcaaGreatDoor
def qK (a b:Int×Int×Int):Bool:=decide (a.1<b.1\/(a.1=b.1/\a.2.2<b.2.1))
def qQ (p:Int×Int×Int):Bool:=decide (0<p.1/\p.2.1<p.2.2)
variable {a b p q:Int×Int×Int} {c k:Int} {l m:List (Int×Int×Int)}
theorem xD:qK a b=true↔(a.1<b.1\/(a.1=b.1/\a.2.2<b.2.1)):=by simp[qK]
theorem zM:qQ p=true↔(0<p.1/\p.2.1<p.2.2):=by simp[qQ]
theorem GI:qK a b=false↔¬(a.1<b.1\/(a.1=b.1/\a.2.2<b.2.1)):=by rw[<-xD];simp
def wfS (l:List (Int×Int×Int)):Prop:=∀p∈l,0<=p.1/\p.1<=4294967295/\0<=p.2.1/\p.2.1<=4294967295/\0<=p.2.2/\p.2.2<=4294967295
def oC:Int×Int×Int->List (Int×Int×Int)->Bool
 |_,[]=>true
 |a,p::l=>(qK a p&&qQ p)&&oC p l
def zS:Int×Int×Int:=(0,0,0)
theorem oN:oC a (p::l)=true↔(a.1<p.1\/(a.1=p.1/\a.2.2<p.2.1))/\0<p.1/\p.2.1<p.2.2/\oC p l=true:=by
 simp[oC,xD,zM,and_assoc]
theorem MI (h:oC b l=true) (e:b.2.1<b.2.2) (f:a.1<b.1\/(a.1=b.1/\a.2.2<b.2.1)):oC a l=true:=by
 cases l with
 |nil=>rfl
 |cons p l=>rw[oN] at h⊢;exact⟨ω,h.2⟩
theorem Xw (h:oC a l=true):oC zS l=true:=by
 cases l with
 |nil=>rfl
 |cons p l=>rw[oN] at h⊢;exact⟨.inl h.2.1,h.2⟩
def inS (p:Int×Int×Int) (c k:Int):Bool:=decide (p.1=c/\p.2.1<=k/\k<p.2.2)
theorem rD:inS p c k=true↔(p.1=c/\p.2.1<=k/\k<p.2.2):=by simp[inS]
theorem yL:inS p c k=false↔¬(p.1=c/\p.2.1<=k/\k<p.2.2):=by rw[<-rD];simp
def oL:List (Int×Int×Int)->Int->Int->Bool
 |[],_,_=>false
 |p::l,c,k=>inS p c k||oL l c k
theorem qc:∀(l m:List (Int×Int×Int)) (c k:Int),oL (l++m) c k=(oL l c k||oL m c k)
 |[],m,c,k=>by simp[oL]
 |p::l,m,c,k=>by rw[aV,oL,oL,qc l m,gB]
theorem Xt (h:l.Perm m) (c k:Int):oL l c k=oL m c k:=by
 induction h with
 |nil=>rfl
 |cons x _ ih=>rw[oL,oL,ih]
 |swap x y l=>rw[oL,oL,oL,oL,<-gB,<-gB,Bool.or_comm (inS y c k)]
 |trans _ _ f e=>rw[f,e]
theorem rV:∀{l:List (Int×Int×Int)} {a:Int×Int×Int} {c k:Int},oC a l=true->(c<a.1\/(c=a.1/\k<=a.2.2))->oL l c k=false
 |[],_,_,_,_,_=>rfl
 |p::l,a,c,k,h,hc=>by
  rw[oN] at h;rw[oL,rV h.2.2.2 ω,jR,yL];omega
theorem Gg (p:Int×Int×Int) (l:List (Int×Int×Int)) (h:p.2.1<p.2.2):oL (p::l) p.1 p.2.1=true:=by
 rw[oL,rD.2 ⟨rfl,ω,h⟩,Bool.true_or]
theorem Rt (i:p.2.1<p.2.2) (j:q.2.1<q.2.2) (f:oC q m=true) (h:∀c k,oL (p::l) c k=oL (q::m) c k):q.1<p.1\/(q.1=p.1/\q.2.1<=p.2.1):=by
 have e:=h p.1 p.2.1;rw[Gg p l i,oL] at e;cases hi:inS q p.1 p.2.1 with
 |true=>rw[rD] at hi;omega
 |false=>
  rw[hi,fU] at e;rcases Int.lt_trichotomy q.1 p.1 with g|g|g
  ·exact .inl g
  ·rcases Int.lt_or_le q.2.2 p.2.1 with k|k
   ·exact .inr ⟨g,ω⟩
   ·rw[rV f (.inr ⟨g.symm,k⟩)] at e;cases e
  ·rw[rV f (.inl g)] at e;cases e
theorem Rq (e:oC p l=true) (h:∀c k,oL (p::l) c k=oL (q::m) c k) (j:p.1=q.1) (i:p.2.1=q.2.1) (f:p.2.1<p.2.2):q.2.2<=p.2.2:=by
 rcases Int.lt_or_le p.2.2 q.2.2 with g|g
 ·have:=h p.1 p.2.2
  rw[oL,oL,rV e (.inr ⟨rfl,Int.le_refl _⟩),rD.2 (show q.1=p.1/\q.2.1<=p.2.2/\p.2.2<q.2.2 by omega),yL.2 (show¬(p.1=p.1/\p.2.1<=p.2.2/\p.2.2<p.2.2) by omega)] at this;simp at this
 ·exact g
theorem EB:∀{l m:List (Int×Int×Int)} {a b:Int×Int×Int},oC a l=true->oC b m=true->(∀c k,oL l c k=oL m c k)->l=m
 |[],[],_,_,_,_,_=>rfl
 |[],q::m,a,b,_,hm,h=>by
  rw[oN] at hm;have:=h q.1 q.2.1;rw[Gg q m hm.2.2.1] at this;cases this
 |p::l,[],a,b,hl,_,h=>by
  rw[oN] at hl;have:=h p.1 p.2.1;rw[Gg p l hl.2.2.1] at this;cases this
 |p::l,q::m,a,b,hl,hm,h=>by
  rw[oN] at hl hm;have N:=Rt hl.2.2.1 hm.2.2.1 hm.2.2.2 h;have M:=Rt hm.2.2.1 hl.2.2.1 hl.2.2.2 (λc k=>(h c k).symm);have K:=Rq hl.2.2.2 h ω ω hl.2.2.1;have J:=Rq hm.2.2.2 (λc k=>(h c k).symm) ω ω hm.2.2.1;have e:p=q:=by
   obtain⟨I,H,z⟩:=p;obtain⟨u,j,i⟩:=q;simp only at N M K J;have:I=u:=ω
   have:H=j:=ω
   have:z=i:=ω
   simp_all
  subst e;rw[EB hl.2.2.2 hm.2.2.2 λc k=>?_];have f:=h c k;rw[oL,oL] at f;cases hi:inS p c k with
  |false=>rw[hi] at f;simpa using f
  |true=>
   rw[rD] at hi;rw[rV hl.2.2.2 ω,rV hm.2.2.2 ω]
def BJ (s x:Int×Int×Int):Int×Int×Int:=(s.1,min s.2.1 x.2.1,max s.2.2 x.2.2)
def wW:List (Int×Int×Int)->Int×Int×Int->List (Int×Int×Int)
 |[],s=>[s]
 |x::l,s=>if qK x s then x::wW l s else if qK s x then s::x::l else wW l (BJ s x)
theorem Iz:∀{l:List (Int×Int×Int)} {a s:Int×Int×Int},oC a l=true->(a.1<s.1\/(a.1=s.1/\a.2.2<s.2.1))->0<s.1->s.2.1<s.2.2->oC a (wW l s)=true
 |[],a,s,_,h1,h2,h3=>by rw[wW,oN];exact⟨h1,h2,h3,rfl⟩
 |x::l,a,s,h,h1,h2,h3=>by
  rw[oN] at h;rw[wW];cases e:qK x s with
  |true=>
   rw[xD] at e;rw[if_pos rfl,oN];exact⟨h.1,h.2.1,h.2.2.1,Iz h.2.2.2 e h2 h3⟩
  |false=>
   rw[if_neg ι];cases f:qK s x with
   |true=>
    rw[xD] at f;rw[if_pos rfl,oN,oN];exact⟨h1,h2,h3,f,h.2⟩
   |false=>
    rw[GI] at e f;rw[if_neg ι];refine Iz (MI h.2.2.2 h.2.2.1 h.1) ?_ h2 ?_
    ·simp only[BJ];omega
    ·simp only[BJ];omega
theorem aad {s x:Int×Int×Int} (j:s.2.1<s.2.2) (i:x.2.1<x.2.2) (f:qK x s=false) (e:qK s x=false) (c k:Int):inS (BJ s x) c k=(inS s c k||inS x c k):=by
 rw[GI] at f e;rw[gu,dV,rD,rD,rD];simp only[BJ];omega
theorem OB:∀{l:List (Int×Int×Int)} {a s:Int×Int×Int},oC a l=true->s.2.1<s.2.2->∀c k,oL (wW l s) c k=(inS s c k||oL l c k)
 |[],a,s,_,h3,c,k=>by simp[wW,oL]
 |x::l,a,s,h,h3,c,k=>by
  rw[oN] at h;rw[wW];cases e:qK x s with
  |true=>rw[if_pos rfl,oL,oL,OB h.2.2.2 h3,<-gB,<-gB,Bool.or_comm (inS x c k)]
  |false=>
   rw[if_neg ι];cases f:qK s x with
   |true=>rw[if_pos rfl,oL]
   |false=>rw[if_neg ι,OB h.2.2.2 (by simp only[BJ];omega),aad h3 h.2.2.1 e f,oL,gB]
theorem OC:∀(l:List (Int×Int×Int)) (s:Int×Int×Int),(wW l s).length<=l.length+1
 |[],s=>by simp[wW]
 |x::l,s=>by
  rw[wW]
  split
  ·have:=OC l s;simp only[aH];omega
  ·split
   ·simp
   ·have:=OC l (BJ s x);simp only[aH];omega
theorem TT:∀{l:List (Int×Int×Int)} {s:Int×Int×Int},wfS l->wfS [s]->wfS (wW l s)
 |[],s,_,h=>by rw[wW];exact h
 |x::l,s,hl,hs=>by
  have u:=hl x (aW ..);have i:wfS l:=λq f=>hl q (aU _ f)
  have j:=hs s (aW ..);rw[wW]
  split
  ·have ih:=TT i hs
   intro q f;rcases aS.1 f with e|e
   ·rw[e];exact u
   ·exact ih q e
  ·split
   ·intro q f
    rcases aS.1 f with e|e
    ·rw[e];exact j
    ·exact hl q e
   ·refine TT i ?_
    intro q f;rw[cu] at f;subst f;simp only[BJ];omega
def ad9:List (Int×Int×Int)->Int
 |[]=>0
 |p::l=>(p.2.2-p.2.1)+ad9 l
theorem UE:∀{l:List (Int×Int×Int)} {a:Int×Int×Int},oC a l=true->0<=ad9 l
 |[],_,_=>by simp[ad9]
 |p::l,a,h=>by
  rw[oN] at h;have:=UE h.2.2.2;rw[ad9];omega
def AQ:List (Int×Int×Int)->List (Int×Int×Int)->List (Int×Int×Int)
 |o,[]=>o
 |o,p::l=>AQ (if qQ p then wW o p else o) l
def pY (l:List (Int×Int×Int)):List (Int×Int×Int):=AQ [] l
theorem LP:∀{l o:List (Int×Int×Int)},oC zS o=true->oC zS (AQ o l)=true
 |[],o,h=>h
 |p::l,o,h=>by
  rw[AQ];refine LP ?_;cases e:qQ p with
  |false=>exact h
  |true=>
   rw[zM] at e;rw[if_pos rfl];exact Iz h (.inl e.1) e.1 e.2
theorem FR:∀{l o:List (Int×Int×Int)},oC zS o=true->∀c k,oL (AQ o l) c k=(oL o c k||oL (l.filter qQ) c k)
 |[],o,h,c,k=>by simp[AQ,oL]
 |p::l,o,h,c,k=>by
  rw[AQ];cases e:qQ p with
  |false=>rw[if_neg ι,List.filter_cons_of_neg (by simp[e]),FR h]
  |true=>
   rw[nk e];rw[zM] at e;rw[if_pos rfl,FR (Iz h (.inl e.1) e.1 e.2),OB h e.2,oL,<-gB,Bool.or_comm (oL o c k)]
theorem LQ:∀(l o:List (Int×Int×Int)),(AQ o l).length<=o.length+l.length
 |[],o=>by simp[AQ]
 |p::l,o=>by
  rw[AQ];have f:=LQ l (if qQ p then wW o p else o);have i:=OC o p;rw[aH]
  split at f <;> rename_i e
  ·rw[if_pos e];omega
  ·rw[if_neg e];omega
theorem Qk:∀{l o:List (Int×Int×Int)},wfS o->wfS l->wfS (AQ o l)
 |[],o,h,_=>h
 |p::l,o,h,hl=>by
  rw[AQ];refine Qk ?_ λq e=>hl q (aU _ e)
  split
  ·refine TT h ?_
   intro q e;rw[cu] at e;subst e;exact hl q (aW ..)
  ·exact h
theorem tH (l:List (Int×Int×Int)):oC zS (pY l)=true:=LP rfl
theorem uR (l:List (Int×Int×Int)) (c k:Int):oL (pY l) c k=oL (l.filter qQ) c k:=by rw[pY,FR rfl,oL,fU]
theorem CS (l:List (Int×Int×Int)):(pY l).length<=l.length:=by have:=LQ l [];simpa[pY] using this
theorem I9 (h:wfS l):wfS (pY l):=Qk (by intro p e;cases e) h
theorem Qj (h:oC a m=true) (e:∀c k,oL m c k=oL (l.filter qQ) c k):m=pY l:=
 EB h (tH l) λc k=>by rw[e,uR]
theorem tq:∀{l:List (Int×Int×Int)} {a:Int×Int×Int},oC a l=true->l.filter qQ=l
 |[],_,_=>rfl
 |p::l,a,h=>by
  rw[oN] at h;rw[nk (zM.2 ⟨h.2.1,h.2.2.1⟩),tq h.2.2.2]
theorem SV (h:oC zS l=true):pY l=l:=(Qj h λc k=>by rw[tq h]).symm
def ltB (a b:Int×Int×Int):Bool:=decide (a.1<b.1\/(a.1=b.1/\a.2.1<b.2.1))
theorem lt_iff:ltB a b=true↔(a.1<b.1\/(a.1=b.1/\a.2.1<b.2.1)):=by simp[ltB]
theorem yT:ltB a b=false↔¬(a.1<b.1\/(a.1=b.1/\a.2.1<b.2.1)):=by rw[<-lt_iff];simp
def wX (l:List (Int×Int×Int)) (s:Int×Int×Int):List (Int×Int×Int):=
 match l.getLast? with
 |none=>[s]
 |some z=>if qK z s then l++[s] else l.dropLast++[(z.1,z.2.1,max z.2.2 s.2.2)]
def sZ:List (Int×Int×Int)->List (Int×Int×Int)->List (Int×Int×Int)
 |o,[]=>o
 |o,s::r=>sZ (wX o s) r
theorem CF (o:List (Int×Int×Int)) (s:Int×Int×Int) (r:List (Int×Int×Int)):sZ o (s::r)=sZ (wX o s) r:=rfl
theorem add_nil (s:Int×Int×Int):wX [] s=[s]:=rfl
theorem KQ (l:List (Int×Int×Int)) (z s:Int×Int×Int):wX (l++[z]) s=if qK z s then l++[z]++[s] else l++[(z.1,z.2.1,max z.2.2 s.2.2)]:=by
 simp[wX]
theorem Pz (l:List (Int×Int×Int)) (s:Int×Int×Int):(wX l s).length<=l.length+1:=by
 rcases List.eq_nil_or_concat l with e|⟨l0,z,e⟩
 ·subst e;simp[add_nil]
 ·rw[List.concat_eq_append] at e;subst e
  rw[KQ];split <;> simp
def He:Int×Int×Int->List (Int×Int×Int)->Int×Int×Int
 |a,[]=>a
 |_,p::l=>He p l
theorem Da:∀{l:List (Int×Int×Int)} {a z:Int×Int×Int},oC a (l++[z])=true↔oC a l=true/\((He a l).1<z.1\/((He a l).1=z.1/\(He a l).2.2<z.2.1))/\0<z.1/\z.2.1<z.2.2
 |[],a,z=>by rw[List.nil_append,oN];simp[oC,He]
 |p::l,a,z=>by
  rw[aV,oN,oN,Da,He];simp only[and_assoc]
theorem JR:∀(l:List (Int×Int×Int)) (a z:Int×Int×Int),He a (l++[z])=z
 |[],a,z=>rfl
 |p::l,a,z=>by rw[aV,He,JR l]
def U0 (o:List (Int×Int×Int)) (s:Int×Int×Int):Prop:=∀z,o.getLast? =some z->ltB s z=false
theorem aeo {o:List (Int×Int×Int)} {s:Int×Int×Int} (h:oC zS o=true) (K:U0 o s) (I:0<s.1) (J:s.2.1<s.2.2):
  oC zS (wX o s)=true/\(∀c k,oL (wX o s) c k=(oL o c k||inS s c k))/\∀t,ltB t s=false->U0 (wX o s) t:=by
 rcases List.eq_nil_or_concat o with e|⟨l0,z,e⟩
 ·subst e
  rw[add_nil];refine⟨oN.2 ⟨.inl I,I,J,rfl⟩,λc k=>by simp[oL],λt f z j=>?_⟩;have:s=z:=by simpa using j
  rw[<-this];exact f
 ·rw[List.concat_eq_append] at e
  subst e;have j:=K z ι;rw[yT] at j;rw[KQ];have i:=h;rw[Da] at i;cases H:qK z s with
  |true=>
   rw[xD] at H;rw[if_pos rfl];refine⟨?_,λc k=>?_,λt f y u=>?_⟩
   ·rw[Da,JR];exact⟨h,H,I,J⟩
   ·rw[qc];simp[oL]
   ·have:s=y:=by simpa using u
    rw[<-this];exact f
  |false=>
   rw[GI] at H;rw[if_neg ι];refine⟨?_,λc k=>?_,λt f y u=>?_⟩
   ·rw[Da];exact⟨i.1,i.2.1,i.2.2.1,by simp only;omega⟩
   ·rw[qc,qc]
    simp only[oL,jR];rw[gB]
    congr 1
    rw[gu,dV,rD,rD,rD];simp only;omega
   ·have:(z.1,z.2.1,max z.2.2 s.2.2)=y:=by simpa using u
    rw[<-this];rw[yT] at f⊢;simp only;omega
theorem NH:∀{r o:List (Int×Int×Int)},oC zS o=true->(∀s∈r,U0 o s)->(∀s∈r,0<s.1/\s.2.1<s.2.2)->r.Pairwise (λs t=>ltB t s=false)->
  oC zS (sZ o r)=true/\∀c k,oL (sZ o r) c k=(oL o c k||oL r c k)
 |[],o,h,_,_,_=>⟨h,λc k=>by simp[sZ,oL]⟩
 |s::r,o,h,ha,hg,hp=>by
  rw[bM] at hp;have f:=hg s (aW ..);obtain⟨u,j,i⟩:=aeo h (ha s (aW ..)) f.1 f.2;obtain⟨c1,c2⟩:=NH (r:=r) u (λt e=>i t (hp.1 t e)) (λt e=>hg t (aU _ e)) hp.2;rw[sZ];exact⟨c1,λc k=>by rw[c2,j,oL,gB]⟩
theorem KT {r:List (Int×Int×Int)} (e:r.Perm (l.filter qQ)) (j:r.Pairwise (λs t=>ltB t s=false)):sZ [] r=pY l:=by
 obtain⟨H,u⟩:=NH (r:=r) (o:=[]) rfl (λs _ z f=>by simp at f) (λs i=>by
  have:=e.mem_iff.1 i;rw[List.mem_filter,zM] at this;exact this.2) j
 exact Qj H λc k=>by rw[u,oL,fU];exact Xt e c k
def xM:List (Int×Int×Int)->List (Int×Int×Int)->List (Int×Int×Int)
 |[],b=>b
 |p::a,[]=>p::a
 |p::a,q::b=>if ltB p q then p::xM a (q::b) else q::xM (p::a) b
termination_by a b=>a.length+b.length
theorem EH (b:List (Int×Int×Int)):xM [] b=b:=by rw[xM]
theorem Iy (a:List (Int×Int×Int)):xM a []=a:=by cases a <;> rw[xM]
theorem TG (a b:List (Int×Int×Int)) (h:ltB p q=true):xM (p::a) (q::b)=p::xM a (q::b):=by rw[xM,if_pos h]
theorem TH (a b:List (Int×Int×Int)) (h:ltB p q=false):xM (p::a) (q::b)=q::xM (p::a) b:=by rw[xM,if_neg (by simp[h])]
theorem BI:∀(a b:List (Int×Int×Int)),(xM a b).Perm (a++b)
 |[],b=>by rw[EH];exact List.Perm.refl _
 |p::a,[]=>by rw[Iy,List.append_nil]
 |p::a,q::b=>by
  cases h:ltB p q with
  |true=>rw[TG a b h];exact(BI a (q::b)).cons p
  |false=>
   rw[TH a b h];exact((BI (p::a) b).cons q).trans (List.perm_middle (l₁:=p::a)).symm
termination_by a b=>a.length+b.length
theorem JF:∀{a b:List (Int×Int×Int)},a.Pairwise (λs t=>ltB t s=false)->b.Pairwise (λs t=>ltB t s=false)->(xM a b).Pairwise (λs t=>ltB t s=false)
 |[],b,_,hb=>by rw[EH];exact hb
 |p::a,[],ha,_=>by rw[Iy];exact ha
 |p::a,q::b,ha,hb=>by
  have i:=bM.1 ha;have f:=bM.1 hb;cases h:ltB p q with
  |true=>
   rw[TG a b h,bM];refine⟨λt j=>?_,JF i.2 hb⟩;rw[lt_iff] at h;rcases aZ.1 ((BI a (q::b)).mem_iff.1 j) with g|g
   ·exact i.1 t g
   ·rcases aS.1 g with e|e
    ·subst e;rw[yT];omega
    ·have:=f.1 t e
     rw[yT] at this⊢;omega
  |false=>
   rw[TH a b h,bM];refine⟨λt j=>?_,JF ha f.2⟩;rw[yT] at h;rcases aZ.1 ((BI (p::a) b).mem_iff.1 j) with g|g
   ·rcases aS.1 g with e|e
    ·subst e;rw[yT];exact h
    ·have:=i.1 t e
     rw[yT] at this⊢;omega
   ·exact f.1 t g
termination_by a b=>a.length+b.length
theorem yJ:∀{l:List (Int×Int×Int)} {a:Int×Int×Int},oC a l=true->∀p∈l,0<p.1/\p.2.1<p.2.2/\(a.1<p.1\/(a.1=p.1/\a.2.2<p.2.1))
 |[],_,_,p,hp=>by cases hp
 |q::l,a,h,p,hp=>by
  rw[oN] at h;rcases aS.1 hp with e|e
  ·subst e;exact⟨h.2.1,h.2.2.1,h.1⟩
  ·have:=yJ h.2.2.2 p e
   exact⟨this.1,this.2.1,ω⟩
theorem JI:∀{l:List (Int×Int×Int)} {a:Int×Int×Int},oC a l=true->l.Pairwise (λs t=>ltB t s=false)
 |[],_,_=>jd
 |p::l,a,h=>by
  rw[oN] at h;rw[bM];refine⟨λt e=>?_,JI h.2.2.2⟩;have:=yJ h.2.2.2 t e;rw[yT];omega
theorem adg {a b:List (Int×Int×Int)} (f:oC zS a=true) (e:oC zS b=true):sZ [] (xM a b)=pY (a++b):=
 KT (by rw[List.filter_append,tq f,tq e];exact BI a b) (JF (JI f) (JI e))
def qU (p:Int×Int×Int) (c k:Int):Int:=if p.1<c then-1 else if c<p.1 then 1 else if p.2.2<=k then-1 else if k<p.2.1 then 1 else 0
theorem Ez:qU p c k<0↔(p.1<c\/(p.1=c/\p.2.2<=k)):=by
 unfold qU;(repeat' split) <;> omega
theorem FP:qU p c k=0↔(p.1=c/\p.2.1<=k/\k<p.2.2):=by
 unfold qU;(repeat' split) <;> omega
theorem BL:∀{l:List (Int×Int×Int)} {a:Int×Int×Int} {i:Nat} {p:Int×Int×Int},oC a l=true->l[i]? =some p->oC p (l.drop (i+1))=true/\p.2.1<p.2.2
 |[],_,_,_,_,h=>by simp at h
 |q::l,a,0,p,hm,h=>by
  rw[oN] at hm;have e:q=p:=by simpa using h
  subst e;exact⟨by simpa using hm.2.2.2,hm.2.2.1⟩
 |q::l,a,i+1,p,hm,h=>by
  rw[oN] at hm;have:=BL (i:=i) hm.2.2.2 (by simpa using h);simpa using this
theorem QJ {i j:Nat} (u:oC a l=true) (z:i<j) (f:l[i]? =some p) (e:l[j]? =some q):
  (p.1<q.1\/(p.1=q.1/\p.2.2<q.2.1))/\p.2.1<p.2.2/\q.2.1<q.2.2:=by
 obtain⟨J,I⟩:=BL u f;have H:q∈l.drop (i+1):=List.mem_of_getElem? (i:=j-(i+1)) (by rw[List.getElem?_drop,show i+1+(j-(i+1))=j by omega];exact e);have:=yJ J q H;exact⟨this.2.2,I,this.2.1⟩
theorem MG:∀{l:List (Int×Int×Int)} {c k:Int},(∀p∈l,inS p c k=false)->oL l c k=false
 |[],_,_,_=>rfl
 |p::l,c,k,h=>by rw[oL,h p (aW ..),MG λq e=>h q (aU _ e)];rfl
theorem Yd {i:Nat} (J:oC a l=true) (Q:∀t p,t<i->l[t]? =some p->qU p c k<0) (O:∀p,l[i]? =some p->0<=qU p c k):
  oL l c k=match l[i]? with|none=>false|some p=>decide (qU p c k=0):=by
 have z:oL (l.take i) c k=false:=MG λp H=>by
  obtain⟨t,f⟩:=List.getElem?_of_mem H;rw[List.getElem?_take] at f
  split at f
  ·rename_i u
   have:=Q t p u f;rw[Ez] at this;rw[yL];omega
  ·cases f
 have K:oL l c k=oL (l.drop i) c k:=by
  conv=>lhs;rw[<-List.take_append_drop i l]
  rw[qc,z,fU]
 rw[K];cases hi:l[i]? with
 |none=>
  rw[List.drop_eq_nil_of_le (List.getElem?_eq_none_iff.1 hi)];rfl
 |some p=>
  obtain⟨M,e⟩:=List.getElem?_eq_some_iff.1 hi;rw[List.drop_eq_getElem_cons M,e,oL];have g:=O p hi;have N:=(BL J hi).1;by_cases j:qU p c k=0
  ·rw[FP] at j
   simp only;rw[rD.2 j,Bool.true_or,decide_eq_true (FP.2 j)]
  ·have I:¬qU p c k<0:=ω
   simp only;rw[decide_eq_false j];rw[FP] at j;rw[Ez] at I;rw[yL.2 j,fU];exact rV N ω
end Go.Proofs.YtejbpijamdlgcaaGreatDoor

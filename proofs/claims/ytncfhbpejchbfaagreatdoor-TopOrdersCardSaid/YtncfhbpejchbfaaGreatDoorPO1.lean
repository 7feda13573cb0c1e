/-
  Lemmas of this seat; no claim.
-/
import Derived.Test.YtncfhbpejchbfaaGreatDoorPE2
set_option linter.unusedVariables false
set_option linter.unusedSimpArgs false
set_option maxRecDepth 100000
set_option maxHeartbeats 32000000
open Array renaming getElem?_eq_some_iff→an
open Bool renaming false_or→dv
open Classical renaming propDecidable→ir
open Go renaming Value→au,World→ae
open Go.Lib renaming hid→ac
open Go.World renaming block_lt_of_cell?→cK
open Go.World.grownBy renaming size→cN
open Go.World.ownsRow renaming kept→eY,lt→bQ
open List renaming any_eq_true→iU,getElem?_eq_getElem→ay,length_append→ag,length_map→fs,map_cons→bA,mem_append_left→aX,mem_append_right→aM,mem_append→aA,mem_cons→aE,mem_filter→dY,mem_of_getElem?→aD,mem_singleton→aN,pairwise_append→co
open Nat renaming le_refl→am,le_trans→az,zero_le→bN
open Option.some renaming injEq→aL,inj→cO
open Prod.mk renaming injEq→bg
open Go.Proofs.Tryz
open Go.Proofs.Tryz renaming prog→pg
namespace Go.Proofs.YtncfhbpejchbfaaGreatDoor
section
open Go.Lib
section
structure xL (S:DS):Prop where
 ok:DOK S
 run:wH [] S.L S.V
 apart:oL (S.L++S.Wt)
 rest:∀x∈S.Wt,qD S.V x=false
variable {S:DS}
theorem xL.new {c l:Int} (h:DOK (newS c l)):xL (newS c l):=⟨h,.nil _,.nil,λx a=>by cases a⟩
def knD (S:DS) (x:It):Prop:=x∈S.L\/x∈S.Wt
theorem TH {L:List It} {x:It} (h:x∈L):jw L (iid x)=true:=(jO).2 ⟨x,h,rfl⟩
theorem SB {x:It} (h:hasK S x=true):Ni S x∈S.L\/Ni S x∈S.Wt:=by
 unfold hasK at h;unfold Ni;cases a:jw S.L (iid x) with
 |true=>rw[if_pos rfl];exact .inl (Ao a).1
 |false=>
  rw[a,dv] at h;rw[if_neg ι];exact .inr (Ao h).1
theorem XI (h:xL S) {b:List UInt8} {rs:List Rn} {ds:List Sp} (I:kT b=some (rs,ds)) (U:qE S b=0):
  xL (mG S b)/\(∀x,knD (mG S b) x↔knD S x\/x∈jr rs)/\(mG S b).D=kW (S.D++ds)/\(mG S b).closed=S.closed/\(mG S b).cl=S.cl:=by
 obtain⟨_,Y,a0,i,hn,_⟩:=yR U;rw[I] at i;simp only[aL,bg] at i;obtain⟨rfl,rfl⟩:=i;have A:=D8 h.ok I hn;have H:=aaC h.ok b;obtain⟨t,O⟩:∃t,lJ S.V (S.Wt++lq S (jr rs))=t:=⟨_,rfl⟩;have tk:=A.tk;have ap:=A.apart;rw[O] at tk;have hS:(mG S b).L=S.L++t.1/\(mG S b).V=t.2.2/\(mG S b).Wt=t.2.1/\(mG S b).D=kW (S.D++ds)/\(mG S b).closed=S.closed/\(mG S b).cl=S.cl:=by
  unfold mG;rw[if_pos U,I];simp only[O,and_self]
 obtain⟨M,X,K,e4,e5,Z⟩:=hS;have u:∀x,x∈lq S (jr rs)↔x∈jr rs/\hasK S x=false:=λx=>by unfold lq;rw[dY];simp
 have J:oL (S.L++(S.Wt++lq S (jr rs))):=by
  have W:=co.1 h.apart;refine co.2 ⟨W.1,ap,λx f y j=>?_⟩;rcases aA.1 j with j|j
  ·exact W.2.2 x f y j
  ·intro e
   have:=((u y).1 j).2;unfold hasK at this;rw[<-e,TH f] at this;cases this
 have q:((S.L++t.1)++t.2.1).Perm (S.L++(S.Wt++lq S (jr rs))):=by
  rw[List.append_assoc];exact List.Perm.append_left _ tk.perm
 refine⟨⟨H,by rw[M,X];exact aa8 h.run tk.run,by rw[M,K];exact qR q.symm J,by rw[X,K];exact tk.none⟩,λx=>?_,e4,e5,Z⟩;have hm:=q.mem_iff (a:=x);unfold knD;rw[M,K,<-aA,hm];simp only[aA,u];constructor
 ·rintro(f|f|f)
  ·exact .inl (.inl f)
  ·exact .inl (.inr f)
  ·exact .inr f.1
 ·rintro((f|f)|f)
  ·exact .inl f
  ·exact .inr (.inl f)
  ·cases Q:hasK S x with
   |false=>exact .inr (.inr ⟨f,rfl⟩)
   |true=>
    have z:uY S x=false:=by
     cases z:uY S x with
     |false=>rfl
     |true=>rw[iU.2 ⟨x,f,z⟩] at hn;cases hn
    unfold uY at z;rw[if_pos Q] at z;have:=Fv.1 (by simpa using z);have N:=SB Q;rw[this] at N;exact N.elim .inl λh=> .inr (.inl h)
theorem Jw:∀{l:List I2} {a:Int},0<=a->jB a l=true->jq l 0=0
 |[],_,_,_=>rfl
 |p::l,a,ha,h=>by
  simp only[jB,Bool.and_eq_true,decide_eq_true_eq] at h;have:=Jw (l:=l) (a:=p.1) ω (by simp_all);simp only[jq];rw[if_neg ω,this]
theorem xL.okS (h:xL S):∀x∈S.L++S.Wt,okW x:=λx a=>by
 rcases aA.1 a with a|a
 ·have i:=(h.ok.cnt x.c x.k).1 (TH a)
  have hn:=Lx (l:=S.V) x.c h.ok.wfV;have f:=(h.ok.wfL x a).1;have j:x.c≠0:=λe=>by
   have:=Jw (Int.le_refl 0) h.ok.yB;rw[e] at i;omega
  unfold wfI at f;exact⟨ω,ω,ω,ω⟩
 ·exact(h.ok.wfW x a).2.1
theorem Jd {T:DS} (h:xL S) (k:xL T) (e:∀x,knD S x↔knD T x):S.V=T.V/\(∀x,x∈S.L↔x∈T.L)/\S.Wt=T.Wt:=by
 have i:∀x,x∈T.L++T.Wt↔x∈S.L++S.Wt:=λx=>by rw[aA,aA];exact(e x).symm
 obtain⟨f,z⟩:=Yk (v:=[]) h.apart rfl h.okS (λx a=>by have:=(h.okS x a).2.2.1;simp[jq];omega) h.run (λx a=>aX _ a) (λx a hn=>h.rest x ((aA.1 a).resolve_left hn))
  k.run (λx a=>(i x).1 (aX _ a)) (λx a hn=>k.rest x ((aA.1 ((i x).2 a)).resolve_left hn))
 refine⟨z (λp u=>by cases u),f,NV h.ok.rise k.ok.rise λx=>?_⟩;have q:=(co.1 h.apart).2.2;have j:=(co.1 k.apart).2.2;constructor
 ·intro a
  rcases(e x).1 (.inr a) with hy|hy
  ·exact absurd rfl (q x ((f x).2 hy) x a)
  ·exact hy
 ·intro a
  rcases(e x).2 (.inr a) with hy|hy
  ·exact absurd rfl (j x ((f x).1 hy) x a)
  ·exact hy
theorem Uy {T:DS} (h:xL S) (k:xL T) (e:∀x,knD S x↔knD T x) (z:S.D=T.D):S.E=T.E:=by
 obtain⟨_,j,_⟩:=Jd h k e;unfold DS.E;rw[z];refine PD h.ok.kn k.ok.kn j λa i=>?_
 have u:jw T.L a=true:=by
  obtain⟨x,q,f⟩:=jO.1 i;exact jO.2 ⟨x,(j x).1 q,f⟩
 rw[MK i,MK u]
end
theorem aaT {S T:DS} (h:xL S) (k:xL T) (H:∀x,knD T x->knD S x) (N:T.closed=false) {b:List UInt8} {rs:List Rn} {ds:List Sp} (z:kT b=some (rs,ds)) (q:∀x∈jr rs,knD S x/\x.c≠T.cl) (M:(S.L++S.Wt).length<=1000):qE T b=0:=by
 have hS:∀x,knD S x↔x∈S.L++S.Wt:=λx=>aA.symm
 have hn:(jr rs).any (uY T)=false:=by
  rw[Bool.eq_false_iff];intro f;obtain⟨x,j,a⟩:=iU.1 f;unfold uY at a;cases e:hasK T x with
  |false=>
   rw[e,if_neg ι] at a;exact(q x j).2 (of_decide_eq_true a)
  |true=>
   rw[e,if_pos rfl] at a;have J:=SB e;have hi:iid (Ni T x)=iid x:=by
       unfold hasK at e;unfold Ni;cases I:jw T.L (iid x) with
       |true=>rw[if_pos rfl];exact(Ao I).2
       |false=>
        rw[I,dv] at e;rw[if_neg ι];exact(Ao e).2
   have:=zB h.apart ((hS _).1 (H _ J)) ((hS _).1 (q x j).1) hi;rw[Fv.2 this] at a;cases a
 have A:=D8 k.ok z hn;have u:((lJ T.V (T.Wt++lq T (jr rs))).2.1).length<=1000:=by
  refine az ?_ M
  haveI:DecidableEq It:=λ_ _=>ir _
  have K:=qR A.tk.perm.symm A.apart;refine LH (EG (co.1 K).2.1) λx j=>?_
  rcases aA.1 (A.tk.perm.mem_iff.1 (aM _ j)) with i|i
  ·exact(hS x).1 (H x (.inr i))
  ·unfold lq at i
   exact(hS x).1 (q x (dY.1 i).1).1
 unfold qE;rw[N,z];simp only[Bool.false_eq_true,if_false,hn];rw[if_neg ω]
theorem XH {S:DS} (h:xL S) {b:List UInt8} (e:qE S b=0):∃rs ds,kT b=some (rs,ds)/\xL (mG S b)/\(∀x,knD (mG S b) x↔knD S x\/x∈jr rs)/\(mG S b).D=kW (S.D++ds)/\(mG S b).closed=S.closed/\(mG S b).cl=S.cl:=by
 obtain⟨_,rs,ds,a,_,_⟩:=yR e;exact⟨rs,ds,a,XI h a e⟩
section
variable {S:DS} {l:List (List UInt8)}
theorem aa4 {D ds:List Sp} (h:jE zS D=true) (a:jE zS ds=true) (c k:Int):jJ (kW (D++ds)) c k=(jJ D c k||jJ ds c k):=by
 rw[sI,List.filter_append,nI h,nI a,kP]
def itB (l:List (List UInt8)) (x:It):Prop:=∃b∈l,∃rs ds,kT b=some (rs,ds)/\x∈jr rs
def deB (l:List (List UInt8)) (c k:Int):Prop:=∃b∈l,∃rs ds,kT b=some (rs,ds)/\jJ ds c k=true
structure tY (S:DS) (l:List (List UInt8)):Prop where
 tk:xL S
 its:∀x,knD S x↔itB l x
 del:∀c k,jJ S.D c k=true↔deB l c k
 open_:S.closed=false
theorem tY.new {c l:Int} (h:DOK (newS c l)):tY (newS c l) []:=
 ⟨xL.new h,λx=>⟨λe=>(by rcases e with e|e <;> cases e),λ⟨b,hb,_⟩=>by cases hb⟩,λc k=>⟨λe=>(by simp[newS,jJ] at e),λ⟨b,hb,_⟩=>by cases hb⟩,rfl⟩
theorem tY.app (h:tY S l) {b:List UInt8} (K:qE S b=0):tY (mG S b) (l++[b])/\(mG S b).cl=S.cl:=by
 obtain⟨rs,ds,u,H,J,N,I,z⟩:=XH h.tk K;have M:=(Iz u).1;refine⟨⟨H,λx=>?_,λc k=>?_,by rw[I,h.open_]⟩,z⟩
 ·rw[J,h.its]
  constructor
  ·rintro(⟨q,e,rest⟩|f)
   ·exact⟨q,aX _ e,rest⟩
   ·exact⟨b,aM _ (aN.2 rfl),rs,ds,u,f⟩
  ·rintro⟨q,e,i,j,a,f⟩
   rcases aA.1 e with hm|hm
   ·exact .inl ⟨q,hm,i,j,a,f⟩
   ·rw[aN] at hm
    subst hm;rw[u] at a;simp only[aL,bg] at a;exact .inr (a.1▸f)
 ·rw[N,aa4 h.tk.ok.Aj M.Aj,Bool.or_eq_true,h.del]
  constructor
  ·rintro(⟨q,e,rest⟩|f)
   ·exact⟨q,aX _ e,rest⟩
   ·exact⟨b,aM _ (aN.2 rfl),rs,ds,u,f⟩
  ·rintro⟨q,e,i,j,a,f⟩
   rcases aA.1 e with hm|hm
   ·exact .inl ⟨q,hm,i,j,a,f⟩
   ·rw[aN] at hm
    subst hm;rw[u] at a;simp only[aL,bg] at a;exact .inr (a.2▸f)
theorem tY.take {T:DS} {m:List (List UInt8)} (h:tY S l) (k:tY T m) (hm:∀b∈m,b∈l) {b:List UInt8} (u:b∈l) (a:∃z,kT b=some z) (f:∀x,itB l x->x.c≠T.cl) (q:(S.L++S.Wt).length<=1000):qE T b=0:=by
 obtain⟨⟨rs,ds⟩,a⟩:=a;refine aaT h.tk k.tk (λx e=>?_) k.open_ a (λx e=>?_) q
 ·obtain⟨j,i,rest⟩:=(k.its x).1 e
  exact(h.its x).2 ⟨j,hm j i,rest⟩
 ·have:itB l x:=⟨b,u,rs,ds,a,e⟩
  exact⟨(h.its x).2 this,f x this⟩
theorem tY.meet {T:DS} {m:List (List UInt8)} (h:tY S l) (k:tY T m) (e:∀b,b∈l↔b∈m):S.V=T.V/\S.Wt=T.Wt/\S.E=T.E:=by
 have hi:∀x,knD S x↔knD T x:=λx=>by
  rw[h.its,k.its];unfold itB;simp only[e]
 have a:S.D=T.D:=Bw h.tk.ok.Aj k.tk.ok.Aj λc j=>by
  rw[Bool.eq_iff_iff,h.del,k.del];unfold deB;simp only[e]
 obtain⟨i,_,f⟩:=Jd h.tk k.tk hi;exact⟨i,f,Uy h.tk k.tk hi a⟩
end
section
def txL:List Rn->Nat
 |[]=>0
 |r::l=>r.t.length+txL l
theorem Nk:∀{l:List Rn} {k:Nat} {r:Rn},l[k]? =some r->txL (l.take (k+1))=txL (l.take k)+r.t.length
 |[],k,r,h=>by simp at h
 |x::l,0,r,h=>by
  obtain rfl:x=r:=by simpa using h
  simp[txL]
 |x::l,k+1,r,h=>by
  have:=Nk (l:=l) (k:=k) (r:=r) (by simpa using h);simp only[List.take_succ_cons,txL];omega
theorem JM:∀rs:List Rn,(jr rs).length<=txL rs
 |[]=>by simp[jr]
 |r::l=>by
  have e:=JM l;have a:(mF r).length<=r.t.length:=by rw[mF,pX];exact qL _
  rw[ni,ag];simp only[txL];omega
theorem ade {c rc rk:Int}:∀(a:List Nat) (k lc lk:Int),∀x∈jT c k lc lk rc rk a,x.c=c
 |[],_,_,_,x,h=>by simp[jT] at h
 |n::a,k,lc,lk,x,h=>by
  rw[nG] at h;rcases aE.1 h with rfl|h
  ·rfl
  ·exact ade a _ _ _ x h
theorem OG:∀{rs:List Rn} {x:It},x∈jr rs->∃r∈rs,x.c=r.c
 |[],x,h=>by simp[jr] at h
 |r::l,x,h=>by
  rw[ni] at h;rcases aA.1 h with h|h
  ·exact⟨r,List.mem_cons_self ..,ade _ _ _ _ x h⟩
  ·obtain⟨s,a,e⟩:=OG h
   exact⟨s,List.mem_cons_of_mem _ a,e⟩
variable {M k:Nat} {S:DS} {b:List UInt8} {l:List (List UInt8)}
theorem Qc (e:DOK S) {n m:Nat} (h:CO S n m) {I J:Nat} (u:∀rs ds,kT b=some (rs,ds)->(jr rs).length<=I/\ds.length<=J):CO (mG S b) (n+I) (m+J):=by
 unfold mG;have U:=h.lw;have H:=h.v;have Q:=h.d
 split
 ·rename_i z
  obtain⟨_,rs,ds,a,hn,N⟩:=yR z;rw[a];have q:=D8 e a hn;obtain⟨hi,j⟩:=u rs ds a;have ok:∀x∈(lJ S.V (S.Wt++lq S (jr rs))).1,okW x:=λx f=>(q.all x (q.tk.perm.mem_iff.1 (aX _ f))).2.1
  obtain⟨_,_,K⟩:=za q.tk.run e.yB e.wfV ok;have i:=q.tk.perm.length_eq;have O:(lq S (jr rs)).length<=(jr rs).length:=List.length_filter_le _ _;rw[ag,ag] at i;refine⟨?_,?_,?_⟩
  ·show(S.L++(lJ S.V (S.Wt++lq S (jr rs))).1).length+(lJ S.V (S.Wt++lq S (jr rs))).2.1.length<=n+I
   rw[ag];omega
  ·show(lJ S.V (S.Wt++lq S (jr rs))).2.2.length<=(S.L++(lJ S.V (S.Wt++lq S (jr rs))).1).length
   rw[ag];omega
  ·show(kW (S.D++ds)).length<=m+J
   refine az (Dc _) ?_;rw[ag];omega
 ·exact⟨ω,H,ω⟩
theorem Qj {T:DS} (h:xL S) (k:xL T) (e:∀x,knD T x->knD S x):T.L.length+T.Wt.length<=S.L.length+S.Wt.length:=by
 haveI:DecidableEq It:=λ_ _=>ir _
 rw[<-ag,<-ag];exact LH (EG k.apart) λx a=>aA.2 (e x (aA.1 a))
def BOk (b:List UInt8):Prop:=b.length<=20000/\∃rs ds,kT b=some (rs,ds)/\ds.length<=40/\∀x∈jr rs,x.c≠1000001
structure CK (S:DS) (l:List (List UInt8)) (M k:Nat):Prop where
 tk:tY S l
 len:CO S M (40*k)
 ver:S.ver<=k
 ok:∀b∈l,BOk b
theorem CK.new {c l:Int} (h:DOK (newS c l)):CK (newS c l) [] 0 0:=⟨tY.new h,⟨am _,am _,am _⟩,am _,(λb a=>by cases a)⟩
theorem CK.more {M' k':Nat} (h:CK S l M k) (e:M<=M') (a:k<=k'):CK S l M' k':=⟨h.tk,h.len.mono e ω,az h.ver a,h.ok⟩
theorem Um (S:DS) (b:List UInt8):(mG S b).ver<=S.ver+1:=(RP S ⟨3,0,0,[],none,0,0,b⟩).2
theorem CK.step {I:Nat} (h:CK S l M k) {rs:List Rn} {ds:List Sp} (f:kT b=some (rs,ds)) (z:b.length<=20000) (H:(jr rs).length<=I) (i:ds.length<=40) (q:∀x∈jr rs,x.c≠1000001) (u:qE S b=0):CK (mG S b) (l++[b]) (M+I) (k+1):=
 ⟨(h.tk.app u).1,(Qc h.tk.tk.ok h.len (I:=I) (J:=40) λj K e=>by
   rw[f] at e;simp only[aL,bg] at e;obtain⟨rfl,rfl⟩:=e;exact⟨H,i⟩).mono (am _) ω,by have:=Um S b;have:=h.ver;omega,λy a=>by
   rcases aA.1 a with a|a
   ·exact h.ok y a
   ·rw[aN] at a
    subst a;exact⟨z,rs,ds,f,i,q⟩⟩
structure Ed (T:DS) (l m:List (List UInt8)) (k:Nat):Prop where
 tk:tY T m
 sub:∀b∈m,b∈l
 len:CO T 900 (40*k)
 ver:T.ver<=k
 cl:T.cl=1000001
theorem Ed.new {l:Int} (h:DOK (newS 1000001 l)) (L:List (List UInt8)):Ed (newS 1000001 l) L [] 0:=⟨tY.new h,(λb a=>by cases a),⟨bN _,am _,am _⟩,am _,rfl⟩
theorem Ed.step {T:DS} {m:List (List UInt8)} {kk:Nat} (q:CK S l M kk) (hM:M<=900) (h:Ed T l m k) (U:b∈l):qE T b=0/\Ed (mG T b) l (m++[b]) (k+1):=by
 obtain⟨h1,rs,ds,hg,hd,Y⟩:=q.ok b U;have a1:=q.len.lw;have Q:∀x,itB l x->x.c≠T.cl:=λx ⟨u,i,z,W,O,K⟩=>by
  obtain⟨_,a0,a2,f,_,H⟩:=q.ok u i;rw[O] at f;simp only[aL,bg] at f;obtain⟨rfl,rfl⟩:=f;rw[h.cl];exact H x K
 have hc:=q.tk.take h.tk h.sub U ⟨_,hg⟩ Q (by rw[ag];omega);obtain⟨N,X⟩:=h.tk.app hc;have a:∀y∈m++[b],y∈l:=λy j=>by
  rcases aA.1 j with j|j
  ·exact h.sub y j
  ·rw[aN] at j
   exact j▸U
 have Z:=Qc h.tk.tk.ok h.len (b:=b) (I:=20000) (J:=40) λz W e=>by
  have:=(Iz e).2.1;rw[hg] at e;simp only[aL,bg] at e;obtain⟨rfl,rfl⟩:=e;exact⟨ω,hd⟩
 have hs:=Qj q.tk.tk N.tk λx Y=>by
  obtain⟨u,i,rest⟩:=(N.its x).1 Y;exact(q.tk.its x).2 ⟨u,a u i,rest⟩
 exact⟨hc,N,a,⟨ω,Z.v,by have:=Z.d;omega⟩,by have:=Um T b;have:=h.ver;omega,by rw[X,h.cl]⟩
end
end
section
open Go.ChangeShapes Go.WideShapes Go.ChangeAt Go.RowKit Go.Sort
section
structure Bbt where
 A:Option Addr
 n:Nat
 c:Nat
 B:Option Addr
 m:Nat
 d:Nat
 rs:List Rn
 ds:List Sp
def MR (x:Bbt):List au:=[.slice x.A x.n x.c,.slice x.B x.m x.d]
theorem Ij (x:Bbt):(MR x).length=2:=rfl
instance:Inhabited Bbt:=⟨⟨none,0,0,none,0,0,[],[]⟩⟩
structure IK (W:ae) (x:Bbt):Prop where
 hn:x.rs.length=x.n
 hR:RnS W x.A x.rs
 wf:∀q∈x.rs,wfR q/\q.t.length<=maxLen
 hm:x.ds.length=x.m
 hS:SpS W x.B x.ds
 wfd:wfS x.ds
theorem IK.ext {W W':ae} {x:Bbt} (h:IK W x) (e:Ext W W'):IK W' x:=⟨h.hn,h.hR.ext e,h.wf,h.hm,h.hS.ext e,h.wfd⟩
def Sv (w:ae) (A:Option Addr) (l:List Bbt):Prop:=Row w A (flat MR l)
theorem Sv.ext {w w':ae} {A:Option Addr} {l:List Bbt} (h:Sv w A l) (a:Ext w w'):Sv w' A l:=Row.ext h a
theorem Sv.at {w:ae} {A:Option Addr} {l:List Bbt} (h:Sv w A l) {k:Nat} (i:k<l.length):∃b o x,A=some ⟨b,o,none⟩/\l[k]? =some x/\w.cell? ⟨b,o+k*2,none⟩=some (.slice x.A x.n x.c)/\w.cell? ⟨b,o+k*2+1,none⟩=some (.slice x.B x.m x.d):=by
 obtain⟨x,a⟩:∃p,l[k]? =some p:=⟨l[k],ay i⟩;obtain⟨b,o,e,f⟩:=Row.at h Ij a ω;exact⟨b,o,x,e,a,f 0 _ rfl,f 1 _ rfl⟩
structure Ckb where
 A:Option Addr
 n:Nat
 c:Nat
 b:List UInt8
def yN (x:Ckb):List au:=[.slice x.A x.n x.c]
theorem RN (x:Ckb):(yN x).length=1:=rfl
theorem RL (x:Ckb):∀u∈yN x,u.oneCell'=true:=by intro u a;rw[yN,aN] at a;subst a;rfl
structure yY (T:Nat->Prop) (W:ae) (x:Ckb):Prop where
 by_:Bys W x.A x.b
 len:x.b.length=x.n
 cap:x.n<=x.c
 off:0<x.b.length->∀a,x.A=some a->¬T a.block
theorem acs {W:ae} {A:Option Addr} {l:List UInt8} (h:Bys W A l) (j:0<l.length) {a:Addr} (f:A=some a):a.block<W.heap.size:=by
 obtain⟨b,o,e,i⟩:=h.at (k:=0) j;rw[e] at f;obtain rfl:=cO f;exact cK W _ i
theorem yY.ext {T:Nat->Prop} {W W':ae} {x:Ckb} (h:yY T W x) (e:Ext W W'):yY T W' x:=⟨h.by_.ext e,h.len,h.cap,h.off⟩
theorem yY.rx {T:Nat->Prop} {W W':ae} {x:Ckb} {t:Nat} (h:yY T W x) (e:RX t W W') (i:T t):yY T W' x:=
 ⟨λf=>Row.rx h.by_ e (λa j g=>h.off (by rw[fs] at f;exact f) a j (g▸i)) f,h.len,h.cap,h.off⟩
theorem yY.grow {T T':Nat->Prop} {W W':ae} {x:Ckb} {v:au} (h:yY T W x) (e:W.grownBy W' v.ownBlock) (hv:∀b,v.ownBlock=some b->T b) (z:∀b,T' b->T b\/W.heap.size<=b):yY T' W' x:=by
 have i:yY T W' x:=by
  cases f:v.ownBlock with
  |none=>exact h.ext (Ext.grown (Ext.refl W) e (λk j=>by rw[f] at j;cases j))
  |some t=>rw[f] at e;exact h.rx e (hv t f)
 exact⟨i.by_,i.len,i.cap,λu a q g=>(z _ g).elim (h.off u a q) λg=>by have:=acs h.by_ u q;omega⟩
theorem Ld {f:Type} {enc:f->List au} {l:List f} {W:ae} {A:Option Addr} {s:Nat} (q:∀x,(enc x).length=s) (z:0<s) (h:Row W A (flat enc l)) (H:0<l.length) {a:Addr} (j:A=some a):a.block<W.heap.size:=by
 have i:0<(flat enc l).length:=by rw[jR q];exact Nat.mul_pos H z
 obtain⟨b,o,e,u⟩:=h i;rw[e] at j;obtain rfl:=cO j;exact cK W _ (u 0 _ (ay i))
def xu (T:Nat->Prop) (W:ae) (d:Nat) (S:DS):Prop:=∃R q,kV R W d S q/\∀b,R b->¬T b
theorem xu.ext {T:Nat->Prop} {W W':ae} {d:Nat} {S:DS} (h:xu T W d S) (e:Ext W W'):xu T W' d S:=by
 obtain⟨R,q,h,k⟩:=h;exact⟨R,q,h.ext e,k⟩
theorem xu.rx {T:Nat->Prop} {W W':ae} {d t:Nat} {S:DS} (h:xu T W d S) (e:RX t W W') (a:T t):xu T W' d S:=by
 obtain⟨R,q,h,k⟩:=h;exact⟨R,q,h.off e (λb f g=>k b f (g▸a)) (λg=>k d h.jF.rd (g▸a)),k⟩
theorem xu.more {T T':Nat->Prop} {W:ae} {d:Nat} {S:DS} (h:xu T W d S) (u:∀b,T' b->T b\/W.heap.size<=b):xu T' W d S:=by
 obtain⟨R,q,h,k⟩:=h;have g:=h.jF;exact⟨λb=>R b/\b<W.heap.size,q,⟨⟨⟨g.rd,g.low⟩,g.ls,λb j=>⟨⟨(g.rF b j).1,g.ls.lt b j⟩,(g.rF b j).2⟩,g.mks,g.vec,λi a f=>⟨⟨(g.rA i a f).1,Ld wG ω g.vec i f⟩,(g.rA i a f).2⟩,g.nA,g.its,λi a f=>⟨⟨(g.rB i a f).1,Ld nU ω g.its i f⟩,(g.rB i a f).2⟩,g.nB,g.sps,λi a f=>⟨⟨(g.rC i a f).1,Ld oK ω g.sps i f⟩,(g.rC i a f).2⟩,g.nC,g.low⟩,h.box⟩,λb j e=>(u b e).elim (k b j.1) λe=>by have:=j.2;omega⟩
theorem xu.grow {T T':Nat->Prop} {W W':ae} {d:Nat} {S:DS} {v:au} (h:xu T W d S) (e:W.grownBy W' v.ownBlock) (hv:∀b,v.ownBlock=some b->T b) (u:∀b,T' b->T b\/W.heap.size<=b):xu T' W' d S:=by
 have j:=h.more (T':=λb=>T b\/W.heap.size<=b) λb f=>f
 have H:xu (λb=>T b\/W.heap.size<=b) W' d S:=by
  cases a:v.ownBlock with
  |none=>exact j.ext (Ext.grown (Ext.refl W) e (λk i=>by rw[a] at i;cases i))
  |some t=>rw[a] at e;exact j.rx e (.inl (hv t a))
 obtain⟨R,q,z,k⟩:=H;exact⟨R,q,z,λb f g=>k b f (u b g)⟩
def agW (T:Nat->Prop) (w:ae) (d:Nat) (S:DS) (b:List UInt8) (e:Ending) (w':ae):Prop:=
 ∃u v,e= .returned (.tuple #[u,v])/\((qE S b=0/\v= .nilIface)\/(qE S b≠0/\mG S b=S/\∃q,v= .iface 87 (.pointer (some ⟨q,0,none⟩))))/\xu T w' d (mG S b)/\RX d w w'
theorem adk {T:Nat->Prop} {w:ae} {d:Nat} {S:DS} (h:xu T w d S) (J:∀b,T b->b<w.heap.size) (M:wJ w) (I:Tabs w) (K:DOK S) {n m:Nat} (f:CO S n m) (hn:n<=1000) (hm:m<=4000) (hv:S.ver<=1000) (x:Ckb) {T':Nat->Prop} (a:yY T' w x) (i:x.b.length<=20000):
  Calls pg 8 #[.pointer (some ⟨d,0,none⟩),.slice x.A x.n x.c] w (agW T w d S x.b):=by
 obtain⟨R,q,h,k⟩:=h;have Y:=f.lw;have X:=f.v;have W:=f.d;have U:=a.len;refine(IB h M x.A x.n x.c (Kw h K I x.A x.n x.c x.b a.by_ a.len a.cap ω (λrs ds e u _=>by have:=CX u;omega) (λrs ds z=>by have:=zR z;omega) ω ω ω ω ω)).mono ?_;rintro e w' ⟨R',j,v,rfl,H,Q,O,N⟩;refine⟨_,v,rfl,?_,⟨R',j,Q,λb i g=>(N b i).elim (λr=>k b r g) λr=>by have:=J b g;omega⟩,O⟩;rcases H with⟨hc,hv⟩|⟨hc,p,hv,_⟩
 ·exact .inl ⟨hc,hv⟩
 ·exact .inr ⟨hc,by unfold mG;rw[if_neg hc],p,hv⟩
def qV (w W:ae) (v:au) (l:List Ckb):Prop:=jQ 41 1 w W v l.length (flat yN l)
theorem qV.lt {w W:ae} {v:au} {l:List Ckb} (h:qV w W v l):∀k,v.ownBlock=some k->w.heap.size<=k/\k<W.heap.size:=bQ h
theorem qV.open {w W:ae} {v:au} {l:List Ckb} (h:qV w W v l):∃A c,v= .slice A l.length c:=by
 obtain⟨A,c,e,_⟩:=jQ.form h;exact⟨A,c,e⟩
theorem qV.get {w W:ae} {l:List Ckb} {A:Option Addr} {n c:Nat} (h:qV w W (.slice A n c) l) (hn:l.length=n) {k:Nat} {x:Ckb} (a:l[k]? =some x):∃b o,A=some ⟨b,o,none⟩/\W.cell? ⟨b,o+k,none⟩=some (.slice x.A x.n x.c):=by
 subst hn;obtain⟨b,o,e,f⟩:=Row.at (jQ.row h) RN a ω;exact⟨b,o,e,by have:=f 0 _ rfl;rwa[Nat.mul_one,Nat.add_zero] at this⟩
theorem abG:(pg.info? 41).map (λi=>(i.zero,i.size,i.bytes))=some (some (.slice none 0 0),1,24):=κ
theorem acF (w0 w:ae) (z:TypeId) (v:au) (l:List Ckb) (f:qV w0 w v l) (H:w0.heap.size<=w.heap.size) (A:Option Addr) (c:Nat) (x:Ckb) (I:Row w A (yN x)) (N:l.length<=1000):
  ∃a w',(Builtin.append_ #[31,31] z #[v,.slice A 1 c]).run pg w= .ok a w'/\qV w0 w' a (l++[x])/\w.grownBy w' v.ownBlock/\(a.ownBlock=v.ownBlock\/a.ownBlock=some w.heap.size):=by
 obtain⟨i,hi,u,q,j⟩:=info_parts abG;obtain⟨a,w',e,M,K,J⟩:=kL (P:=pg) w w0.heap.size 31 z 41 i _ 1 24 underlying31 hi u q j rfl ω v l.length _ f A 1 c (yN x) rfl I (RL x)
  (by unfold maxLen;omega) ω H
 refine⟨a,w',e,?_,K,J⟩;unfold qV jQ;rw[kQ,Ci,ag];exact M
theorem Bf {w0 w:ae} {f:Array Oper} {rest:List Oper} {o:Oper} {a:Act} {Q:Exit->Act->ae->Prop} (q:o.guard=none) (s x:Operand)
  (I:o.op= .call { callee:= .builtin .append,args:= #[s,x],argTypes:= #[31,31] })
  (v:au) (l:List Ckb) (z:a.eval s=v) (j:qV w0 w v l) (u:w0.heap.size<=w.heap.size)
  (A:Option Addr) (c:Nat) (r:Ckb) (J:a.eval x= .slice A 1 c) (H:Row w A (yN r)) (M:l.length<=1000)
  (h:∀e w',qV w0 w' e (l++[r])->w.grownBy w' v.ownBlock->(e.ownBlock=v.ownBlock\/e.ownBlock=some w.heap.size)->wpList pg f Q rest (a.put o.dst e) w'):wpList pg f Q (o::rest) a w:=by
 refine wpList_plain q λK N=>?_
 obtain⟨e,w',i,W,U,O⟩:=acF w0 w o.type v l j u A c r H M;unfold Oper.wp execOp;simp only[I,resolve,invoke,builtin,Sem.run_bind,Sem.run_pure,Result.andThen_ok,List.map_toArray,bA,List.map_nil,z,J,i];exact N _ _ (h e w' W U O)
structure Twd (w1 w0 W:ae) (d1 d2:Nat) (v:au) (S T:DS) (l:List Ckb):Prop where
 row:qV w0 W v l
 da:xu (λb=>b=d2\/v.ownBlock=some b) W d1 S
 db:xu (λb=>b=d1\/v.ownBlock=some b) W d2 T
 cks:∀x∈l,yY (λb=>b=d1\/b=d2\/v.ownBlock=some b) W x
 la:w1.heap.size<=d1/\d1<w0.heap.size
 lb:w1.heap.size<=d2/\d2<w0.heap.size
 sz:w0.heap.size<=W.heap.size
 ext:Ext w1 W
section
variable {w1 w0 W W':ae} {d1 d2:Nat} {v:au} {S T:DS} {l:List Ckb}
theorem Twd.up (h:Twd w1 w0 W d1 d2 v S T l) (e:Ext W W'):Twd w1 w0 W' d1 d2 v S T l:=
 ⟨jQ.ext h.row e,h.da.ext e,h.db.ext e,λx a=>(h.cks x a).ext e,h.la,h.lb,az h.sz e.size,h.ext.trans e⟩
theorem Twd.not (h:Twd w1 w0 W d1 d2 v S T l) {d:Nat} (a:d<w0.heap.size):v.ownBlock=none\/v.ownBlock≠some d:= .inr λe=>by have:=(h.row.lt d e).1;omega
theorem Twd.lt (h:Twd w1 w0 W d1 d2 v S T l) {d:Nat} (e:d<w0.heap.size):∀b,b=d\/v.ownBlock=some b->b<W.heap.size:=λb a=>by
 rcases a with rfl|a
 ·exact Nat.lt_of_lt_of_le e h.sz
 ·exact(h.row.lt b a).2
theorem Twd.ag4 (h:Twd w1 w0 W d1 d2 v S T l) {a:DS} (f:xu (λb=>b=d2\/v.ownBlock=some b) W' d1 a) (rx:RX d1 W W'):Twd w1 w0 W' d1 d2 v a T l:=
 ⟨eY h.row rx (h.not h.la.2),f,h.db.rx rx (.inl rfl),λx e=>(h.cks x e).rx rx (.inl rfl),h.la,h.lb,az h.sz (cN rx),RX.down h.ext h.la.1 rx⟩
theorem Twd.setB (h:Twd w1 w0 W d1 d2 v S T l) {T':DS} (e:xu (λb=>b=d1\/v.ownBlock=some b) W' d2 T') (rx:RX d2 W W'):Twd w1 w0 W' d1 d2 v S T' l:=
 ⟨eY h.row rx (h.not h.lb.2),h.da.rx rx (.inl rfl),e,λx a=>(h.cks x a).rx rx (.inr (.inl rfl)),h.la,h.lb,az h.sz (cN rx),RX.down h.ext h.lb.1 rx⟩
theorem Twd.push (h:Twd w1 w0 W d1 d2 v S T l) {x:Ckb} (q:yY (λb=>b=d1\/b=d2\/v.ownBlock=some b) W x) {i:au} (u:qV w0 W' i (l++[x])) (g:W.grownBy W' v.ownBlock) (e:i.ownBlock=v.ownBlock\/i.ownBlock=some W.heap.size):Twd w1 w0 W' d1 d2 i S T (l++[x]):=by
 have j:∀b,i.ownBlock=some b->v.ownBlock=some b\/W.heap.size<=b:=λb a=>by
  rcases e with e|e
  ·exact .inl (e▸a)
  ·rw[e] at a
   exact .inr (by have:=cO a;omega)
 refine⟨u,h.da.grow g (λb a=> .inr a) λb a=>a.elim (λk=> .inl (.inl k)) λk=>(j b k).imp .inr id,h.db.grow g (λb a=> .inr a) λb a=>a.elim (λk=> .inl (.inl k)) λk=>(j b k).imp .inr id,λy f=>?_,h.la,h.lb,az h.sz (cN g),Ext.grown h.ext g λk z=>az (az h.la.1 (Nat.le_of_lt h.la.2)) (h.row.lt k z).1⟩;have H:yY (λb=>b=d1\/b=d2\/v.ownBlock=some b) W y:=by
  rcases aA.1 f with f|f
  ·exact h.cks y f
  ·rw[aN] at f
   exact f▸q
 exact H.grow g (λb a=> .inr (.inr a)) λb a=>by
  rcases a with k|k|k
  ·exact .inl (.inl k)
  ·exact .inl (.inr (.inl k))
  ·exact(j b k).imp (λk=> .inr (.inr k)) id
theorem Twd.ags (h:Twd w1 w0 W d1 d2 v S T l) (H:wJ W) (j:Tabs W) {L:List (List UInt8)} {M k:Nat} (hi:CK S L M k) (O:M<=900) (N:k<=100) (x:Ckb) (a:yY (λb=>b=d1\/b=d2\/v.ownBlock=some b) W x) (i:x.b.length<=20000):
  Calls pg 8 #[.pointer (some ⟨d1,0,none⟩),.slice x.A x.n x.c] W λe W'=>∃u z,e= .returned (.tuple #[u,z])/\((qE S x.b=0/\z= .nilIface)\/(qE S x.b≠0/\mG S x.b=S/\∃q,z= .iface 87 (.pointer (some ⟨q,0,none⟩))))/\Twd w1 w0 W' d1 d2 v (mG S x.b) T l/\yY (λb=>b=d1\/b=d2\/v.ownBlock=some b) W' x:=
 (adk h.da (h.lt h.lb.2) H j hi.tk.tk.ok hi.len ω ω (by have:=hi.ver;omega) x a i).mono λe W' ⟨u,z,K,J,I,f⟩=>⟨u,z,K,J,h.ag4 I f,a.rx f (.inl rfl)⟩
theorem Twd.adi (h:Twd w1 w0 W d1 d2 v S T l) (K:wJ W) (H:Tabs W) {L m:List (List UInt8)} {M j k:Nat} (i:CK S L M j) (I:M<=900) (J:L=l.map Ckb.b) (hi:Ed T L m k) (U:k<=100) (x:Ckb) (f:x∈l):
  Calls pg 8 #[.pointer (some ⟨d2,0,none⟩),.slice x.A x.n x.c] W λe W'=>∃u,e= .returned (.tuple #[u,.nilIface])/\Ed (mG T x.b) L (m++[x.b]) (k+1)/\Twd w1 w0 W' d1 d2 v S (mG T x.b) l:=by
 have hm:x.b∈L:=J▸List.mem_map.2 ⟨x,f,rfl⟩;obtain⟨q,hn⟩:=Ed.step i I hi hm;refine(adk h.db (h.lt h.la.2) K H hi.tk.tk.ok hi.len ω ω (by have:=hi.ver;omega) x (h.cks x f) (i.ok _ hm).1).mono λe W' ⟨u,z,Q,a,O,N⟩=>?_
 rcases a with⟨_,rfl⟩|⟨a,_⟩
 ·exact⟨u,Q,hn,h.setB O N⟩
 ·exact absurd q a
end
end
section
variable {H:Type} {W:ae} {base:Nat} {hd:Bool} {sp:Nat->Bool}
theorem WY {enc:TypeId×au->H} (fuel:Nat) (a:List au) (x:DataW H×List MemPlace) (N:a.length=2) (h:DataW.trod enc pg W base sp hd fuel 36 a=some x):
  ∃q,IK W q/\MR q=a:=by
 match a,N with
 |[v0,v1],_=>
  obtain⟨xs,k,Y,K,_,i,e⟩:=DataW.trod_struct underlying36 h
  match xs,i with
  |[y0,y1],_=>
   have J:=e 0 _ rfl;have I:=e 1 _ rfl;have U:pg.cellsOf 33=1:=κ
   have X:pg.cellsOf 34=1:=κ
   simp[U,X] at J I;obtain⟨A,n,c,rs,Q,hn,Z,_,hR,M⟩:=xO Ih ω underlying33 κ (λ_=>True) (λ_ _ _ _ _=>trivial) (λf a x z u _=>UO f a x z u) J;obtain⟨B,m,d,ds,O,hm,hd,_,hS,j⟩:=xO oK ω underlying34 κ (λ_=>True) (λ_ _ _ _ _=>trivial) (λf a x z u _=>Qm f a x z u) I;exact⟨⟨A,n,c,B,m,d,rs,ds⟩,⟨hn,hR,M,hm,hS,j⟩,by rw[MR,Q,O]⟩
theorem M5 {enc:TypeId×au->H} {a:Nat} {r:Reach} {v:au} {d:DataW H} {p:List MemPlace} (hv:Value.okWide pg W r a 22 v) (h:DataW.Trod enc pg W base sp hd 22 v d p):
  ∃(A:Option Addr) (n cap:Nat) (l:List Bbt),v= .slice A n cap/\l.length=n/\n<=cap/\n<=maxLen/\Sv W A l/\∀x∈l,IK W x:=
 Bl Ij ω underlying22 κ WY hv h
theorem TM:∀l:List Int,flat (λz=>[Vi z]) l=l.map Vi
 |[]=>rfl
 |z::l=>by rw[nJ,TM l,bA,List.singleton_append]
theorem Q5 {enc:TypeId×au->H} {u:Nat} {r:Reach} {v:au} {d:DataW H} {p:List MemPlace} (hv:Value.okWide pg W r u 23 v) (h:DataW.Trod enc pg W base sp hd 23 v d p):
  ∃(A:Option Addr) (n cap:Nat) (l:List Int),v= .slice A n cap/\l.length=n/\n<=maxLen/\ZS W A l:=by
 obtain⟨A,n,cap,l,e,hn,_,hm,f,_⟩:=Bl (en:=λz:Int=>[Vi z]) (s:=1) (good:=λ_=>True) (λ_=>rfl) ω underlying23 κ (λfuel q x j h=>by
  match q,j with
  |[v0],_=>
   obtain⟨a,i,_,_⟩:=DataW.trod_int underlying3 h;exact⟨a,trivial,by rw[i]⟩) hv h
 rw[TM] at f;exact⟨A,n,cap,l,e,hn,hm,f⟩
end
end
section
open Go.ChangeShapes Go.WideShapes Go.ChangeAt Go.RowKit Go.Sort
attribute [local go_sem] World.cell?_alloc_some
def LpA (e w0:ae) (u q n:Nat) (f i j:au) (W:ae):Prop:=
 ∃(k M:Nat) (S:DS) (a:List Ckb),k<=n/\j=Vi k/\i=Vi M/\M<=900/\Hid (a.length<=k)/\Hid (CK S (a.map Ckb.b) M k)/\Hid (Twd e w0 W u q f S (newS 1000001 100) a)
theorem afp {W:ae} {x:Bbt} (q:Tabs W) (h:IK W x) (j:qp x.rs x.m=true):
  Calls pg 7 #[Si x.A x.n x.c x.B x.m x.d] W (aaH W (wR x.rs x.ds) (nN x.rs x.ds))/\(nN x.rs x.ds).length<=20000/\(wR x.rs x.ds=true->kT (nN x.rs x.ds)=some (x.rs,x.ds))/\x.ds.length<=40:=by
 obtain⟨u,z,i⟩:=FQ j;have hm:=h.hm;have hn:=h.hn;have f:=WZ u (by omega:x.ds.length<=40) i;refine⟨Gg _ _ _ _ _ _ _ _ _ q h.hR h.hn h.hS h.hm (λr a=>⟨(h.wf r a).1,by have:=i r a;omega⟩) h.wfd ω ω f,f,λe=>Ro (λr a=>⟨(h.wf r a).1,by have:=i r a;omega⟩) h.wfd ω ω e f,ω⟩
theorem FH (A:Option Addr) (n cap:Nat) (l:List Bbt) (B:Option Addr) (m m0:Nat) (ps:List Int) (w:ae) (hv:Sv w A l) (hn:l.length=n) (hb:n<=maxLen) (hin:∀x∈l,IK w x) (hz:ZS w B ps) (hm:ps.length=m) (j1:m<=maxLen) (hE:wJ w) (hT:Tabs w):
  Calls pg 3 #[.slice A n cap,.slice B m m0] w λe w'=>e= .returned (.bool true)/\Ext w w':=by
 unfold maxLen at hb j1;have f5:=ac (XD w hE hT);go_enter func3,ntmps3
 go_wp2_with fail
 refine f5.out.mono ?_;rintro e w1 ⟨rfl,x1⟩;clear f5;by_cases h8:8<n
 ·have g8:decide ((8:Int)<(n:Int))=true:=decide_eq_true ω
  go_wp2_with fail
  go_ret;exact⟨rfl,x1⟩
 have g8:decide ((8:Int)<(n:Int))=false:=decide_eq_false ω;by_cases n0:40<m
 ·have l4:decide ((40:Int)<(m:Int))=true:=decide_eq_true ω
  go_wp2_with fail
  go_ret;exact⟨rfl,x1⟩
 have l4:decide ((40:Int)<(m:Int))=false:=decide_eq_false ω;have g3:=ac (BH 1000000 100 w1 ω ω);have g2:=ac (λW=>BH 1000001 100 W ω ω);replace hn:=ac hn;replace hm:=ac hm;replace x1:=ac x1
 go_wp2_with fail
 refine g3.out.mono ?_;rintro e w2 ⟨rfl,b1,x2⟩;obtain⟨d1,g7⟩:∃d,w1.heap.size=d:=⟨_,rfl⟩;rw[g7] at b1⊢;have j4:=(an.1 b1).1
 go_wp2_with fail
 refine(g2.out w2).mono ?_;rintro e w3 ⟨rfl,b2,x3⟩;obtain⟨d2,b4⟩:∃d,w2.heap.size=d:=⟨_,rfl⟩;rw[b4] at b2⊢;have d6:=(an.1 b2).1;have f6:=ac (show LpA w1 w3 d1 d2 n (.slice none 0 0) (Vi ((0:Nat):Int)) (Vi ((0:Nat):Int)) w3 from
  ⟨0,0,newS 1000000 100,[],bN _,rfl,rfl,bN _,ac (am _),ac (CK.new (LA ω ω ω ω)),ac
    ⟨jQ.nil _ _ _ _,⟨_,_,(Fe (R:=λb=>b≠d2) (w:=w1) b1 ω ω).ext x3,λb hb e=>e.elim hb (λe=>by cases e)⟩,
     ⟨_,_,Fe (R:=λb=>b≠d1) (w:=w2) b2 ω ω,λb hb e=>e.elim hb (λe=>by cases e)⟩,
     (λx hx=>by cases hx),⟨ω,by have:=x3.size;omega⟩,⟨ω,ω⟩,am _,x2.trans x3⟩⟩)
 clear b1 b2 g3 g2 j4 d6 x2 x3 g7 b4;replace hv:=ac hv;replace hin:=ac hin;replace hz:=ac hz;replace hE:=ac hE;replace hT:=ac hT
 go_wp2_with fail
 go_loopw [10,11,12] (LpA w1 w3 d1 d2 n) (λ_ _ i _=>n-(intOf i).toNat)
 case atStart=>exact f6.out
 case round=>
  clear f6;obtain⟨vT,rfl⟩:∃z,z=u10:=⟨_,rfl⟩;obtain⟨k,M,S,ck,hk,rfl,rfl,hM,a2,hA,N⟩:=hrel;have I:=ac (x1.out.trans N.out.ext);by_cases b0:k<n
  ·obtain⟨b,o,x,l2,hy,c0,c1⟩:=(hv.out.ext I.out).at (k:=k) (by rw[hn.out];exact b0)
   subst l2;have k4:(0:Int)<=(k:Int):=ω
   have j9:(k:Int)<(n:Int):=ω
   have J:=ac ((hin.out x (aD hy)).ext I.out);have f7:=ac (UJ x.A x.n x.c x.B x.m x.d x.rs wr J.out.hR J.out.hn);clear hy
   go_wp2_with fail
   refine f7.out.mono ?_;rintro e w5 ⟨rfl,x5⟩;clear f7;cases d4:qp x.rs x.m with
   |false=>
    rw[if_neg ι];have a0:=ac (I.out.trans x5);clear hA N I J c0 c1 x5
    go_wp2_with fail
    go_ret;exact⟨rfl,a0.out⟩
   |true=>
   rw[if_pos rfl];replace N:=ac (N.out.up x5);replace I:=ac (I.out.trans x5);replace J:=ac (J.out.ext x5);have e8:=x5.keep c0;have i3:=x5.keep c1;clear c0 c1 x5;obtain⟨O,b6,a6,d7⟩:=afp (hT.out.ext I.out) J.out d4;obtain⟨s1,s2,s3⟩:=FQ d4;have f8:=J.out.hn;replace s3:=ac s3;replace O:=ac O;replace a6:=ac a6;replace b6:=ac b6;replace d7:=ac d7;clear d4
   go_wp2_with fail
   go_loopw [11,13] (λvM vK W=>∃(j:Nat),j<=x.n/\vK=Vi j/\vM=Vi ((M+txL (x.rs.take j):Nat):Int)/\M+txL (x.rs.take j)<=900/\Hid (∀r∈x.rs.take j,r.c≠1000001)/\W=w5) (λ_ j _=>x.n-(intOf j).toNat)
   case atStart=>exact⟨0,bN _,rfl,by simp[txL],by simpa[txL] using hM,ac (λr hr=>by simp at hr),rfl⟩
   case round=>
        obtain⟨j,hj,rfl,rfl,a3,b5,rfl⟩:=hrel;by_cases g5:j<x.n
        ·obtain⟨b3,o3,r,l3,hr,dd⟩:=J.out.hR.at (k:=j) (by rw[f8];exact g5)
         obtain⟨e0,e1,e2,e3,e4,e5,e6⟩:=dd;rw[l3] at e8;have m7:(0:Int)<=(j:Int):=ω
         have g6:(j:Int)<(x.n:Int):=ω
         have a1:=ac (Nk hr);have n4:=s3.out r (aD hr);have h5:=ac (λh:r.c≠1000001=>show∀q∈x.rs.take (j+1),q.c≠1000001 from λq hq=>by
          rw[List.take_add_one,hr,Option.toList_some,aA,aN] at hq;exact hq.elim (b5.out q) (λe=>e▸h))
         have a0:=ac I.out;obtain⟨P,hP⟩:∃P,M+txL (x.rs.take j)=P:=⟨_,rfl⟩;have i0:=ac (show M+txL (x.rs.take (j+1))=P+r.t.length by rw[a1.out];omega);rw[hP] at a3⊢;clear hP hr a1;cases i7:((r.c:Int)==1000001) with
         |true=>
          go_wp2_with fail
          go_ret;exact⟨rfl,a0.out⟩
         |false=>
          by_cases m3:900<P+r.t.length
          ·have gb:decide ((900:Int)<(P:Int)+(r.t.length:Int))=true:=decide_eq_true ω
           go_wp2_with fail
           go_ret;exact⟨rfl,a0.out⟩
          ·have gb:decide ((900:Int)<(P:Int)+(r.t.length:Int))=false:=decide_eq_false ω
           have l8:=ac (h5.out (by simpa using i7))
           go_wp2_with fail
           go_roundw
           case rel=>exact⟨j+1,ω,ν,by rw[i0.out];go_num,by rw[i0.out];omega,l8,trivial⟩
           case measure=>simp[intOf];omega
        ·obtain rfl:j=x.n:=ω
         rw[show x.rs.take x.n=x.rs from List.take_of_length_le (by rw[f8];exact am _)] at a3 b5⊢;have j6:=ac (JM x.rs);have k6:=ac (show∀y∈jr x.rs,y.c≠1000001 from λy hy=>by obtain⟨r,hr,e⟩:=OG hy;rw[e];exact b5.out r hr);obtain⟨M2,d9⟩:∃M2,M+txL x.rs=M2:=⟨_,rfl⟩;rw[d9] at a3⊢;have X:=ac (hA.out.more (M':=M2) (k':=k+1) ω ω);have K:=ac (λ(c:qE S (nN x.rs x.ds)=0) (a4:wR x.rs x.ds=true)=>show CK (mG S (nN x.rs x.ds)) (ck.map Ckb.b++[nN x.rs x.ds]) M2 (k+1) from
          d9▸hA.out.step (a6.out a4) b6.out j6.out d7.out k6.out c)
         have k8:M<=900:=hM;clear d9 hM b5 g5 hj
         go_wp2_with fail
         refine O.out.mono ?_;rintro e w6 a7;cases a4:wR x.rs x.ds with
         |false=>
          rw[a4] at a7;obtain⟨rfl,x6⟩:=a7;rw[show lF 1= .iface 56 (.int .i64 1) from rfl];have H:=ac (N.out.up x6);have f0:=ac (Nat.le_succ_of_le a2.out);clear O K x6 N I J e8 i3 hA
          go_wp2_with fail
          go_roundw
          case rel=>exact⟨k+1,M2,S,ck,ω,ν,rfl,a3,f0,X,H⟩
          case measure=>simp[intOf];omega
         |true=>
          rw[a4] at a7;obtain⟨v6,rfl,d5,x6⟩:=a7;obtain⟨A6,c6,rfl,h6,i1⟩:=d5.open;have H:=ac (N.out.up x6);obtain⟨n6,a8⟩:∃q,(nN x.rs x.ds).length=q:=⟨_,rfl⟩;have b8:=ac (show yY (λb=>b=d1\/b=d2\/vT.ownBlock=some b) w6 ⟨A6,n6,c6,nN x.rs x.ds⟩ from⟨i1,a8,by rw[<-a8];exact h6,λh0 a ha g=>by
           have k7:A6=some a:=ha;have h7:=d5.lt a.block (by rw[k7];rfl);have h8:=N.out.sz;have h9:=N.out.la;have n3:=N.out.lb;rcases g with g|g|g
           ·omega
           ·omega
           ·have:=(N.out.row.lt _ g).2
            omega⟩)
          rw[a8];have f:=ac (H.out.ags (hE.out.ext (I.out.trans x6)) (hT.out.ext (I.out.trans x6)) hA.out k8 ω ⟨A6,n6,c6,nN x.rs x.ds⟩ b8.out b6.out);have f0:=ac (Nat.le_succ_of_le a2.out);clear O i1 h6 d5 x6 N I J e8 i3 a8 b8 H
          go_wp2_with fail
          refine f.out.mono ?_;rintro e w7 ⟨u,z,rfl,i5,h7,a5⟩;have l5:ck.length<=1000:=by have:=a2.out;omega
          replace h7:=ac h7;replace a5:=ac a5;clear f;rcases i5 with⟨hc,rfl⟩|⟨hc,hS,q,rfl⟩
          ·have i2:=ac (K.out hc a4)
           clear hc K;have b9:Ext w7 (w7.alloc (.cells #[.slice A6 n6 c6] 41)):=(Ext.refl w7).alloc _;have h8:=ac (h7.out.up b9);have j0:=ac (show Row (w7.alloc (.cells #[.slice A6 n6 c6] 41)) (some ⟨w7.heap.size,0,none⟩) (yN ⟨A6,n6,c6,nN x.rs x.ds⟩) from Row.new w7 #[.slice A6 n6 c6] 41);have j5:=ac (a5.out.ext b9);have Q:=ac (λ(v':au) (w':ae) h1 N H=>show LpA w1 w3 d1 d2 n v' (Vi M2) (Vi ((k+1:Nat):Int)) w' from⟨k+1,M2,_,ck++[⟨A6,n6,c6,nN x.rs x.ds⟩],ω,rfl,rfl,a3,ac (by rw[ag];have:=a2.out;simp;omega),ac (by rw[List.map_append];exact i2.out),ac (h8.out.push j5.out h1 N H)⟩);clear h7 a5 b9 X hA i2
           go_wp2_with(at_builtin;go_loud (refine Bf (w0:=w3) rfl (.tmp 126) (.tmp 128) rfl vT ck rfl h8.out.row h8.out.sz _ 1 ⟨A6,n6,c6,nN x.rs x.ds⟩ rfl j0.out l5 ?_;intro v9 w9 o9 g9 e9;have l9:=ac (Q.out v9 w9 o9 g9 e9);clear o9 g9 e9))
           go_roundw
           case rel=>exact l9.out
           case measure=>simp[intOf];omega
          ·rw[hS] at h7
           clear K hS hc a5
           go_wp2_with fail
           go_roundw
           case rel=>exact⟨k+1,M2,S,ck,ω,ν,rfl,a3,f0,X,h7⟩
           case measure=>simp[intOf];omega
  ·obtain rfl:k=n:=ω
   clear b0 hk hin hv I;obtain⟨AT,cT,rfl⟩:=N.out.row.open;obtain⟨L,hL⟩:∃L,ck.map Ckb.b=L:=⟨_,rfl⟩;rw[hL] at hA;replace hL:=ac hL;obtain⟨q,hq⟩:∃q,ck.length=q:=⟨_,rfl⟩;rw[hq] at N⊢;have m4:q<=8:=by have:=a2.out;omega
   replace hq:=ac hq;clear a2
   go_upto_block 4 with fail
   go_cut [18] (λ_ wx=>∃T mm j,Hid (j<=40)/\Hid (Ed T L mm j)/\Hid (Twd w1 w3 wx d1 d2 (.slice AT q cT) S T ck))
   case first=>
        go_wp2_with fail
        go_loopw [18] (λi W=>∃(U:Nat) (T:DS) (mm:List (List UInt8)),U<=m/\i=Vi U/\Hid (Ed T L mm U)/\Hid (Twd w1 w3 W d1 d2 (.slice AT q cT) S T ck)) (λi _=>m-(intOf i).toNat)
        case atStart=>exact⟨0,newS 1000001 100,[],bN _,rfl,ac (Ed.new (LA ω ω ω ω) L),N⟩
        case round=>
         clear N;obtain⟨U,T,mm,m6,rfl,Z,H⟩:=hrel;have Q:=ac (show∃T mm j,Hid (j<=40)/\Hid (Ed T L mm j)/\Hid (Twd w1 w3 wr d1 d2 (.slice AT q cT) S T ck) from⟨T,mm,U,ac ω,Z,H⟩);by_cases d6:U<m
         ·by_cases f9:0<q
          ·obtain⟨z,f2⟩:∃z,ps[U]? =some z:=⟨_,ay (by rw[hm.out];exact d6)⟩
           obtain⟨bz,oz,k9,cz⟩:=(hz.out.ext (x1.out.trans H.out.ext)).at f2;have g1:=ac (U6 z q wr f9 ω);have hr:=adH (z:=z) (k:=q) f9;generalize pkN z q=r at*;obtain⟨x,hx⟩:∃x,ck[r]? =some x:=⟨_,ay (by rw[hq.out];exact hr)⟩;obtain⟨bt,ot,e7,ct⟩:=H.out.row.get hq.out hx;have f:=ac (H.out.adi (hE.out.ext (x1.out.trans H.out.ext)) (hT.out.ext (x1.out.trans H.out.ext)) hA.out hM hL.out.symm Z.out ω x (aD hx));subst k9;subst e7;have k4:(0:Int)<=(U:Int):=ω
           have j9:(U:Int)<(m:Int):=ω
           have j8:(0:Int)<=(r:Int):=ω
           have j7:(r:Int)<(q:Int):=ω
           have m8:(0:Int)<(q:Int):=ω
           clear f2 hx Q Z H
           go_wp2_with fail
           refine g1.out.mono ?_;rintro e _ ⟨rfl,rfl⟩;clear g1
           go_wp2_with fail
           refine f.out.mono ?_;rintro e w5 ⟨u,rfl,Y,h4⟩;replace Y:=ac Y;replace h4:=ac h4;clear f cz ct
           go_wp2_with fail
           go_roundw
           case rel=>exact⟨U+1,_,_,ω,ν,Y,h4⟩
           case measure=>simp[intOf];omega
          ·obtain rfl:q=0:=ω
           clear Z H
           go_wp2_with fail
           go_meet;exact Q.out
         ·obtain rfl:U=m:=ω
          clear Z H
          go_wp2_with fail
          go_meet;exact Q.out
   case rest=>
        clear N hz;obtain⟨T,mm,j,hj,Z,H⟩:=hcut
        go_wp2_with fail
        go_loopw [21] (λi W=>∃(k3:Nat) (z:Int) (T:DS) (mm:List (List UInt8)) (j:Nat),k3<=q/\i=Vi z/\z+1=k3/\Hid (j+k3<=48)/\Hid (∀b∈L.drop k3,b∈mm)/\Hid (Ed T L mm j)/\Hid (Twd w1 w3 W d1 d2 (.slice AT q cT) S T ck)) (λi _=>(intOf i+1).toNat)
        case atStart=>exact⟨q,_,T,mm,j,am _,rfl,ν,ac (by have:=hj.out;omega),ac (λb hb=>by rw[List.drop_of_length_le (by rw[<-hL.out,fs,hq.out];exact am _)] at hb;cases hb),Z,H⟩
        case round=>
         clear Z H hj;obtain⟨k3,z,T,mm,j,m5,rfl,f1,hj,hd,Z,H⟩:=hrel;by_cases h0:z<0
         ·have g0:decide ((0:Int)<=z)=false:=decide_eq_false ω
          obtain rfl:k3=0:=ω
          obtain⟨eV,eW,eE⟩:=hA.out.tk.meet Z.out.tk (λb=>⟨λh=>hd.out b h,λh=>Z.out.sub b h⟩);obtain⟨RA,qa,dA,_⟩:=H.out.da;obtain⟨RB,qb,dB,_⟩:=H.out.db;have j3:=hA.out.len.v;have j2:=hA.out.len.lw;have b0:=Z.out.len.lw;have i6:=ac (x1.out.trans H.out.ext);obtain⟨tx,a1⟩:∃t,textE S.E=t:=⟨_,rfl⟩;obtain⟨wn,d3⟩:∃k,S.Wt.length=k:=⟨_,rfl⟩;obtain⟨V,hV⟩:∃V,S.V=V:=⟨_,rfl⟩;have m9:V.length<=900:=by rw[<-hV];omega
          have k1:=ac (uE dA ω);have U:=ac (λ(W:ae) (e:Ext wr W)=>uE (dB.ext e) (by rw[<-eV];omega));have t1:=ac (λ(W:ae) (e:Ext wr W)=>Bj (dA.ext e) ω);have t2:=ac (λ(W:ae) (e:Ext wr W)=>Bj (dB.ext e) ω);have n1:=ac (λ(W:ae) (e:Ext wr W)=>Jb (dA.ext e));have n2:=ac (λ(W:ae) (e:Ext wr W)=>Jb (dB.ext e));rw[<-eV,hV] at U;rw[<-eE,a1] at t2;rw[<-eW,d3] at n2;rw[hV] at k1;rw[a1] at t1;rw[d3] at n1;clear eV eW eE dA dB j3 j2 b0 a1 d3 hV Z H hd hA f1 hj
          go_wp2_with fail
          refine k1.out.mono ?_;rintro e wa ⟨A1,m1,c1,rfl,a9,f4,xa,_,_⟩;have i4:=ac f4;replace a9:=ac a9;clear k1 f4
          go_wp2_with fail
          refine(U.out wa xa).mono ?_;rintro e wb ⟨A2,m2,c2,rfl,g4,f3,xb,_,_⟩;obtain rfl:m1=m2:=by rw[<-a9.out,g4]
          have k5:=ac (Yi A1 A2 m1 c1 c2 V wb (Vec.ext i4.out xb) f3 a9.out ω);replace xb:=xa.trans xb;clear U xa g4 f3 i4
          go_wp2_with fail
          refine k5.out.mono ?_;rintro e wc ⟨rfl,xc⟩;replace xc:=xb.trans xc;clear k5 xb
          go_wp2_with fail
          refine(t1.out _ xc).mono ?_;rintro e wd ⟨rfl,xd⟩;replace xd:=xc.trans xd
          go_wp2_with fail
          refine(t2.out _ xd).mono ?_;rintro e we ⟨rfl,xe⟩;replace xe:=xd.trans xe
          go_wp2_with fail
          refine(n1.out _ xe).mono ?_;rintro e wf ⟨rfl,xf⟩;replace xf:=xe.trans xf
          go_wp2_with fail
          refine(n2.out _ xf).mono ?_;rintro e wg ⟨rfl,xg⟩
          go_wp2_with fail
          go_ret;exact⟨rfl,i6.out.trans (xf.trans xg)⟩
         ·obtain⟨r,rfl⟩:∃r:Nat,z=r:=⟨z.toNat,ω⟩
          obtain rfl:k3=r+1:=ω
          obtain⟨x,hx⟩:∃x,ck[r]? =some x:=⟨_,ay (by rw[hq.out];omega)⟩;obtain⟨bt,ot,e7,ct⟩:=H.out.row.get hq.out hx;have f:=ac (H.out.adi (hE.out.ext (x1.out.trans H.out.ext)) (hT.out.ext (x1.out.trans H.out.ext)) hA.out hM hL.out.symm Z.out (by have:=hj.out;omega) x (aD hx));have b4:=ac (show∀b∈L.drop r,b∈mm++[x.b] from λb hb=>by
           have b7:L[r]? =some x.b:=by rw[<-hL.out,List.getElem?_map,hx];rfl
           rw[List.drop_eq_getElem_cons (kJ b7)] at hb;rcases aE.1 hb with e|hb
           ·rw[ay (kJ b7)] at b7
            rw[e,cO b7];exact aM _ (aN.2 rfl)
           ·exact aX _ (hd.out b hb))
          have g6:=ac (show j+1+r<=48 by have:=hj.out;omega);subst e7;have j8:(0:Int)<=(r:Int):=ω
          have j7:(r:Int)<(q:Int):=ω
          clear hx hd Z H hj h0 f1
          go_wp2_with fail
          refine f.out.mono ?_;rintro e w5 ⟨u,rfl,Y,h4⟩;replace Y:=ac Y;replace h4:=ac h4;clear f ct
          go_wp2_with fail
          go_roundw
          case rel=>exact⟨r,(r:Int)-1,_,_,j+1,ω,ν,ω,g6,b4,Y,h4⟩
          case measure=>simp[intOf]
end
end Go.Proofs.YtncfhbpejchbfaaGreatDoor

/-
  Lemmas of this seat; no claim.
-/
import Derived.Laws.Cover4
import Derived.Test.YtncfhbpejchbfaaGreatDoorPIf1
import Derived.Test.YtncfhbpejchbfaaGreatDoorPTf1
set_option linter.unusedVariables false
set_option linter.unusedSimpArgs false
set_option maxRecDepth 100000
set_option maxHeartbeats 16000000
open Array renaming getElem?_eq_some_iff→an
open Go renaming Calls→aO,Value→au,World→ae,cell_of_row→aj,frozen_of_row→aw,heap_alloc_new→aI,heap_setCell_other→aQ,heap_setCell_same→al,run_underlying→bp,wpList→il,wpStill_nil→dW,wpStill→gz,wp_region_still_tail→bZ
open Go.Lib renaming hid→ac
open Go.Op renaming equalIn→ei,maxDepth→gG
open Go.RowKit.Below renaming block→av
open Go.World renaming cell?_alloc_some→ah
open Int renaming tmod→fk
open List renaming append_assoc→aK,append_nil→bB,drop_succ_cons→bU,drop_zero→cH,length_append→ag,length_cons→ar,length_singleton→cy,length→fC,mem_append_left→aX,mem_append_right→aM,mem_append→aA,mem_cons_of_mem→aF,mem_cons_self→aH,mem_cons→aE,pairwise_append→co,pairwise_cons→bd,take_append→iR,take_of_length_le→aU,take_succ_cons→cq,take_zero→cV
open Nat renaming le_refl→am
open Prod renaming ext→fN
open Go.Proofs.Tryz
open Go.Proofs.Tryz renaming prog→pg
namespace Go.Proofs.YtncfhbpejchbfaaGreatDoor
open Go.ChangeShapes Go.WideShapes Go.ChangeAt Go.RowKit Go.Sort
section
attribute [local go_sem] ah
section
def rH (l:List En) (i:Nat):I2:=match l[i]? with
 |some x=>(x.c,x.k)
 |none=>(0,0)
variable {l:List En}
theorem DL {i:Nat} {x:En} (h:l[i]? =some x):rH l i=(x.c,x.k):=by unfold rH;rw[h]
theorem VR {i:Nat} (h:l.length<=i):rH l i=(0,0):=by unfold rH;rw[List.getElem?_eq_none h]
def tN (l:List En):Nat->I2×I2
 |0=>((0,0),rH l 0)
 |k+1=>(rH l (((jC l)[k]?).getD 0),rH l (((jC l)[k]?).getD 0+1))
def ag9 (l:List En) (a n:Nat):List I2:=(((jC l).drop a).take n).map (rH l)
theorem UL {k p:Nat} (h:(jC l)[k]? =some p):p<l.length:=by
 have:=Bt l 0 p (List.mem_of_getElem? h);omega
end
section
variable {x:It}
theorem kI.newL (W:ae) (x:It):kI (W.alloc (.cells #[.int .u32 x.c,.int .u32 x.k,.int .u32 x.lc,.int .u32 x.lk,.int .u32 x.rc,.int .u32 x.rk,.int .i32 x.ch] 106)) W.heap.size x:=aI W _
theorem kI.lg {W:ae} {q:Nat} (h:kI W q x) (j:Nat):W.frozen? ⟨q,j,none⟩=false:=aw W q j _ _ h
theorem kI.all {W:ae} {q:Nat} (h:kI W q x) (a b c d e f g:Int):kI (((((((W.setCell ⟨q,0,none⟩ (Vu a)).setCell ⟨q,1,none⟩ (Vu b)).setCell ⟨q,2,none⟩ (Vu c)).setCell ⟨q,3,none⟩ (Vu d)).setCell ⟨q,4,none⟩ (Vu e)).setCell ⟨q,5,none⟩ (Vu f)).setCell ⟨q,6,none⟩ (.int .i32 g)) q ⟨a,b,c,d,e,f,g⟩:=by
 have O:kI (W.setCell ⟨q,0,none⟩ (Vu a)) q ⟨a,x.k,x.lc,x.lk,x.rc,x.rk,x.ch⟩:=al W q 0 _ _ _ h;generalize W.setCell ⟨q,0,none⟩ (Vu a)=H at*;have N:kI (H.setCell ⟨q,1,none⟩ (Vu b)) q ⟨a,b,x.lc,x.lk,x.rc,x.rk,x.ch⟩:=al H q 1 _ _ _ O;generalize H.setCell ⟨q,1,none⟩ (Vu b)=z at*;have M:kI (z.setCell ⟨q,2,none⟩ (Vu c)) q ⟨a,b,c,x.lk,x.rc,x.rk,x.ch⟩:=al z q 2 _ _ _ N;generalize z.setCell ⟨q,2,none⟩ (Vu c)=u at*;have K:kI (u.setCell ⟨q,3,none⟩ (Vu d)) q ⟨a,b,c,d,x.rc,x.rk,x.ch⟩:=al u q 3 _ _ _ M;generalize u.setCell ⟨q,3,none⟩ (Vu d)=j at*;have J:kI (j.setCell ⟨q,4,none⟩ (Vu e)) q ⟨a,b,c,d,e,x.rk,x.ch⟩:=al j q 4 _ _ _ K;generalize j.setCell ⟨q,4,none⟩ (Vu e)=i at*;have I:kI (i.setCell ⟨q,5,none⟩ (Vu f)) q ⟨a,b,c,d,e,f,x.ch⟩:=al i q 5 _ _ _ J;generalize i.setCell ⟨q,5,none⟩ (Vu f)=Q at*;exact al Q q 6 _ _ _ I
def uV (L:List It) (a:I2):It:=match fnd L a with
 |some i=>(L[i]?).getD ⟨0,0,0,0,0,0,0⟩
 |none=>⟨0,0,0,0,0,0,0⟩
theorem DI {L:List It} {a:I2} {i:Nat} (h:fnd L a=some i) (e:L[i]? =some x):uV L a=x:=by
 unfold uV;rw[h];simp only[e];rfl
theorem JL {L:List It} {a:I2} (h:jw L a=false):uV L a=⟨0,0,0,0,0,0,0⟩:=by
 unfold uV;rw[rM.2 h]
end
end
section
attribute [local go_sem] ah calm jL jH
def M4 (L:List It) (x:It):Bool:= !(decide (x.c=0)||jw L (x.c,x.k))&&(decide (x.lc=0)||jw L (x.lc,x.lk))&&(decide (x.rc=0)||jw L (x.rc,x.rk))&&okB x.ch
theorem Uf (L:List It) (x:It):M4 L x=(kC L x&&okB x.ch):=by
 unfold M4 kC iid ilf irt;by_cases h:x.c=0 <;> cases jw L (x.c,x.k) <;> simp[h]
end
section
attribute [local go_sem] ah
inductive HT where
 |nil:HT
 |node:HT->I2->HT->HT
def hh:HT->Nat
 | .nil=>0
 | .node l _ r=>max (hh l) (hh r)+1
def hin:HT->List I2
 | .nil=>[]
 | .node l a r=>hin l++a::hin r
theorem L8 (l r:HT) (a:I2):hh (.node l a r)=max (hh l) (hh r)+1:=rfl
theorem kG (l r:HT) (a:I2):hin (.node l a r)=hin l++a::hin r:=rfl
theorem JR:∀t:HT,hh t<=(hin t).length
 | .nil=>am _
 | .node l a r=>by
   have f:=JR l;have e:=JR r;rw[L8,kG,ag,ar];omega
theorem L6 {t:HT} (h:0<hh t):∃l a r,t= .node l a r:=by
 cases t with
 |nil=>simp[hh] at h
 |node l a r=>exact⟨l,a,r,rfl⟩
def zK (t:HT) (a:I2) (r:HT):HT:=match t with
 | .nil=> .node .nil a r
 | .node x b y=>if hh y<=hh x then .node x b (.node y a r) else match y with
   | .nil=> .node (.node x b .nil) a r
   | .node u c z=> .node (.node x b u) c (.node z a r)
def zJ (l:HT) (a:I2) (t:HT):HT:=match t with
 | .nil=> .node l a .nil
 | .node x b y=>if hh x<=hh y then .node (.node l a x) b y else match x with
   | .nil=> .node l a (.node .nil b y)
   | .node u c z=> .node (.node l a u) c (.node z b y)
def CG (l:HT) (a:I2) (r:HT):HT:=if hh r+1<hh l then zK l a r else if hh l+1<hh r then zJ l a r else .node l a r
def rX:HT->I2->HT
 | .nil,a=> .node .nil a .nil
 | .node l b r,a=>if ltI a b=true then CG (rX l a) b r else CG l b (rX r a)
theorem V4 (t:HT) (a:I2) (r:HT):hin (zK t a r)=hin t++a::hin r:=by
 unfold zK;cases t with
 |nil=>rfl
 |node x b y=>
  show hin (if hh y<=hh x then _ else _)=_
  split
  ·simp[hin]
  ·cases y with
   |nil=>simp[hin]
   |node u c z=>simp[hin]
theorem V3 (l:HT) (a:I2) (t:HT):hin (zJ l a t)=hin l++a::hin t:=by
 unfold zJ;cases t with
 |nil=>rfl
 |node x b y=>
  show hin (if hh x<=hh y then _ else _)=_
  split
  ·simp[hin]
  ·cases x with
   |nil=>simp[hin]
   |node u c z=>simp[hin]
theorem BR (l:HT) (a:I2) (r:HT):hin (CG l a r)=hin l++a::hin r:=by
 unfold CG
 split
 ·exact V4 l a r
 ·split
  ·exact V3 l a r
  ·rfl
theorem yF:∀(t:HT) (a x:I2),x∈hin (rX t a)↔(x=a\/x∈hin t)
 | .nil,a,x=>by simp[rX,hin]
 | .node l b r,a,x=>by
   rw[rX]
   split
   ·rw[BR,kG,aA,aA,yF l a x,or_assoc]
   ·rw[BR,kG,aA,aA,aE,aE,yF r a x]
    constructor
    ·rintro(h|h|h|h)
     ·exact .inr (.inl h)
     ·exact .inr (.inr (.inl h))
     ·exact .inl h
     ·exact .inr (.inr (.inr h))
    ·rintro(h|h|h|h)
     ·exact .inr (.inr (.inl h))
     ·exact .inl h
     ·exact .inr (.inl h)
     ·exact .inr (.inr (.inr h))
theorem Ez (l:HT) (a:I2) (r:HT):(hin (CG l a r)).length=(hin l).length+1+(hin r).length:=by rw[BR,ag,ar];omega
theorem yG:∀(t:HT) (a:I2),(hin (rX t a)).length=(hin t).length+1
 | .nil,a=>rfl
 | .node l b r,a=>by
   rw[rX,kG,ag,ar]
   split
   ·rw[Ez,yG l a];omega
   ·rw[Ez,yG r a];omega
abbrev Bd (t:HT):Prop:=(hin t).Pairwise (λx y=>ltI x y=true)
theorem vD {l r:HT} {a:I2} (h:Bd (.node l a r)):Bd l/\Bd r/\(∀x∈hin l,ltI x a=true)/\(∀x∈hin r,ltI a x=true)/\(∀x∈hin l,∀y∈hin r,ltI x y=true):=by
 unfold Bd at*;rw[kG,co,bd] at h;obtain⟨u,⟨q,j⟩,f⟩:=h;exact⟨u,j,λx e=>f x e a (aH ..),q,λx e y i=>f x e y (aF _ i)⟩
theorem X4 {l r:HT} {a:I2} (z:Bd l) (u:Bd r) (q:∀x∈hin l,ltI x a=true) (j:∀x∈hin r,ltI a x=true):(hin l++a::hin r).Pairwise (λx y=>ltI x y=true):=by
 rw[co,bd];refine⟨z,⟨j,u⟩,λx i y f=>?_⟩;rcases aE.1 f with e|f
 ·subst e;exact q x i
 ·exact qP (q x i) (j y f)
theorem Hf:∀(t:HT) (a:I2),Bd t->a∉hin t->Bd (rX t a)
 | .nil,a,_,_=>by unfold Bd;simp[rX,hin]
 | .node l b r,a,h,hn=>by
   obtain⟨H,z,u,q,M⟩:=vD h;rw[kG] at hn;have K:a∉hin l:=λe=>hn (aX _ e)
   have J:a∉hin r:=λe=>hn (aM _ (aF _ e))
   have I:a≠b:=λe=>hn (aM _ (by rw[e];exact aH ..))
   unfold Bd;rw[rX]
   split
   ·rename_i f
    rw[BR];refine X4 (Hf l a H K) z (λx i=>?_) q;rcases(yF l a x).1 i with e|e
    ·subst e;exact f
    ·exact u x e
   ·rename_i f
    have j:ltI b a=true:=(vY I).resolve_left f;rw[BR];refine X4 H (Hf r a z J) u (λx i=>?_);rcases(yF r a x).1 i with e|e
    ·subst e;exact j
    ·exact q x e
theorem Wq {l r:HT} {a x:I2} (h:Bd (.node l a r)) (f:ltI x a=true):x∈hin (.node l a r)↔x∈hin l:=by
 obtain⟨z,u,q,i,j⟩:=vD h;rw[kG,aA,aE];constructor
 ·rintro(e|e|e)
  ·exact e
  ·subst e;have:=mR f;rw[f] at this;cases this
  ·have:=mR (i x e);rw[f] at this;cases this
 ·exact .inl
theorem Rz {l r:HT} {a x:I2} (h:Bd (.node l a r)) (f:ltI a x=true):x∈hin (.node l a r)↔x∈hin r:=by
 obtain⟨z,u,i,q,j⟩:=vD h;rw[kG,aA,aE];constructor
 ·rintro(e|e|e)
  ·have:=mR (i x e);rw[f] at this;cases this
  ·subst e;have:=mR f;rw[f] at this;cases this
  ·exact e
 ·exact λe=> .inr (.inr e)
structure HC (W:ae) (b:Nat) (c0 c1 c2:au) (h:Int):Prop where
 c0:W.cell? ⟨b,0,none⟩=some c0
 c1:W.cell? ⟨b,1,none⟩=some c1
 c2:W.cell? ⟨b,2,none⟩=some c2
 c3:W.cell? ⟨b,3,none⟩=some (Vi h)
theorem HC.ext {W W':ae} {b:Nat} {c0 c1 c2:au} {h:Int} (x:HC W b c0 c1 c2 h) (a:Ext W W'):HC W' b c0 c1 c2 h:=⟨a.keep x.c0,a.keep x.c1,a.keep x.c2,a.keep x.c3⟩
theorem HC.frame {W W':ae} {b:Nat} {c0 c1 c2:au} {h:Int} (x:HC W b c0 c1 c2 h) (a:W'.heap[b]? =W.heap[b]?):HC W' b c0 c1 c2 h:=⟨(lX a).trans x.c0,(lX a).trans x.c1,(lX a).trans x.c2,(lX a).trans x.c3⟩
theorem HC.lt {W:ae} {b:Nat} {c0 c1 c2:au} {h:Int} (x:HC W b c0 c1 c2 h):b<W.heap.size:=World.block_lt_of_cell? W _ x.c0
theorem HC.new (W:ae) (c0 c1 c2:au) (h:Int) (T:TypeId):HC (W.alloc (.cells #[c0,c1,c2,Vi h] T)) W.heap.size c0 c1 c2 h:=by
 constructor <;> simp[go_sem]
def HV (F:Nat->Prop) (W:ae) (ad:I2->Nat):HT->au->Prop
 | .nil,v=>v=qF
 | .node l a r,v=>∃b,v=Vp b/\F b/\∃e vr,HC W b (Vp (ad a)) e vr ((max (hh l) (hh r)+1:Nat):Int)/\HV F W ad l e/\HV F W ad r vr
theorem HV.ext {F:Nat->Prop} {W W':ae} {ad:I2->Nat} (f:Ext W W'):∀{t:HT} {v:au},HV F W ad t v->HV F W' ad t v
 | .nil,v,h=>h
 | .node l a r,v,⟨b,e,hf,vl,vr,hc,hl,hr⟩=>⟨b,e,hf,vl,vr,hc.ext f,HV.ext f hl,HV.ext f hr⟩
theorem HV.frame {F:Nat->Prop} {W W':ae} {ad:I2->Nat} (f:∀b,F b->W'.heap[b]? =W.heap[b]?):∀{t:HT} {v:au},HV F W ad t v->HV F W' ad t v
 | .nil,v,h=>h
 | .node l a r,v,⟨b,e,hf,vl,vr,hc,hl,hr⟩=>⟨b,e,hf,vl,vr,hc.frame (f b hf),HV.frame f hl,HV.frame f hr⟩
theorem HV.mono {F G:Nat->Prop} {W:ae} {ad:I2->Nat} (f:∀b,F b->G b):∀{t:HT} {v:au},HV F W ad t v->HV G W ad t v
 | .nil,v,h=>h
 | .node l a r,v,⟨b,e,hf,vl,vr,hc,hl,hr⟩=>⟨b,e,f b hf,vl,vr,hc,HV.mono f hl,HV.mono f hr⟩
theorem HV.lt {F:Nat->Prop} {W:ae} {ad:I2->Nat}:∀{t:HT} {v:au},HV F W ad t v->HV (λb=>F b/\b<W.heap.size) W ad t v
 | .nil,v,h=>h
 | .node l a r,v,⟨b,e,hf,vl,vr,hc,hl,hr⟩=>⟨b,e,⟨hf,hc.lt⟩,vl,vr,hc,HV.lt hl,HV.lt hr⟩
theorem HV.same {F:Nat->Prop} {W:ae} {ad f:I2->Nat}:∀{t:HT} {v:au},(∀a∈hin t,f a=ad a)->HV F W ad t v->HV F W f t v
 | .nil,v,_,h=>h
 | .node l a r,v,hs,⟨b,e,hf,vl,vr,hc,hl,hr⟩=>⟨b,e,hf,vl,vr,by rw[hs a (aM _ (aH ..))];exact hc,
   HV.same (λx i=>hs x (aX _ i)) hl,HV.same (λx i=>hs x (aM _ (aF _ i))) hr⟩
def KE (G:Nat->Prop) (ad:I2->Nat) (w:ae) (t:HT) (e:Ending) (w':ae):Prop:=∃v,e= .returned v/\HV G w' ad t v/\Ext w w'
def II (W:ae) (ad:I2->Nat) (l:List I2):Prop:=∀a∈l,W.cell? ⟨ad a,0,none⟩=some (Vu a.1)/\W.cell? ⟨ad a,1,none⟩=some (Vu a.2)
theorem II.ext {W W':ae} {ad:I2->Nat} {l:List I2} (h:II W ad l) (e:Ext W W'):II W' ad l:=λa f=>⟨e.keep (h a f).1,e.keep (h a f).2⟩
theorem aco (a b c d:Int):(mK a b c d= -1/\ltI (a,b) (c,d)=true)\/(mK a b c d=0/\a=c/\b=d)\/(mK a b c d=1/\ltI (c,d) (a,b)=true):=by
 unfold mK rP;simp only[qZ];by_cases h:a=c
 ·subst h
  rw[if_pos rfl];by_cases e:b<d
  ·rw[if_pos e];exact .inl ⟨rfl,.inr ⟨rfl,e⟩⟩
  ·rw[if_neg e]
   by_cases f:d<b
   ·rw[if_pos f];exact .inr (.inr ⟨rfl,.inr ⟨rfl,f⟩⟩)
   ·rw[if_neg f];exact .inr (.inl ⟨rfl,rfl,ω⟩)
 ·rw[if_neg h]
  by_cases e:a<c
  ·rw[if_pos e];exact .inl ⟨rfl,.inl e⟩
  ·rw[if_neg e]
   by_cases f:c<a
   ·rw[if_pos f];exact .inr (.inr ⟨rfl,.inl f⟩)
   ·omega
theorem qy {a b c d s:Int} (h:mK a b c d=s) (w:ae):aO pg 61 #[idv a b,idv c d] w λe w'=>e= .returned (Vi s)/\Ext w w':=by rw[<-h];exact MW _ _ _ _ _
theorem Hu {F:Nat->Prop} {ad:I2->Nat} (t:HT) (v:au) (w:ae) (h:HV F w ad t v):aO pg 186 #[v] w λe w'=>e= .returned (Vi (hh t:Nat))/\w=w':=by
 cases t with
 |nil=>
  have h:v=qF:=h;subst h;go_enter func186,ntmps186;go_wp2;go_ret;exact⟨rfl,rfl⟩
 |node l a r=>
  obtain⟨b,rfl,i,f,vr,⟨c0,c1,c2,c3⟩,_,_⟩:=h;rw[L8];generalize max (hh l) (hh r)+1=n at*;go_enter func186,ntmps186;go_wp2;go_ret;exact⟨rfl,rfl⟩
def fdV (ad:I2->Nat) (t:HT) (a:I2):au:=if a∈hin t then Vp (ad a) else qF
theorem Wv {F:Nat->Prop} {ad:I2->Nat} (t:HT) (v:au) (c k:Int) (w:ae) (h:HV F w ad t v) (hi:II w ad (hin t)) (z:Bd t):
  aO pg 90 #[v,idv c k] w λe w'=>e= .returned (fdV ad t (c,k))/\Ext w w':=by
 obtain⟨R,hR⟩:∃R,fdV ad t (c,k)=R:=⟨_,rfl⟩;rw[hR];replace hR:=ac hR;have a4:=ac hi;have h0:=ac h;have a2:=ac z;clear h z hi;go_enter func90,ntmps90;go_wp2;have x0:Ext w (w.alloc (.cells #[.int .u32 c,.int .u32 k] 38)):=(Ext.refl _).alloc _;have a0:(w.alloc (.cells #[.int .u32 c,.int .u32 k] 38)).cell? ⟨w.heap.size,0,none⟩=some (Vu c):=σ
 have a1:(w.alloc (.cells #[.int .u32 c,.int .u32 k] 38)).cell? ⟨w.heap.size,1,none⟩=some (Vu k):=σ
 generalize w.alloc (.cells #[.int .u32 c,.int .u32 k] 38)=w0 at*;generalize w.heap.size=pa at*
 go_loopg [0] (hin t).length (λkx s0 wr=>∃(u:HT) (v0:au),s0=v0/\Hid (HV F wr ad u v0/\Bd u/\(∀x∈hin u,x∈hin t)/\((c,k)∈hin u↔(c,k)∈hin t))/\(hin u).length<=kx/\Ext w0 wr)
 case atStart=>exact⟨t,v,rfl,ac ⟨h0.out.ext x0,a2.out,λ_ h=>h,Iff.rfl⟩,am _,Ext.refl _⟩
 case round=>
  obtain⟨u,v0,e0,hu,hk,Y⟩:=hrel;cases u with
  |nil=>
   obtain⟨e,_,_,hm⟩:=hu.out;have e:v0=qF:=e;subst e;subst e0;have hr:=ac (show R=qF by
        rw[<-hR.out];unfold fdV;rw[if_neg (λe=>by have:=hm.2 e;simp[hin] at this)])
   go_wp2;go_ret;exact⟨by rw[hr.out];rfl,x0.trans Y⟩
  |node l b r=>
   obtain⟨⟨bb,e,hf,vl,vr,hc,hl,H⟩,z,f,hm⟩:=hu.out;subst e;subst e0;have i:Ext w0 wr.drew:=Y.drew;have q:Ext wr wr.drew:=(Ext.refl _).drew;obtain⟨c0,c1,c2,c3⟩:=hc.ext q;have hb:=f b (aM _ (aH ..));obtain⟨i0,Z⟩:=a4.out b hb;replace i0:=i.keep (x0.keep i0);replace Z:=i.keep (x0.keep Z);replace a0:=i.keep a0;replace a1:=i.keep a1;have K:=hl.ext q;have I:=H.ext q;obtain⟨b1,b2⟩:=b;simp only at i0 Z;obtain⟨nb,J⟩:∃nb,ad (b1,b2)=nb:=⟨_,rfl⟩;rw[J] at i0 Z c0;have N:=i0;have M:=Z;replace J:=ac J;rcases aco c k b1 b2 with⟨hcm,ho⟩|⟨hcm,rfl,rfl⟩|⟨hcm,ho⟩
   ·have a:=ac (λW=>qy hcm W)
    have Q:=ac (hm.symm.trans (Wq z ho));have O:=ac (vD z).1;have X:(hin l).length<gk:=by rw[kG,ag,ar] at hk;omega
    have U:=ac K;have j:=ac (λx (Y:x∈hin l)=>f x (aX _ Y));clear hcm ho hm z hc hl H K I f hb hu hk q N M;go_wp2;refine bZ 9 κ κ ?_;simp only[cq,cV,bU,cH];change gz pg _ wr.drew (λa'=>il pg _ _ _ a' wr.drew) _ _;generalize wr.drew=w2 at*
    repeat still_step
    refine dW ?_
    go_wp2_with fail
    refine(a.out _).mono ?_;rintro e w3 ⟨rfl,x3⟩;replace c0:=x3.keep c0;replace c1:=x3.keep c1;replace c2:=x3.keep c2;go_wp2
    go_roundg (hin l).length
    case measure=>exact X
    case rel=>exact⟨l,vl,rfl,ac ⟨U.out.ext x3,O.out,j.out,Q.out.symm⟩,am _,i.trans x3⟩
   ·have a:=ac (λW=>qy hcm W)
    have a3:=ac (show R=Vp nb by
     rw[<-hR.out];unfold fdV;rw[if_pos hb,J.out])
    clear hcm hm z hc hl H K I f hb hu hk q N M;go_wp2;refine bZ 9 κ κ ?_;simp only[cq,cV,bU,cH];change gz pg _ wr.drew (λa'=>il pg _ _ _ a' wr.drew) _ _;generalize wr.drew=w2 at*
    repeat still_step
    refine dW ?_
    go_wp2_with fail
    refine(a.out _).mono ?_;rintro e w3 ⟨rfl,x3⟩;replace c0:=x3.keep c0;replace c1:=x3.keep c1;replace c2:=x3.keep c2;go_wp2;go_ret;exact⟨by rw[a3.out];rfl,(x0.trans i).trans x3⟩
   ·have a:=ac (λW=>qy hcm W)
    have Q:=ac (hm.symm.trans (Rz z ho));have O:=ac (vD z).2.1;have X:(hin r).length<gk:=by rw[kG,ag,ar] at hk;omega
    have U:=ac I;have j:=ac (λx (Y:x∈hin r)=>f x (aM _ (aF _ Y)));clear hcm ho hm z hc hl H K I f hb hu hk q N M;go_wp2;refine bZ 9 κ κ ?_;simp only[cq,cV,bU,cH];change gz pg _ wr.drew (λa'=>il pg _ _ _ a' wr.drew) _ _;generalize wr.drew=w2 at*
    repeat still_step
    refine dW ?_
    go_wp2_with fail
    refine(a.out _).mono ?_;rintro e w3 ⟨rfl,x3⟩;replace c0:=x3.keep c0;replace c1:=x3.keep c1;replace c2:=x3.keep c2;go_wp2
    go_roundg (hin r).length
    case measure=>exact X
    case rel=>exact⟨r,vr,rfl,ac ⟨U.out.ext x3,O.out,j.out,Q.out.symm⟩,am _,i.trans x3⟩
section
def vAd (ad:I2->Nat) (a:I2):au:=if a.1=0 then qF else Vp (ad a)
abbrev RtL (L:List It) (a:I2):Prop:=a=(0,0)\/jw L a=true
variable {F:Nat->Prop} {L:List It} {W:ae} {a:I2} {ad:I2->Nat} {b:Nat} {d:Int} {r:Bool} {v1 v2:au} {x:It}
theorem sQ (ad:I2->Nat):vAd ad (0,0)=qF:=rfl
theorem pK (f:jy L=true) (h:jw L a=true):vAd ad a=Vp (ad a):=by
 unfold vAd;rw[if_neg];intro e;have:=kH f a.2;rw[show((0:Int),a.2)=a from fN e.symm rfl,h] at this;cases this
theorem qo (ad:I2->Nat) (a:I2):∃p,vAd ad a= .pointer p:=by
 unfold vAd
 split
 ·exact⟨none,rfl⟩
 ·exact⟨_,rfl⟩
def NC (W:ae) (b:Nat) (x:It) (e:au) (r:Bool) (d:Int) (f:au):Prop:=W.heap[b]? =some (.cells #[Vu x.c,Vu x.k,Vu x.lc,Vu x.lk,Vu x.rc,Vu x.rk,.int .i32 x.ch,e,.bool r,Vi d,f] 188 (0,0))
theorem NC.lt (h:NC W b x v1 r d v2):b<W.heap.size:=(an.1 h).1
theorem NC.ext {W':ae} (h:NC W b x v1 r d v2) (e:Ext W W'):NC W' b x v1 r d v2:=(av e b h.lt).trans h
theorem NC.frame {W':ae} (h:NC W b x v1 r d v2) (e:W'.heap[b]? =W.heap[b]?):NC W' b x v1 r d v2:=e.trans h
structure NcC (W:ae) (b:Nat) (x:It) (v1:au) (r:Bool) (d:Int) (v2:au):Prop where
 c0:W.cell? ⟨b,0,none⟩=some (Vu x.c)
 c1:W.cell? ⟨b,1,none⟩=some (Vu x.k)
 c2:W.cell? ⟨b,2,none⟩=some (Vu x.lc)
 c3:W.cell? ⟨b,3,none⟩=some (Vu x.lk)
 c4:W.cell? ⟨b,4,none⟩=some (Vu x.rc)
 c5:W.cell? ⟨b,5,none⟩=some (Vu x.rk)
 c6:W.cell? ⟨b,6,none⟩=some (.int .i32 x.ch)
 c7:W.cell? ⟨b,7,none⟩=some (v1)
 c8:W.cell? ⟨b,8,none⟩=some (.bool r)
 c9:W.cell? ⟨b,9,none⟩=some (Vi d)
 c10:W.cell? ⟨b,10,none⟩=some (v2)
theorem NC.cells (h:NC W b x v1 r d v2):NcC W b x v1 r d v2:=
 ⟨aj W b 0 _ _ _ h,aj W b 1 _ _ _ h,aj W b 2 _ _ _ h,aj W b 3 _ _ _ h,aj W b 4 _ _ _ h,aj W b 5 _ _ _ h,aj W b 6 _ _ _ h,aj W b 7 _ _ _ h,aj W b 8 _ _ _ h,aj W b 9 _ _ _ h,aj W b 10 _ _ _ h⟩
structure NdL (F:Nat->Prop) (W:ae) (ad:I2->Nat) (L:List It):Prop where
 kn:jy L=true
 at':∀x∈L,F (ad (iid x))/\∃(on far:I2) (right:Bool) (q:Pth),RtL L on/\RtL L far/\pth L (iid x)=pth L on++[(right,iid x)]/\pth L (iid x)=pth L far++q/\q≠[]/\NC W (ad (iid x)) x (vAd ad on) right ((pth L (iid x)).length:Nat) (vAd ad far)
 inj:∀a b,jw L a=true->jw L b=true->ad a=ad b->a=b
theorem NdL.ext {F:Nat->Prop} {W W':ae} {ad:I2->Nat} {L:List It} (h:NdL F W ad L) (e:Ext W W'):NdL F W' ad L:=
 ⟨h.kn,λx hm=>by
  obtain⟨I,on,far,r,q,H,z,u,j,i,f⟩:=h.at' x hm;exact⟨I,on,far,r,q,H,z,u,j,i,f.ext e⟩,h.inj⟩
theorem NdL.frame {F:Nat->Prop} {W W':ae} {ad:I2->Nat} {L:List It} (h:NdL F W ad L) (f:∀b,F b->W'.heap[b]? =W.heap[b]?):NdL F W' ad L:=
 ⟨h.kn,λx hm=>by
  obtain⟨e,on,far,r,q,I,H,z,u,j,i⟩:=h.at' x hm;exact⟨e,on,far,r,q,I,H,z,u,j,i.frame (f _ e)⟩,h.inj⟩
theorem NdL.mono {G:Nat->Prop} (h:NdL F W ad L) (e:∀b,F b->G b):NdL G W ad L:=
 ⟨h.kn,λx hm=>by
  obtain⟨f,r⟩:=h.at' x hm;exact⟨e _ f,r⟩,h.inj⟩
theorem NdL.lt {F:Nat->Prop} {W:ae} {ad:I2->Nat} {L:List It} (h:NdL F W ad L):NdL (λb=>F b/\b<W.heap.size) W ad L:=
 ⟨h.kn,λx hm=>by
  obtain⟨H,on,far,r,q,z,u,j,i,f,e⟩:=h.at' x hm;exact⟨⟨H,e.lt⟩,on,far,r,q,z,u,j,i,f,e⟩,h.inj⟩
theorem NdL.get (h:NdL F W ad L) (f:jw L a=true):∃(x:It) (on far:I2) (right:Bool) (q:Pth),iid x=a/\RtL L on/\RtL L far/\pth L a=pth L on++[(right,a)]/\pth L a=pth L far++q/\q≠[]/\NC W (ad a) x (vAd ad on) right ((pth L a).length:Nat) (vAd ad far):=by
 obtain⟨x,e,rfl⟩:=jO.1 f;obtain⟨_,on,far,r,q,I,H,z,u,j,i⟩:=h.at' x e;exact⟨x,on,far,r,q,rfl,I,H,z,u,j,i⟩
theorem NdL.ids (h:NdL F W ad L) {l:List I2} (f:∀a∈l,jw L a=true):II W ad l:=by
 intro a i;obtain⟨x,_,_,_,_,rfl,_,_,_,_,_,e⟩:=h.get (f a i);exact⟨e.cells.c0,e.cells.c1⟩
theorem Ym (e:jy L=true) (h:0<(pth L a).length):jw L a=true:=by
 cases hh:jw L a with
 |true=>rfl
 |false=>rw[kF hh] at h;simp at h
theorem rt_eq (j:jy L=true) {b:I2} (i:RtL L a) (f:RtL L b) (e:pth L a=pth L b):a=b:=by
 rcases i with i|i
 ·subst i
  rcases f with f|f
  ·exact f.symm
  ·rw[kF (kH j 0)] at e
   obtain⟨s,p,q,_⟩:=kN j b f;rw[q] at e;simp at e
 ·rcases f with f|f
  ·subst f
   rw[kF (kH j 0)] at e;obtain⟨s,p,q,_⟩:=kN j a i;rw[q] at e;simp at e
  ·exact Fb j i f e
theorem Cj (w:ae) (h:NdL F w ad L) (f:RtL L a) (n:Nat) (hn:(pth L a).length=n):aO pg 145 #[vAd ad a] w λe w'=>e= .returned (Vi (n:Int))/\w=w':=by
 subst hn;rcases f with rfl|f
 ·rw[sQ,kF (kH h.kn 0)]
  go_enter func145,ntmps145;go_wp2;go_ret;exact⟨rfl,rfl⟩
 ·obtain⟨x,on,far,r,q,_,_,_,_,_,_,i⟩:=h.get f
  have c9:=i.cells.c9;rw[pK h.kn f];clear i;generalize(pth L a).length=n at*;generalize ad a=b at*;go_enter func145,ntmps145;go_wp2;go_ret;exact⟨rfl,rfl⟩
theorem CW {P q:Pth} {d:Nat} (h:d<=P.length):(P++q).take d=P.take d:=by
 rw[iR,show d-P.length=0 by omega,cV,bB]
def UpC (ad:I2->Nat) (L:List It) (P:Pth) (e:Ending):Prop:=∃c:I2,jw L c=true/\pth L c=P/\e= .returned (Vp (ad c))
theorem Ux (d:Nat) (w:ae) (h:NdL F w ad L) (ha:jw L a=true) (h1:1<=d) (h2:d<=(pth L a).length) (h3:(pth L a).length<=40000000):
  aO pg 209 #[Vp (ad a),Vi (d:Int)] w λe w'=>UpC ad L ((pth L a).take d) e/\w=w':=by
 have N:=ac h;obtain⟨T,hT⟩:∃T,(pth L a).take d=T:=⟨_,rfl⟩;have a1:=ac (show jw L a=true/\d<=(pth L a).length/\(pth L a).take d=T from⟨ha,h2,hT⟩);rw[hT];obtain⟨K,hK⟩:∃K,(pth L a).length=K:=⟨_,rfl⟩;replace hK:=ac hK;clear h ha h2 hT;go_enter func209,ntmps209;go_wp2
 go_loopg [0] K (λkx s0 wr=>∃m:I2,s0=Vp (ad m)/\Hid (jw L m=true/\d<=(pth L m).length/\(pth L m).take d=T)/\Hid ((pth L m).length<=kx)/\wr=w)
 case atStart=>exact⟨a,rfl,a1,ac (Nat.le_of_eq hK.out),rfl⟩
 case round=>
  obtain⟨m,rfl,hp,hk,rfl⟩:=hrel;obtain⟨hm,hd,J⟩:=hp.out;obtain⟨x,on,far,r,q,_,a3,a2,Q,O,p3,hc⟩:=N.out.get hm;have c7:=hc.cells.c7;have c9:=hc.cells.c9;have c10:=hc.cells.c10;have u:=congrArg fC Q;have j:=congrArg fC O;rw[ag,cy] at u;rw[ag] at j;have hq:=List.length_pos_iff.2 p3;clear hc;by_cases a4:d<(pth L m).length
  ·have Z:(d:Int)<((pth L m).length:Int):=ω
   have f:=ac (λn hn=>Cj wr N.out a2 n hn);have Y:jw L on=true:=Ym N.out.kn ω;by_cases hf:d<=(pth L far).length
   ·have a0:jw L far=true:=Ym N.out.kn ω
    rw[pK N.out.kn a0] at c10 f;have M:=ac (show jw L far=true/\d<=(pth L far).length/\(pth L far).take d=T from⟨a0,hf,by rw[<-J,O,CW hf]⟩);have z:=ac (show(pth L far).length<gk by have:=hk.out;omega);have H:=ac (am (pth L far).length);replace f:=ac (f.out _ rfl);have I:(d:Int)<=((pth L far).length:Int):=ω
    clear hp J Q O p3 u j hq hk;generalize(pth L m).length=nm at*;obtain⟨U,i⟩:∃U,(pth L far).length=U:=⟨_,rfl⟩;rw[i] at f I;replace i:=ac i
    go_wp2_with fail
    refine f.out.mono ?_;rintro e w1 ⟨rfl,rfl⟩;go_wp2
    go_roundg (pth L far).length
    case measure=>exact z.out
    case rel=>exact⟨far,rfl,M,H,rfl⟩
   ·have I:¬(d:Int)<=((pth L far).length:Int):=ω
    have M:=ac (show jw L on=true/\d<=(pth L on).length/\(pth L on).take d=T from⟨Y,ω,by rw[<-J,Q,CW ω]⟩);have z:=ac (show(pth L on).length<gk by have:=hk.out;omega);have H:=ac (am (pth L on).length);replace f:=ac (f.out _ rfl);rw[pK N.out.kn Y] at c7;obtain⟨pf,X⟩:=qo ad far;rw[X] at c10 f;clear hp J Q O p3 u j hq hk X;generalize(pth L m).length=nm at*;obtain⟨U,i⟩:∃U,(pth L far).length=U:=⟨_,rfl⟩;rw[i] at f I;replace i:=ac i
    go_wp2_with fail
    refine f.out.mono ?_;rintro e w1 ⟨rfl,rfl⟩;go_wp2
    go_roundg (pth L on).length
    case measure=>exact z.out
    case rel=>exact⟨on,rfl,M,H,rfl⟩
  ·have Z:¬(d:Int)<((pth L m).length:Int):=ω
   have M:=ac (show jw L m=true/\pth L m=T from⟨hm,by rw[<-J,aU ω]⟩);clear hp J Q O p3 u j hq hk;generalize(pth L m).length=nm at*;go_wp2;go_ret;exact⟨⟨m,M.out.1,M.out.2,rfl⟩,rfl⟩
theorem Zc:(pg.info? 188).map (λi=>decide (i.size≠0))=some true:=κ
theorem Lh (a:Addr) (W:ae):(binOp .neq 185 (.pointer (some a)) (.pointer (some a))).run pg W= .ok (.bool false) W:=by
 have hi:=Zc;cases e:pg.info? 188 with
 |none=>rw[e] at hi;cases hi
 |some j=>
  have h:∀d:Nat,(ei (d+1) 185 (.pointer (some a)) (.pointer (some a))).run pg W= .ok true W:=λd=>by
   simp[ei,bp underlying185,sizeOf,typeInfo,e,run_sameAddr_same]
  simp only[binOp];simp[Op.equal,gG,h 9999]
theorem IW {a b:Addr} {ca cb:Array au} {q tb:TypeId} (f:a≠b) (z:W.heap[a.block]? =some (.cells ca q (0,0))) (u:W.heap[b.block]? =some (.cells cb tb (0,0))):(binOp .neq 185 (.pointer (some a)) (.pointer (some b))).run pg W= .ok (.bool true) W:=by
 have hi:=Zc;cases i:pg.info? 188 with
 |none=>rw[i] at hi;cases hi
 |some j=>
  rw[i] at hi;have e:j.size≠0:=by simpa using hi
  have h:∀d:Nat,(ei (d+1) 185 (.pointer (some a)) (.pointer (some b))).run pg W= .ok false W:=λd=>by
   simp[ei,bp underlying185,sizeOf,typeInfo,i,e,run_sameAddr_other W f z u]
  simp only[binOp];simp[Op.equal,gG,h 9999]
theorem Ep (a:Addr) (W:ae):(binOp .neq 185 (.pointer (some a)) (.pointer none)).run pg W= .ok (.bool true) W:=by
 have h:∀d:Nat,(ei (d+1) 185 (.pointer (some a)) (.pointer none)).run pg W= .ok false W:=λd=>by
  simp[ei,bp underlying185]
 simp only[binOp];simp[Op.equal,gG,h 9999]
theorem Lj (a:Addr) (W:ae):(binOp .neq 185 (.pointer none) (.pointer (some a))).run pg W= .ok (.bool true) W:=by
 have h:∀d:Nat,(ei (d+1) 185 (.pointer none) (.pointer (some a))).run pg W= .ok false W:=λd=>by
  simp[ei,bp underlying185]
 simp only[binOp];simp[Op.equal,gG,h 9999]
theorem BF (W:ae):(binOp .neq 185 (.pointer none) (.pointer none)).run pg W= .ok (.bool false) W:=by
 have h:∀d:Nat,(ei (d+1) 185 (.pointer none) (.pointer none)).run pg W= .ok true W:=λd=>by
  simp[ei,bp underlying185]
 simp only[binOp];simp[Op.equal,gG,h 9999]
theorem ae1 (h:NdL F W ad L) {b:I2} (f:RtL L a) (i:RtL L b):(binOp .neq 185 (vAd ad a) (vAd ad b)).run pg W= .ok (.bool (decide (a≠b))) W:=by
 by_cases e:a=b
 ·subst e
  rw[decide_eq_false (λh=>h rfl)];rcases f with rfl|f
  ·exact BF W
  ·rw[pK h.kn f];exact Lh _ W
 ·rw[decide_eq_true e]
  rcases f with rfl|f
  ·rcases i with rfl|i
   ·exact absurd rfl e
   ·rw[sQ,pK h.kn i];exact Lj _ W
  ·rcases i with rfl|i
   ·rw[sQ,pK h.kn f];exact Ep _ W
   ·rw[pK h.kn f,pK h.kn i]
    obtain⟨_,_,_,_,_,_,_,_,_,_,_,q⟩:=h.get f;obtain⟨_,_,_,_,_,_,_,_,_,_,_,j⟩:=h.get i;refine IW (λu=>e (h.inj a b f i ?_)) q j;injection u
def hgV (ad:I2->Nat) (r:Option I2):au:=match r with
 |none=>qF
 |some c=>Vp (ad c)
theorem Ap {b:I2} (w:ae) (h:NdL F w ad L) (ha:jw L a=true) (hb:RtL L b) (h3:L.length<=40000000):
  aO pg 177 #[Vp (ad a),vAd ad b] w λe w'=>e= .returned (hgV ad (nu L a b))/\w=w':=by
 have b1:=oJ h.kn a;have b0:=oJ h.kn b;obtain⟨x,on,far,r,q,_,a9,b2,p1,p2,p3,hc⟩:=h.get ha;have c9:=hc.cells.c9;have I:=ac (Cj w h hb _ rfl);obtain⟨R,hR⟩:∃R,hgV ad (nu L a b)=R:=⟨_,rfl⟩;rw[hR];have hN:=ac h;by_cases a0:(pth L a).length<(pth L b).length+1
 ·have H:((pth L a).length:Int)<((pth L b).length:Int)+1:=ω
  have Z:=ac (show R=qF by
   rw[<-hR,DR]
   ·rfl
   ·intro s c r e
    have:=congrArg fC e;rw[ag,ar] at this;omega)
  obtain⟨pb,i⟩:=qo ad b;rw[i] at I⊢;clear hR hc p1 p2 p3 h a0 i;generalize(pth L a).length=na at*;generalize(pth L b).length=J at*;generalize ad a=aa at*;go_enter func177,ntmps177
  go_wp2_with fail
  refine I.out.mono ?_;rintro e w1 ⟨rfl,rfl⟩;go_wp2;go_ret;exact⟨by rw[Z.out];rfl,rfl⟩
 ·have H:¬((pth L a).length:Int)<((pth L b).length:Int)+1:=ω
  have M:=ac (Ux ((pth L b).length+1) w h ha ω ω ω);obtain⟨pb,i⟩:=qo ad b;have a8:=ac i;rw[i] at I⊢;replace hR:=ac hR;clear hc p1 p2 p3 h a0 i;have hA:=ac (show(pth L b).length<(pth L a).length by omega);have K:(pth L b).length<=40000000:=ω
  obtain⟨na,Q⟩:∃n,(pth L a).length=n:=⟨_,rfl⟩;obtain⟨J,j⟩:∃n,(pth L b).length=n:=⟨_,rfl⟩;obtain⟨aa,U⟩:∃n,ad a=n:=⟨_,rfl⟩;rw[j] at H I M K;rw[Q] at H c9;rw[U] at c9 M⊢;replace Q:=ac Q;replace j:=ac j;replace U:=ac U;go_enter func177,ntmps177
  go_wp2_with fail
  refine I.out.mono ?_;rintro e w1 ⟨rfl,rfl⟩
  go_wp2_with fail
  rw[show(J:Int)+1=((J+1:Nat):Int) by omega];refine M.out.mono ?_;rintro e w1 ⟨⟨c,a6,a1,rfl⟩,rfl⟩;obtain⟨x2,f,MN,r2,q2,_,a4,SK,q1,a5,q3,a2⟩:=hN.out.get a6;have d7:=a2.cells.c7;obtain⟨p2,N⟩:=qo ad f;have VX:=ac N;rw[N] at d7;have u:(pth L a).take (J+1)=pth L f++[(r2,c)]:=by rw[<-a1,q1]
  have X:pth L f=(pth L a).take J:=by
   have h1:=congrArg (λz=>z.take J) u;have hl:=congrArg fC u;rw[List.length_take,ag,cy] at hl;have a7:=hA.out;rw[j.out] at a7;rw[List.take_take,Nat.min_eq_left ω,iR,aU (l:=pth L f) ω,show J-(pth L f).length=0 by omega,cV,bB] at h1;exact h1.symm
  clear a2 a1 q1 a5 q3 N c9;have O:=ae1 hN.out a4 hb;rw[VX.out,a8.out] at O;by_cases Y:f=b
  ·have a3:f=b:=Y
   rw[decide_eq_false (λhh=>hh Y)] at O;have Z:=ac (show R=Vp (ad c) by
        rw[<-hR.out,DN (s:=r2) (c:=c) (r:=(pth L a).drop (J+1))]
        ·rfl
        ·have:=List.take_append_drop (J+1) (pth L a)
         rw[u,a3,aK] at this;exact this.symm)
   clear u X Y a3;go_wp2;go_ret;exact⟨by rw[Z.out];rfl,rfl⟩
  ·rw[decide_eq_true Y] at O
   have Z:=ac (show R=qF by
        rw[<-hR.out,DR]
        ·rfl
        ·intro s c3 r3 e3
         have h4:pth L f=pth L b:=by rw[X,e3,CW (by rw[j.out];exact am _),aU (by rw[j.out];exact am _)]
         exact Y (rt_eq hN.out.kn a4 hb h4))
   clear u X Y;go_wp2;go_ret;exact⟨by rw[Z.out];rfl,rfl⟩
def afa (ad:I2->Nat) (L:List It) (b:I2) (e:Ending):Prop:=∃(f:I2) (q:Pth),RtL L f/\pth L b=pth L f++q/\e= .returned (vAd ad f)
theorem ZP {b:I2} (w:ae) (h:NdL F w ad L) (u:RtL L b) (h3:L.length<=40000000):
  aO pg 146 #[vAd ad b] w λe w'=>afa ad L b e/\Ext w w':=by
 have f:=ac (show afa ad L b (.returned (vAd ad b)) from⟨b,[],u,ι,rfl⟩);rcases u with rfl|u
 ·rw[sQ] at f⊢
  go_enter func146,ntmps146;go_wp2;go_ret;exact⟨f.out,Ext.refl _⟩
 ·obtain⟨x,on,far,r,q,_,H,Y,p1,U,p3,O⟩:=h.get u
  have c9:=O.cells.c9;have c10:=O.cells.c10;rw[pK h.kn u] at f⊢;have a2:=oJ h.kn b;rcases Y with rfl|Q
  ·rw[sQ] at c10
   clear O p1 U p3 h H;generalize(pth L b).length=X at*;generalize ad b=bb at*;go_enter func146,ntmps146;go_wp2;go_ret;exact⟨f.out,Ext.refl _⟩
  ·rw[pK h.kn Q] at c10
   obtain⟨x2,a0,z,r2,q2,_,Z,SK,q1,I,q3,i⟩:=h.get Q;have d9:=i.cells.c9;have j:=i.cells.c10;have a1:=oJ h.kn far;have a3:=oJ h.kn z;have N:=ac (λ(e:Ext w w.drew)=>Cj w.drew (h.ext e) SK _ rfl);have K:=ac (show afa ad L b (.returned (vAd ad z)) from⟨z,q2++q,SK,by rw[U,I,aK],rfl⟩);obtain⟨pf,J⟩:=qo ad z;rw[J] at j N K;have x1:Ext w w.drew:=(Ext.refl w).drew;replace N:=ac (((N.out x1).mono λe w' h=>(⟨h.1,h.2.symm⟩:e= .returned (Vi ((pth L z).length:Nat))/\w'=w.drew)));have a6:=x1.keep c9;have a7:=x1.keep c10;have a5:=x1.keep d9;have a8:=x1.keep j;clear O i p1 U p3 q1 I q3 h H Z SK Q u J c9 d9 j;generalize(pth L b).length=X at*;generalize(pth L far).length=M at*;generalize(pth L z).length=ng at*;generalize ad b=bb at*;generalize ad far=bf at*;obtain⟨T,hT⟩:∃T:Bool,decide ((X:Int)-(M:Int)=(M:Int)-(ng:Int))=T:=⟨_,rfl⟩;have a4:((X:Int)-(M:Int)==(M:Int)-(ng:Int))=T:=by rw[<-hT];rfl
   clear hT;go_enter func146,ntmps146;go_wp2;refine bZ 28 κ κ ?_;simp only[cq,cV,bU,cH];change gz pg _ w.drew (λa'=>il pg _ _ _ a' w.drew) _ _;generalize w.drew=w2 at*
   repeat still_step
   still_call N.out
   repeat still_step
   refine dW ?_;cases T
   ·go_wp2
    go_ret;exact⟨f.out,x1⟩
   ·go_wp2
    go_ret;exact⟨K.out,x1⟩
end
end
section
structure Lv where
 A:Option Addr
 n:Nat
 c:Nat
 l:Option Addr
 r:Option Addr
 h:Int
 m:Int
 s:Int
 lo:Int
 hi:Int
 p:Option Addr
abbrev lsv (x:Lv):au:= .agg #[.slice x.A x.n x.c,.pointer x.l,.pointer x.r,Vi x.h,Vi x.m,Vi x.s,Vq x.lo,Vq x.hi,.pointer x.p]
abbrev zLv:Lv:=⟨none,0,0,none,none,0,0,0,0,0,none⟩
def BxL (W:ae) (q:Nat) (x:Lv):Prop:=W.heap[q]? =some (.cells #[.slice x.A x.n x.c,.pointer x.l,.pointer x.r,Vi x.h,Vi x.m,Vi x.s,Vq x.lo,Vq x.hi,.pointer x.p] 66 (0,0))
variable {W:ae} {q:Nat} {x:Lv}
theorem BxL.new (W:ae) (x:Lv):BxL (W.alloc (.cells #[.slice x.A x.n x.c,.pointer x.l,.pointer x.r,Vi x.h,Vi x.m,Vi x.s,Vq x.lo,Vq x.hi,.pointer x.p] 66)) W.heap.size x:=aI W _
theorem BxL.lt (h:BxL W q x):q<W.heap.size:=(an.1 h).1
theorem BxL.ext {W':ae} (h:BxL W q x) (a:Ext W W'):BxL W' q x:=(av a q h.lt).trans h
theorem BxL.cells (h:BxL W q x):W.cell? ⟨q,0,none⟩=some (.slice x.A x.n x.c)/\W.cell? ⟨q,1,none⟩=some (.pointer x.l)/\W.cell? ⟨q,2,none⟩=some (.pointer x.r)/\W.cell? ⟨q,3,none⟩=some (Vi x.h)/\W.cell? ⟨q,4,none⟩=some (Vi x.m)/\W.cell? ⟨q,5,none⟩=some (Vi x.s)/\W.cell? ⟨q,6,none⟩=some (Vq x.lo)/\W.cell? ⟨q,7,none⟩=some (Vq x.hi)/\W.cell? ⟨q,8,none⟩=some (.pointer x.p):=
 ⟨aj W q 0 _ _ _ h,aj W q 1 _ _ _ h,aj W q 2 _ _ _ h,aj W q 3 _ _ _ h,aj W q 4 _ _ _ h,aj W q 5 _ _ _ h,aj W q 6 _ _ _ h,aj W q 7 _ _ _ h,aj W q 8 _ _ _ h⟩
theorem BxL.thaw (h:BxL W q x) (j:Nat):W.frozen? ⟨q,j,none⟩=false:=aw W q j _ _ h
abbrev qM (W:ae) (q:Nat) (y:Lv):ae:=(((((((((W.setCell ⟨q,0,none⟩ (.slice y.A y.n y.c)).setCell ⟨q,1,none⟩ (.pointer y.l)).setCell ⟨q,2,none⟩ (.pointer y.r)).setCell ⟨q,3,none⟩ (Vi y.h)).setCell ⟨q,4,none⟩ (Vi y.m)).setCell ⟨q,5,none⟩ (Vi y.s)).setCell ⟨q,6,none⟩ (Vq y.lo)).setCell ⟨q,7,none⟩ (Vq y.hi)).setCell ⟨q,8,none⟩ (.pointer y.p))
theorem BxL.put (h:BxL W q x) (y:Lv):BxL (qM W q y) q y:=by
 unfold BxL at h⊢;unfold qM;have X:(W.setCell ⟨q,0,none⟩ (.slice y.A y.n y.c)).heap[q]? =some (.cells #[.slice y.A y.n y.c,.pointer x.l,.pointer x.r,Vi x.h,Vi x.m,Vi x.s,Vq x.lo,Vq x.hi,.pointer x.p] 66 (0,0)):=al W q 0 _ _ _ h;generalize W.setCell ⟨q,0,none⟩ (.slice y.A y.n y.c)=z at*;have U:(z.setCell ⟨q,1,none⟩ (.pointer y.l)).heap[q]? =some (.cells #[.slice y.A y.n y.c,.pointer y.l,.pointer x.r,Vi x.h,Vi x.m,Vi x.s,Vq x.lo,Vq x.hi,.pointer x.p] 66 (0,0)):=al z q 1 _ _ _ X;generalize z.setCell ⟨q,1,none⟩ (.pointer y.l)=u at*;have Q:(u.setCell ⟨q,2,none⟩ (.pointer y.r)).heap[q]? =some (.cells #[.slice y.A y.n y.c,.pointer y.l,.pointer y.r,Vi x.h,Vi x.m,Vi x.s,Vq x.lo,Vq x.hi,.pointer x.p] 66 (0,0)):=al u q 2 _ _ _ U;generalize u.setCell ⟨q,2,none⟩ (.pointer y.r)=j at*;have O:(j.setCell ⟨q,3,none⟩ (Vi y.h)).heap[q]? =some (.cells #[.slice y.A y.n y.c,.pointer y.l,.pointer y.r,Vi y.h,Vi x.m,Vi x.s,Vq x.lo,Vq x.hi,.pointer x.p] 66 (0,0)):=al j q 3 _ _ _ Q;generalize j.setCell ⟨q,3,none⟩ (Vi y.h)=i at*;have N:(i.setCell ⟨q,4,none⟩ (Vi y.m)).heap[q]? =some (.cells #[.slice y.A y.n y.c,.pointer y.l,.pointer y.r,Vi y.h,Vi y.m,Vi x.s,Vq x.lo,Vq x.hi,.pointer x.p] 66 (0,0)):=al i q 4 _ _ _ O;generalize i.setCell ⟨q,4,none⟩ (Vi y.m)=f at*;have M:(f.setCell ⟨q,5,none⟩ (Vi y.s)).heap[q]? =some (.cells #[.slice y.A y.n y.c,.pointer y.l,.pointer y.r,Vi y.h,Vi y.m,Vi y.s,Vq x.lo,Vq x.hi,.pointer x.p] 66 (0,0)):=al f q 5 _ _ _ N;generalize f.setCell ⟨q,5,none⟩ (Vi y.s)=e at*;have K:(e.setCell ⟨q,6,none⟩ (Vq y.lo)).heap[q]? =some (.cells #[.slice y.A y.n y.c,.pointer y.l,.pointer y.r,Vi y.h,Vi y.m,Vi y.s,Vq y.lo,Vq x.hi,.pointer x.p] 66 (0,0)):=al e q 6 _ _ _ M;generalize e.setCell ⟨q,6,none⟩ (Vq y.lo)=a at*;have J:(a.setCell ⟨q,7,none⟩ (Vq y.hi)).heap[q]? =some (.cells #[.slice y.A y.n y.c,.pointer y.l,.pointer y.r,Vi y.h,Vi y.m,Vi y.s,Vq y.lo,Vq y.hi,.pointer x.p] 66 (0,0)):=al a q 7 _ _ _ K;generalize a.setCell ⟨q,7,none⟩ (Vq y.hi)=H at*;have I:(H.setCell ⟨q,8,none⟩ (.pointer y.p)).heap[q]? =some (.cells #[.slice y.A y.n y.c,.pointer y.l,.pointer y.r,Vi y.h,Vi y.m,Vi y.s,Vq y.lo,Vq y.hi,.pointer y.p] 66 (0,0)):=al H q 8 _ _ _ J;exact I
theorem nE (W:ae) (q:Nat) (y:Lv):RX q W (qM W q y):=(((((((((RX.refl q W).set 0 _ (.inr rfl)).set 1 _ (.inr rfl)).set 2 _ (.inr rfl)).set 3 _ (.inr rfl)).set 4 _ (.inr rfl)).set 5 _ (.inr rfl)).set 6 _ (.inr rfl)).set 7 _ (.inr rfl)).set 8 _ (.inr rfl)
end
section
attribute [local go_sem] ah
section
def uh (W:ae) (g:Nat) (x y:Int):Prop:=W.heap[g]? =some (.cells #[Vu x,Vu y] 38 (0,0))
variable {W:ae} {g:Nat} {x y:Int}
theorem uh.new (W:ae) (x y:Int):uh (W.alloc (.cells #[Vu x,Vu y] 38)) W.heap.size x y:=aI W _
theorem uh.ext {W':ae} (h:uh W g x y) (a:Ext W W'):uh W' g x y:=by
 unfold uh at h⊢;rw[av a g (an.1 h).1];exact h
theorem uh.cells (h:uh W g x y):W.cell? ⟨g,0,none⟩=some (Vu x)/\W.cell? ⟨g,1,none⟩=some (Vu y)/\W.frozen? ⟨g,0,none⟩=false/\W.frozen? ⟨g,1,none⟩=false:=
 ⟨by rw[aj W g 0 _ _ _ h];rfl,by rw[aj W g 1 _ _ _ h];rfl,aw W g 0 _ _ h,aw W g 1 _ _ h⟩
theorem uh.set (h:uh W g x y) (u v:Int):uh ((W.setCell ⟨g,0,none⟩ (Vu u)).setCell ⟨g,1,none⟩ (Vu v)) g u v:=by
 have a:uh (W.setCell ⟨g,0,none⟩ (Vu u)) g u y:=al W g 0 _ _ _ h;generalize W.setCell ⟨g,0,none⟩ (Vu u)=e at*;exact al e g 1 _ _ _ a
theorem uh.other {q:Nat} (h:uh W g x y) (a:g≠q) (u v:au):uh ((W.setCell ⟨q,0,none⟩ u).setCell ⟨q,1,none⟩ v) g x y:=by
 unfold uh at h⊢;rw[aQ _ _ _ _ (λe=>a e),aQ _ _ _ _ (λe=>a e)];exact h
def btA (l:List En):Nat->Nat
 |0=>0
 |k+1=>((jC l)[k]?).getD 0+1
theorem acu {l:List En} {k p:Nat} (e:0<k) (a:(jC l)[k-1]? =some p):tN l k=(rH l p,rH l (p+1))/\btA l k=p+1:=by
 cases k with
 |zero=>omega
 |succ j=>
  rw[Nat.add_sub_cancel] at a;show(rH l (((jC l)[j]?).getD 0),rH l (((jC l)[j]?).getD 0+1))=_/\((jC l)[j]?).getD 0+1=_;rw[a];exact⟨rfl,rfl⟩
end
def D6 (l:List En):List Int:=(l.filter λx=> !x.g).map En.ch
theorem WM (l:List En):(D6 l).length<=l.length:=by
 unfold D6;rw[List.length_map];exact List.length_filter_le _ _
def textE (l:List En):ByteArray:=runesBytes (D6 l)
end
theorem Ei (w:ae) (g:Nat) (cb:Array au) (n:Nat) (p:Nat->Bool) (eg:∀args w,(callFunc g args).run pg w= .ok (.enter g args) w) (hn:n<=40000000)
  (M:∀W,Ext w W->∀i:Nat,i<n->aO pg g (#[Vi i]++cb) W λe w'=>e= .returned (.bool (p i))/\Ext W w')
  (f:∀a b,a<=b->b<n->p a=true->p b=true):
  aO pg 181 #[Vi n,.func (.func g) #[] cb] w λe w'=>∃r:Nat,e= .returned (Vi r)/\(r<=n/\(∀t,t<r->p t=false)/\(∀t,r<=t->t<n->p t=true))/\Ext w w':=by
 replace M:=ac M;replace f:=ac f;go_enter func181,ntmps181;go_wp2
 go_loopg [5,6] n (λX U Q wr=>∃(lo hi:Nat),U=Vi lo/\Q=Vi hi/\lo<=hi/\hi<=n/\hi-lo<=X/\Ext w wr/\
  RowKit.Hid ((∀t,t<lo->p t=false)/\(∀t,hi<=t->t<n->p t=true)))
 case atStart=>exact⟨0,n,rfl,rfl,Nat.zero_le _,am _,ω,Ext.refl _,ac ⟨λt u=>absurd u (Nat.not_lt_zero _),λt h1 h2=>ω⟩⟩
 case round=>
  obtain⟨lo,hi,rfl,rfl,Z,hin,z,j,I⟩:=hrel;by_cases K:lo<hi
  ·obtain⟨m,hm⟩:∃m,(lo+hi)/2=m:=⟨_,rfl⟩
   have J:=ac (show((lo:Int)+(hi:Int))/2=(m:Int) by omega);have h1:lo<=m:=ω
   have h2:m<hi:=ω
   have hc:=ac (M.out _ j m ω);have N:(lo:Int)<(hi:Int):=ω
   have O:(hi:Int)<=40000000:=ω
   replace z:=ac z;replace j:=ac j;clear hn K hm
   go_wp2_with fail
   rw[J.out];refine hc.out.mono ?_;rintro e w' ⟨rfl,x2⟩;have Y:(m:Int)<=40000000:=ω
   clear N O;cases q:p m
   ·replace q:=ac q
    go_wp2
    go_roundg (hi-(m+1))
    case measure=>have:=z.out;omega
    case rel=>
     exact⟨m+1,hi,ι,rfl,ω,hin,am _,j.out.trans x2,ac ⟨λt u=>(by
      cases h:p t with
      |false=>rfl
      |true=>have:=f.out t m ω ω h;rw[q.out] at this;cases this),I.out.2⟩⟩
   ·replace q:=ac q
    go_wp2
    go_roundg (m-lo)
    case measure=>have:=z.out;omega
    case rel=>
     exact⟨lo,m,rfl,rfl,ω,ω,am _,j.out.trans x2,ac ⟨I.out.1,λt u H=>f.out m t u H q.out⟩⟩
  ·obtain rfl:hi=lo:=ω
   replace j:=ac j;go_wp2;go_ret;exact⟨_,rfl,⟨hin,I.out.1,I.out.2⟩,j.out⟩
section
attribute [local go_sem] ah calm jL jH
variable {F G:Nat->Prop} {ad:I2->Nat} {v:au}
theorem HV.ptr {W:ae} {t:HT} (h:HV F W ad t v):∃p,v= .pointer p:=by
 cases t with
 |nil=>exact⟨none,h⟩
 |node l a r=>obtain⟨b,e,_⟩:=h;exact⟨_,e⟩
theorem mU (l r:HT) (a:I2) (u vr:au) (w:ae) (I:HV G w ad l u) (H:HV G w ad r vr) (K:Up G w) (Z:(hin l).length+(hin r).length<=40000000):
  aO pg 150 #[u,Vp (ad a),vr] w (KE G ad w (.node l a r)):=by
 have g1:=JR l;have g2:=JR r;have N:=ac (Hu l u w I);have M:=ac (Hu r vr w H);have f:=ac (show KE G ad w (.node l a r) (.returned (Vp w.heap.size)) (w.alloc (.cells #[Vp (ad a),u,vr,Vi ((max (hh l) (hh r)+1:Nat):Int)] 239)) by
  have q:Ext w (w.alloc (.cells #[Vp (ad a),u,vr,Vi ((max (hh l) (hh r)+1:Nat):Int)] 239)):=(Ext.refl w).alloc _;exact⟨_,rfl,⟨w.heap.size,rfl,K _ (am _),u,vr,HC.new w _ _ _ _ _,I.ext q,H.ext q⟩,q⟩)
 obtain⟨W,rfl⟩:=I.ptr;obtain⟨U,rfl⟩:=H.ptr;clear I H K;generalize hh l=j at*;generalize hh r=i at*;generalize ad a=X at*;go_enter func150,ntmps150
 go_wp2_with fail
 refine N.out.mono ?_;rintro e Q ⟨rfl,rfl⟩
 go_wp2_with fail
 refine M.out.mono ?_;rintro e O ⟨rfl,rfl⟩;by_cases Y:j<i
 ·have J:(j:Int)<(i:Int):=ω
  have z:((max j i+1:Nat):Int)=(i:Int)+1:=ω
  rw[z] at f;clear z;go_wp2;go_ret
  first
   |exact f.out
   |(rw[show max (j:Int) (i:Int)=(i:Int) by omega];exact f.out)
 ·have J:¬(j:Int)<(i:Int):=ω
  have z:((max j i+1:Nat):Int)=(j:Int)+1:=ω
  rw[z] at f;clear z;go_wp2;go_ret
  first
   |exact f.out
   |(rw[show max (j:Int) (i:Int)=(j:Int) by omega];exact f.out)
theorem wu {t:HT} {w:ae} {n:Nat} (h:HV F w ad t v) (e:hh t=n):aO pg 186 #[v] w λe w'=>e= .returned (Vi (n:Int))/\w=w':=by rw[<-e];exact Hu t v w h
theorem HV.open {W:ae} {l r:HT} {a:I2} (h:HV F W ad (.node l a r) v):∃b f vr,v=Vp b/\W.cell? ⟨b,0,none⟩=some (Vp (ad a))/\W.cell? ⟨b,1,none⟩=some f/\W.cell? ⟨b,2,none⟩=some vr/\HV F W ad l f/\HV F W ad r vr:=by
 obtain⟨b,e,u,f,vr,i,q,j⟩:=h;exact⟨b,f,vr,e,i.c0,i.c1,i.c2,q,j⟩
theorem VF (x y r:HT) (a b:I2) (v vr:au) (w:ae) (hl:HV G w ad (.node x b y) v) (hr:HV G w ad r vr) (N:Up G w) (hn:(hin (.node x b y)).length+(hin r).length<=20000000):
  aO pg 187 #[v,Vp (ad a),vr] w (KE G ad w (zK (.node x b y) a r)):=by
 obtain⟨ba,vx,vy,rfl,c0,c1,c2,U,Q⟩:=hl.open;rw[kG,ag,ar] at hn;have i:=ac (λ(n:Nat) (en:hh x=n)=>wu (U.ext ((Ext.refl w).drew)) en);have f:=ac (λ(n:Nat) (en:hh y=n)=>wu (Q.ext ((Ext.refl w).drew)) en);replace i:=ac (i.out _ rfl);replace f:=ac (f.out _ rfl);by_cases X:hh y<=hh x
 ·have hd:decide ((hh y:Int)<=(hh x:Int))=true:=by rw[decide_eq_true_eq];omega
  have j:zK (.node x b y) a r= .node x b (.node y a r):=by simp only[zK];rw[if_pos X]
  rw[j];clear j;have hj:=ac (λW (e:Ext w W)=>mU y r a vy vr W (Q.ext e) (hr.ext e) (N.ext e) ω);have I:=ac (λW H (e:Ext w W) (O:HV G W ad (.node y a r) H)=>mU x (.node y a r) b vx H W (U.ext e) O (N.ext e) (by rw[kG,ag,ar];omega));generalize hh y=ky at*;generalize hh x=kx at*;clear hl U Q hr N hn;generalize ad a=na at*;generalize ad b=nb at*;have x1:Ext w w.drew:=(Ext.refl w).drew;have Y:aO pg 186 #[vx] w.drew λe w'=>e= .returned (Vi kx)/\w'=w.drew:=i.out.mono λe w' h=>⟨h.1,h.2.symm⟩
  have Z:aO pg 186 #[vy] w.drew λe w'=>e= .returned (Vi ky)/\w'=w.drew:=f.out.mono λe w' h=>⟨h.1,h.2.symm⟩
  replace i:=ac Y;replace f:=ac Z;clear Y Z;have c0:=x1.keep c0;have c1:=x1.keep c1;have c2:=x1.keep c2;go_enter func187,ntmps187;go_wp2;refine bZ 10 κ κ ?_;simp only[cq,cV,bU,cH];change gz pg _ w.drew (λa'=>il pg _ _ _ a' w.drew) _ _;replace hj:=ac (λW (e:Ext (w.drew) W)=>hj.out W (x1.trans e));replace I:=ac (λW H (e:Ext (w.drew) W) O=>I.out W H (x1.trans e) O);generalize w.drew=w1 at*
  repeat still_step
  still_call i.out
  repeat still_step
  still_call f.out
  refine dW ?_;clear i f
  go_wp2_with fail
  refine mg 15 [rw1 14 λq W=>HV G W ad (.node y a r) q] ⟨λ_ _ _ _ h e=>HV.ext e h,trivial⟩ λρ _=>?_
  refine .s 14 (λW x y=>jD) ?_;refine .k 0 hj.out ?_;refine .fin λW hR ⟨a1,_⟩=>?_
  go_wp2_with fail
  refine(I.out W _ hR a1).mono ?_;rintro e w4 ⟨v4,rfl,o4,x4⟩;go_wp2;go_ret;exact⟨v4,rfl,o4,x1.trans (hR.trans x4)⟩
 ·obtain⟨u,c,z,rfl⟩:=L6 (show 0<hh y by omega)
  obtain⟨bc,vu,vz,rfl,d0,d1,d2,hu,hz⟩:=Q.open;have hd:decide ((hh (.node u c z):Int)<=(hh x:Int))=false:=by rw[decide_eq_false_iff_not];omega
  have j:zK (.node x b (.node u c z)) a r= .node (.node x b u) c (.node z a r):=by simp only[zK];rw[if_neg X]
  rw[j];clear j;rw[kG,ag,ar] at hn;have M:=ac (λW (e:Ext w W)=>mU x u b vx vu W (U.ext e) (hu.ext e) (N.ext e) ω);have J:=ac (λW (e:Ext w W)=>mU z r a vz vr W (hz.ext e) (hr.ext e) (N.ext e) ω);have I:=ac (λW v8 H (e:Ext w W) (h8:HV G W ad (.node x b u) v8) (O:HV G W ad (.node z a r) H)=>mU (.node x b u) (.node z a r) c v8 H W h8 O (N.ext e) (by rw[kG,kG,ag,ar,ag,ar];omega));generalize hh (.node u c z)=ku at*;generalize hh x=kx at*;clear hl U Q hr N hn hu hz;generalize ad a=na at*;generalize ad b=nb at*;generalize ad c=nc at*;have x1:Ext w w.drew:=(Ext.refl w).drew;have Y:aO pg 186 #[vx] w.drew λe w'=>e= .returned (Vi kx)/\w'=w.drew:=i.out.mono λe w' h=>⟨h.1,h.2.symm⟩
  have Z:aO pg 186 #[.pointer (some ⟨bc,0,none⟩)] w.drew λe w'=>e= .returned (Vi ku)/\w'=w.drew:=f.out.mono λe w' h=>⟨h.1,h.2.symm⟩
  replace i:=ac Y;replace f:=ac Z;clear Y Z;have c0:=x1.keep c0;have c1:=x1.keep c1;have c2:=x1.keep c2;have d0:=x1.keep d0;have d1:=x1.keep d1;have d2:=x1.keep d2;go_enter func187,ntmps187;go_wp2;refine bZ 10 κ κ ?_;simp only[cq,cV,bU,cH];change gz pg _ w.drew (λa'=>il pg _ _ _ a' w.drew) _ _;replace M:=ac (λW (e:Ext (w.drew) W)=>M.out W (x1.trans e));replace J:=ac (λW (e:Ext (w.drew) W)=>J.out W (x1.trans e));replace I:=ac (λW v8 H (e:Ext (w.drew) W) h8 O=>I.out W v8 H (x1.trans e) h8 O);generalize w.drew=w1 at*
  repeat still_step
  still_call i.out
  repeat still_step
  still_call f.out
  refine dW ?_;clear i f
  go_wp2_with fail
  refine mg 24 [rw1 12 λq W=>HV G W ad (.node x b u) q,rw1 23 λq W=>HV G W ad (.node z a r) q] ⟨λ_ _ _ _ h e=>HV.ext e h,λ_ _ _ _ h e=>HV.ext e h,trivial⟩ λρ _=>?_
  refine .s 12 (λW x y=>jD) ?_;refine .k 0 M.out ?_;refine .s 10 (λW x y=>jD) ?_;refine .k 1 J.out ?_;refine .fin λW hR ⟨a2,a0,_⟩=>?_
  go_wp2_with fail
  refine(I.out W _ _ hR a2 a0).mono ?_;rintro e w4 ⟨v4,rfl,o4,x4⟩;go_wp2;go_ret;exact⟨v4,rfl,o4,x1.trans (hR.trans x4)⟩
theorem Vz (x y r:HT) (a b:I2) (v vr:au) (w:ae) (hl:HV G w ad (.node x b y) v) (hr:HV G w ad r vr) (N:Up G w) (hn:(hin (.node x b y)).length+(hin r).length<=20000000):
  aO pg 188 #[vr,Vp (ad a),v] w (KE G ad w (zJ r a (.node x b y))):=by
 obtain⟨ba,vx,vy,rfl,c0,c1,c2,U,Q⟩:=hl.open;rw[kG,ag,ar] at hn;have i:=ac (λ(n:Nat) (en:hh x=n)=>wu (U.ext ((Ext.refl w).drew)) en);have f:=ac (λ(n:Nat) (en:hh y=n)=>wu (Q.ext ((Ext.refl w).drew)) en);replace i:=ac (i.out _ rfl);replace f:=ac (f.out _ rfl);by_cases X:hh x<=hh y
 ·have hd:decide ((hh x:Int)<=(hh y:Int))=true:=by rw[decide_eq_true_eq];omega
  have j:zJ r a (.node x b y)= .node (.node r a x) b y:=by simp only[zJ];rw[if_pos X]
  rw[j];clear j;have hj:=ac (λW (e:Ext w W)=>mU r x a vr vx W (hr.ext e) (U.ext e) (N.ext e) ω);have I:=ac (λW H (e:Ext w W) (O:HV G W ad (.node r a x) H)=>mU (.node r a x) y b H vy W O (Q.ext e) (N.ext e) (by rw[kG,ag,ar];omega));generalize hh y=ky at*;generalize hh x=kx at*;clear hl U Q hr N hn;generalize ad a=na at*;generalize ad b=nb at*;have x1:Ext w w.drew:=(Ext.refl w).drew;have Y:aO pg 186 #[vx] w.drew λe w'=>e= .returned (Vi kx)/\w'=w.drew:=i.out.mono λe w' h=>⟨h.1,h.2.symm⟩
  have Z:aO pg 186 #[vy] w.drew λe w'=>e= .returned (Vi ky)/\w'=w.drew:=f.out.mono λe w' h=>⟨h.1,h.2.symm⟩
  replace i:=ac Y;replace f:=ac Z;clear Y Z;have c0:=x1.keep c0;have c1:=x1.keep c1;have c2:=x1.keep c2;go_enter func188,ntmps188;go_wp2;refine bZ 10 κ κ ?_;simp only[cq,cV,bU,cH];change gz pg _ w.drew (λa'=>il pg _ _ _ a' w.drew) _ _;replace hj:=ac (λW (e:Ext (w.drew) W)=>hj.out W (x1.trans e));replace I:=ac (λW H (e:Ext (w.drew) W) O=>I.out W H (x1.trans e) O);generalize w.drew=w1 at*
  repeat still_step
  still_call f.out
  repeat still_step
  still_call i.out
  refine dW ?_;clear i f
  go_wp2_with fail
  refine mg 15 [rw1 6 λq W=>HV G W ad (.node r a x) q] ⟨λ_ _ _ _ h e=>HV.ext e h,trivial⟩ λρ _=>?_
  refine .s 6 (λW x y=>jD) ?_;refine .k 0 hj.out ?_;refine .s 8 (λW x y=>jD) ?_;refine .fin λW hR ⟨h6,_⟩=>?_
  go_wp2_with fail
  refine(I.out W _ hR h6).mono ?_;rintro e w4 ⟨v4,rfl,o4,x4⟩;go_wp2;go_ret;exact⟨v4,rfl,o4,x1.trans (hR.trans x4)⟩
 ·obtain⟨u,c,z,rfl⟩:=L6 (show 0<hh x by omega)
  obtain⟨bc,vu,vz,rfl,d0,d1,d2,hu,hz⟩:=U.open;have hd:decide ((hh (.node u c z):Int)<=(hh y:Int))=false:=by rw[decide_eq_false_iff_not];omega
  have j:zJ r a (.node (.node u c z) b y)= .node (.node r a u) c (.node z b y):=by simp only[zJ];rw[if_neg X]
  rw[j];clear j;rw[kG,ag,ar] at hn;have M:=ac (λW (e:Ext w W)=>mU r u a vr vu W (hr.ext e) (hu.ext e) (N.ext e) ω);have J:=ac (λW (e:Ext w W)=>mU z y b vz vy W (hz.ext e) (Q.ext e) (N.ext e) ω);have I:=ac (λW v8 H (e:Ext w W) (h8:HV G W ad (.node r a u) v8) (O:HV G W ad (.node z b y) H)=>mU (.node r a u) (.node z b y) c v8 H W h8 O (N.ext e) (by rw[kG,kG,ag,ar,ag,ar];omega));generalize hh (.node u c z)=ku at*;generalize hh y=kx at*;clear hl U Q hr N hn hu hz;generalize ad a=na at*;generalize ad b=nb at*;generalize ad c=nc at*;have x1:Ext w w.drew:=(Ext.refl w).drew;have Y:aO pg 186 #[.pointer (some ⟨bc,0,none⟩)] w.drew λe w'=>e= .returned (Vi ku)/\w'=w.drew:=i.out.mono λe w' h=>⟨h.1,h.2.symm⟩
  have Z:aO pg 186 #[vy] w.drew λe w'=>e= .returned (Vi kx)/\w'=w.drew:=f.out.mono λe w' h=>⟨h.1,h.2.symm⟩
  replace i:=ac Y;replace f:=ac Z;clear Y Z;have c0:=x1.keep c0;have c1:=x1.keep c1;have c2:=x1.keep c2;have d0:=x1.keep d0;have d1:=x1.keep d1;have d2:=x1.keep d2;go_enter func188,ntmps188;go_wp2;refine bZ 10 κ κ ?_;simp only[cq,cV,bU,cH];change gz pg _ w.drew (λa'=>il pg _ _ _ a' w.drew) _ _;replace M:=ac (λW (e:Ext (w.drew) W)=>M.out W (x1.trans e));replace J:=ac (λW (e:Ext (w.drew) W)=>J.out W (x1.trans e));replace I:=ac (λW v8 H (e:Ext (w.drew) W) h8 O=>I.out W v8 H (x1.trans e) h8 O);generalize w.drew=w1 at*
  repeat still_step
  still_call f.out
  repeat still_step
  still_call i.out
  refine dW ?_;clear i f
  go_wp2_with fail
  refine mg 24 [rw1 6 λq W=>HV G W ad (.node r a u) q,rw1 23 λq W=>HV G W ad (.node z b y) q] ⟨λ_ _ _ _ h e=>HV.ext e h,λ_ _ _ _ h e=>HV.ext e h,trivial⟩ λρ _=>?_
  refine .s 6 (λW x y=>jD) ?_;refine .k 0 M.out ?_;refine .s 16 (λW x y=>jD) ?_;refine .k 1 J.out ?_;refine .fin λW hR ⟨h6,a0,_⟩=>?_
  go_wp2_with fail
  refine(I.out W _ _ hR h6 a0).mono ?_;rintro e w4 ⟨v4,rfl,o4,x4⟩;go_wp2;go_ret;exact⟨v4,rfl,o4,x1.trans (hR.trans x4)⟩
theorem Uc {p:Prop} (h:p:=by
 generalize ad a=na at*;go_enter func151,ntmps151
 go_wp2_with fail
 refine h1.out.mono ?_;rintro e w1 ⟨rfl,rfl⟩
 go_wp2_with fail
 refine h2.out.mono ?_;rintro e w2 ⟨rfl,rfl⟩
 go_wp2_with fail
 refine h2.out.mono ?_;rintro e w3 ⟨rfl,rfl⟩
 go_wp2_with fail
 refine h1.out.mono ?_;rintro e w4 ⟨rfl,rfl⟩
 go_wp2_with fail
 refine hc.out.mono ?_;rintro e w5 ⟨v,rfl,h5,x5⟩;go_wp2;go_ret;exact⟨v,rfl,h5,x5⟩):p:=h
theorem P8 (l r:HT) (a:I2) (u vr:au) (w:ae) (j:HV G w ad l u) (i:HV G w ad r vr) (q:Up G w) (M:(hin l).length+(hin r).length<=16000000):
  aO pg 151 #[u,Vp (ad a),vr] w (KE G ad w (CG l a r)):=by
 have O:=JR l;have N:=JR r;have h1:=ac (λn (e:hh l=n)=>wu j e);have h2:=ac (λn (e:hh r=n)=>wu i e);by_cases c1:hh r+1<hh l
 ·have f:CG l a r=zK l a r:=by unfold CG;rw[if_pos c1]
  rw[f];obtain⟨x,b,y,rfl⟩:=L6 (show 0<hh l by omega);have hc:=ac (VF x y r a b u vr w j i q ω);have J:decide (((hh r:Int)+1)<(hh (.node x b y):Int))=true:=by rw[decide_eq_true_eq];omega
  replace h1:=ac (h1.out _ rfl);replace h2:=ac (h2.out _ rfl);clear f j i q;generalize hh (.node x b y)=I at*;generalize hh r=H at*;generalize zK (.node x b y) a r=T at*;generalize ad a=na at*;go_enter func151,ntmps151
  go_wp2_with fail
  refine h1.out.mono ?_;rintro e w1 ⟨rfl,rfl⟩
  go_wp2_with fail
  refine h2.out.mono ?_;rintro e w2 ⟨rfl,rfl⟩
  go_wp2_with fail
  refine hc.out.mono ?_;rintro e w3 ⟨v,rfl,K,x3⟩;go_wp2;go_ret;exact⟨v,rfl,K,x3⟩
 ·have J:decide (((hh r:Int)+1)<(hh l:Int))=false:=by rw[decide_eq_false_iff_not];omega
  by_cases c2:hh l+1<hh r
  ·have f:CG l a r=zJ l a r:=by unfold CG;rw[if_neg c1,if_pos c2]
   rw[f];obtain⟨x,b,y,rfl⟩:=L6 (show 0<hh r by omega);have hc:=ac (Vz x y l a b vr u w i j q ω);have z:decide (((hh l:Int)+1)<(hh (.node x b y):Int))=true:=by rw[decide_eq_true_eq];omega
   replace h1:=ac (h1.out _ rfl);replace h2:=ac (h2.out _ rfl);clear f j i q;generalize hh (.node x b y)=I at*;generalize hh l=H at*;generalize zJ l a (.node x b y)=T at*;exact Uc
  ·have z:decide (((hh l:Int)+1)<(hh r:Int))=false:=by rw[decide_eq_false_iff_not];omega
   have f:CG l a r= .node l a r:=by unfold CG;rw[if_neg c1,if_neg c2]
   rw[f];have hc:=ac (mU l r a u vr w j i q ω);replace h1:=ac (h1.out _ rfl);replace h2:=ac (h2.out _ rfl);clear f j i q;generalize hh r=I at*;generalize hh l=H at*;generalize HT.node l a r=T at*;exact Uc
theorem Xq (a:I2):∀(t:HT) (v:au) (w:ae),HV G w ad t v->II w ad (hin t)->II w ad [a]->a∉hin t->Up G w->(hin t).length<=12000000->
  aO pg 117 #[v,Vp (ad a)] w (KE G ad w (rX t a)):=by
 intro t
 induction t with
 |nil=>
  intro v w hv _ _ _ U _;have hv:v=qF:=hv;subst hv;have hc:=ac (mU (ad:=ad) .nil .nil a qF qF w rfl rfl U (by simp[hin]));rw[show rX .nil a= .node .nil a .nil from rfl];generalize HT.node HT.nil a HT.nil=T at*;generalize ad a=na at*;go_enter func117,ntmps117
  go_wp2_with fail
  refine hc.out.mono ?_;rintro e w5 ⟨v,rfl,h5,x5⟩;go_wp2;go_ret;exact⟨v,rfl,h5,x5⟩
 |node x b y Y X=>
  intro v w hv hI hA hn U hb;obtain⟨ba,vx,vy,rfl,c0,c1,c2,hx,hy⟩:=hv.open;have a0:=hI b (aM _ (aH ..));have a3:=hA a (List.mem_singleton.2 rfl);have u:a≠b:=λe=>hn (aM _ (by rw[e];exact aH ..))
  rw[kG] at hn hI;rw[kG,ag,ar] at hb;have l1:=yG x a;have l2:=yG y a;by_cases Z:ltI a b=true
  ·have i:rX (.node x b y) a=CG (rX x a) b y:=by rw[rX,if_pos Z]
   rw[i];have I:mK a.1 a.2 b.1 b.2= -1:=by
        rcases aco a.1 a.2 b.1 b.2 with⟨h,_⟩|⟨_,h1,h2⟩|⟨_,h⟩
        ·exact h
        ·exact absurd (fN h1 h2) u
        ·have:=mR Z;rw[show ltI b a=true from h] at this;cases this
   have H:=ac (λW (e:Ext w W)=>Y vx W (hx.ext e) (λq hq=>(hI.ext e) q (aX _ hq)) (hA.ext e) (λe=>hn (aX _ e)) (U.ext e) ω);have z:=ac (λW j (e:Ext w W) (J:HV G W ad (rX x a) j)=>P8 (rX x a) y b j vy W J (hy.ext e) (U.ext e) ω);have f:=ac (λW=>qy I W);have x1:Ext w w.drew:=(Ext.refl w).drew;have c0:=x1.keep c0;have c1:=x1.keep c1;have c2:=x1.keep c2;obtain⟨Q,O⟩:=a0;obtain⟨N,M⟩:=a3;have Q:=x1.keep Q;have O:=x1.keep O;have N:=x1.keep N;have M:=x1.keep M;clear hx hy hI hA hn U hb l1 l2 Y X I Z u i hv;generalize ad a=na at*;generalize ad b=nb at*;obtain⟨a1,a2⟩:=a;obtain⟨b1,b2⟩:=b;simp only at Q O N M f;go_enter func117,ntmps117;go_wp2;refine bZ 13 κ κ ?_;simp only[cq,cV,bU,cH];change gz pg _ w.drew (λa'=>il pg _ _ _ a' w.drew) _ _;replace H:=ac (λW (e:Ext w.drew W)=>H.out W (x1.trans e));replace z:=ac (λW j (e:Ext w.drew W) J=>z.out W j (x1.trans e) J);generalize w.drew=w2 at*
   repeat still_step
   refine dW ?_
   go_wp2_with fail
   refine(f.out _).mono ?_;rintro e w1 ⟨rfl,x3⟩;replace c0:=x3.keep c0;replace c1:=x3.keep c1;replace c2:=x3.keep c2;replace x1:=x1.trans x3;replace H:=ac (λW (e:Ext w1 W)=>H.out W (x3.trans e));replace z:=ac (λW j (e:Ext w1 W) J=>z.out W j (x3.trans e) J);clear Q O N M f x3
   go_wp2_with fail
   refine mg 14 [rw1 5 λq W=>HV G W ad (rX x (a1,a2)) q] ⟨λ_ _ _ _ h e=>HV.ext e h,trivial⟩ λρ _=>?_
   refine .s 5 (λW x y=>jD) ?_;refine .k 0 H.out ?_;refine .s 8 (λW x y=>jD) ?_;refine .fin λW hR ⟨h5,_⟩=>?_
   go_wp2_with fail
   refine(z.out W _ hR h5).mono ?_;rintro e w4 ⟨v4,rfl,o4,x4⟩;go_wp2;go_ret;exact⟨v4,rfl,o4,x1.trans (hR.trans x4)⟩
  ·have i:rX (.node x b y) a=CG x b (rX y a):=by rw[rX,if_neg Z]
   rw[i];have a4:=(vY u).resolve_left Z;have I:mK a.1 a.2 b.1 b.2=1:=by
        rcases aco a.1 a.2 b.1 b.2 with⟨_,h⟩|⟨_,h1,h2⟩|⟨h,_⟩
        ·exact absurd h Z
        ·exact absurd (fN h1 h2) u
        ·exact h
   have H:=ac (λW (e:Ext w W)=>X vy W (hy.ext e) (λq hq=>(hI.ext e) q (aM _ (aF _ hq))) (hA.ext e) (λe=>hn (aM _ (aF _ e))) (U.ext e) ω);have z:=ac (λW j (e:Ext w W) (J:HV G W ad (rX y a) j)=>P8 x (rX y a) b vx j W (hx.ext e) J (U.ext e) ω);have f:=ac (λW=>qy I W);have x1:Ext w w.drew:=(Ext.refl w).drew;have c0:=x1.keep c0;have c1:=x1.keep c1;have c2:=x1.keep c2;obtain⟨Q,O⟩:=a0;obtain⟨N,M⟩:=a3;have Q:=x1.keep Q;have O:=x1.keep O;have N:=x1.keep N;have M:=x1.keep M;clear hx hy hI hA hn U hb l1 l2 Y X I Z u i hv a4;generalize ad a=na at*;generalize ad b=nb at*;obtain⟨a1,a2⟩:=a;obtain⟨b1,b2⟩:=b;simp only at Q O N M f;go_enter func117,ntmps117;go_wp2;refine bZ 13 κ κ ?_;simp only[cq,cV,bU,cH];change gz pg _ w.drew (λa'=>il pg _ _ _ a' w.drew) _ _;replace H:=ac (λW (e:Ext w.drew W)=>H.out W (x1.trans e));replace z:=ac (λW j (e:Ext w.drew W) J=>z.out W j (x1.trans e) J);generalize w.drew=w2 at*
   repeat still_step
   refine dW ?_
   go_wp2_with fail
   refine(f.out _).mono ?_;rintro e w1 ⟨rfl,x3⟩;replace c0:=x3.keep c0;replace c1:=x3.keep c1;replace c2:=x3.keep c2;replace x1:=x1.trans x3;replace H:=ac (λW (e:Ext w1 W)=>H.out W (x3.trans e));replace z:=ac (λW j (e:Ext w1 W) J=>z.out W j (x3.trans e) J);clear Q O N M f x3
   go_wp2_with fail
   refine mg 14 [rw1 13 λq W=>HV G W ad (rX y (a1,a2)) q] ⟨λ_ _ _ _ h e=>HV.ext e h,trivial⟩ λρ _=>?_
   refine .s 13 (λW x y=>jD) ?_;refine .k 0 H.out ?_;refine .fin λW hR ⟨a5,_⟩=>?_
   go_wp2_with fail
   refine(z.out W _ hR a5).mono ?_;rintro e w4 ⟨v4,rfl,o4,x4⟩;go_wp2;go_ret;exact⟨v4,rfl,o4,x1.trans (hR.trans x4)⟩
end
def pkN (z:Int) (k:Nat):Nat:=(if fk z k<0 then fk z k+k else fk z k).toNat
theorem adH {z:Int} {k:Nat} (a:0<k):pkN z k<k:=by
 have f:fk z k<k:=Int.tmod_lt_of_pos z ω;have e: -(k:Int)<fk z k:=Int.lt_tmod_of_pos z ω;unfold pkN
 split <;> omega
theorem U6 (n:Int) (k:Nat) (w:ae) (j:0<k) (i:k<=3000):aO pg 9 #[Vi n,Vi k] w λe w'=>e= .returned (Vi ((pkN n k:Nat):Int))/\w=w':=by
 have z:fk n k<k:=Int.tmod_lt_of_pos n ω;have u: -(k:Int)<fk n k:=Int.lt_tmod_of_pos n ω;have q:((k:Int)==0)=false:=by rw[beq_eq_false_iff_ne];omega
 obtain⟨R,hR⟩:∃R,((pkN n k:Nat):Int)=R:=⟨_,rfl⟩;rw[hR];unfold pkN at hR;by_cases a:fk n k<0
 ·rw[if_pos a] at hR
  have f:=ac (show fk n k+k=R by omega);clear hR;go_enter func9,ntmps9;go_wp2;go_ret;exact⟨l7 f.out,rfl⟩
 ·rw[if_neg a] at hR
  have f:=ac (show fk n k=R by omega);clear hR;go_enter func9,ntmps9;go_wp2;go_ret;exact⟨l7 f.out,rfl⟩
end Go.Proofs.YtncfhbpejchbfaaGreatDoor

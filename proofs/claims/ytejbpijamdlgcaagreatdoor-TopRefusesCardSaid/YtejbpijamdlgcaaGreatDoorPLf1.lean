/-
  Lemmas of this seat; no claim.
-/
import Derived.Laws.Cover4
import Derived.Test.YtejbpijamdlgcaaGreatDoorPIf1
import Derived.Test.YtejbpijamdlgcaaGreatDoorPTf1
set_option linter.unusedVariables false
set_option linter.unusedSimpArgs false
set_option maxRecDepth 100000
set_option maxHeartbeats 16000000
open Array renaming getElem?_eq_some_iff→aC
open Go renaming Calls→aX,Value→aI,World→aj,cell_of_row→ak,frozen_of_row→aK,heap_alloc_new→aT,heap_setCell_other→bA,heap_setCell_same→aB,run_underlying→bR,wpList→lK,wpStill_nil→iq,wpStill→kL,wp_region_still_tail→dS
open Go.Lib renaming hid→ah
open Go.Op renaming equalIn→iD,maxDepth→kR
open Go.RowKit.Below renaming block→aJ
open Go.World renaming cell?_alloc_some→au
open Int renaming tmod→jv
open List renaming append_assoc→aY,append_nil→bZ,drop_succ_cons→dN,drop_zero→dX,length_append→ay,length_cons→aH,length_map→gI,length_singleton→dJ,length_take→bN,length→jI,mem_append_left→dG,mem_append_right→bG,mem_append→aZ,mem_cons_of_mem→aU,mem_cons_self→aW,mem_cons→aS,pairwise_append→gq,pairwise_cons→bM,take_append→mX,take_of_length_le→bI,take_succ_cons→dU,take_zero→eG
open Nat renaming le_refl→aD
open Prod renaming ext→jQ
namespace Go.Proofs.YtejbpijamdlgcaaGreatDoor
open Go.ChangeShapes Go.WideShapes Go.ChangeAt Go.RowKit Go.Sort
section
attribute [local go_sem] au
section
def uY (l:List En) (i:Nat):I2:=match l[i]? with
 |some x=>(x.c,x.k)
 |none=>(0,0)
variable {l:List En}
theorem vW {i:Nat} {x:En} (h:l[i]? =some x):uY l i=(x.c,x.k):=by unfold uY;rw[h]
theorem XY {i:Nat} (h:l.length<=i):uY l i=(0,0):=by unfold uY;rw[List.getElem?_eq_none h]
def xW (l:List En):Nat->I2×I2
 |0=>((0,0),uY l 0)
 |k+1=>(uY l (((om l)[k]?).getD 0),uY l (((om l)[k]?).getD 0+1))
def uX (l:List En) (a n:Nat):List I2:=(((om l).drop a).take n).map (uY l)
theorem aaI (l:List En) (a n:Nat):(uX l a n).length<=n:=by unfold uX;rw[gI,bN];omega
theorem LM {k p:Nat} (h:(om l)[k]? =some p):p<l.length:=by
 have:=zm l 0 p (List.mem_of_getElem? h);omega
theorem XW {a m p:Nat} {x:En} (h:(om l)[a+m]? =some p) (e:l[p]? =some x):uX l a (m+1)=uX l a m++[(x.c,x.k)]:=by
 unfold uX;rw[List.take_add_one,List.getElem?_drop,h,Option.toList_some,List.map_append,List.map_singleton,vW e]
theorem ae9 {z:Int} (e: -9223372036854775808<=z) (a:z<=9223372036854775807):wrap64 z=z:=by unfold wrap64;omega
end
section
variable {x:It}
theorem pX.newL (W:aj) (x:It):pX (W.alloc (.cells #[.int .u32 x.c,.int .u32 x.k,.int .u32 x.lc,.int .u32 x.lk,.int .u32 x.rc,.int .u32 x.rk,.int .i32 x.ch] 57)) W.heap.size x:=aT W _
theorem pX.qF {W:aj} {q:Nat} (h:pX W q x) (j:Nat):W.frozen? ⟨q,j,none⟩=false:=aK W q j _ _ h
theorem pX.all {W:aj} {q:Nat} (h:pX W q x) (a b c d e f g:Int):pX (((((((W.setCell ⟨q,0,none⟩ (Vu a)).setCell ⟨q,1,none⟩ (Vu b)).setCell ⟨q,2,none⟩ (Vu c)).setCell ⟨q,3,none⟩ (Vu d)).setCell ⟨q,4,none⟩ (Vu e)).setCell ⟨q,5,none⟩ (Vu f)).setCell ⟨q,6,none⟩ (.int .i32 g)) q ⟨a,b,c,d,e,f,g⟩:=by
 have O:pX (W.setCell ⟨q,0,none⟩ (Vu a)) q ⟨a,x.k,x.lc,x.lk,x.rc,x.rk,x.ch⟩:=aB W q 0 _ _ _ h;generalize W.setCell ⟨q,0,none⟩ (Vu a)=H at*;have N:pX (H.setCell ⟨q,1,none⟩ (Vu b)) q ⟨a,b,x.lc,x.lk,x.rc,x.rk,x.ch⟩:=aB H q 1 _ _ _ O;generalize H.setCell ⟨q,1,none⟩ (Vu b)=z at*;have M:pX (z.setCell ⟨q,2,none⟩ (Vu c)) q ⟨a,b,c,x.lk,x.rc,x.rk,x.ch⟩:=aB z q 2 _ _ _ N;generalize z.setCell ⟨q,2,none⟩ (Vu c)=u at*;have K:pX (u.setCell ⟨q,3,none⟩ (Vu d)) q ⟨a,b,c,d,x.rc,x.rk,x.ch⟩:=aB u q 3 _ _ _ M;generalize u.setCell ⟨q,3,none⟩ (Vu d)=j at*;have J:pX (j.setCell ⟨q,4,none⟩ (Vu e)) q ⟨a,b,c,d,e,x.rk,x.ch⟩:=aB j q 4 _ _ _ K;generalize j.setCell ⟨q,4,none⟩ (Vu e)=i at*;have I:pX (i.setCell ⟨q,5,none⟩ (Vu f)) q ⟨a,b,c,d,e,f,x.ch⟩:=aB i q 5 _ _ _ J;generalize i.setCell ⟨q,5,none⟩ (Vu f)=Q at*;exact aB Q q 6 _ _ _ I
def yU (L:List It) (a:I2):It:=match fnd L a with
 |some i=>(L[i]?).getD ⟨0,0,0,0,0,0,0⟩
 |none=>⟨0,0,0,0,0,0,0⟩
theorem Gl {L:List It} {a:I2} {i:Nat} (h:fnd L a=some i) (e:L[i]? =some x):yU L a=x:=by
 unfold yU;rw[h];simp only[e];rfl
theorem MS {L:List It} {a:I2} (h:nZ L a=false):yU L a=⟨0,0,0,0,0,0,0⟩:=by
 unfold yU;rw[wH.2 h]
end
end
section
attribute [local go_sem] au calm oK oG
def Px (L:List It) (x:It):Bool:= !(decide (x.c=0)||nZ L (x.c,x.k))&&(decide (x.lc=0)||nZ L (x.lc,x.lk))&&(decide (x.rc=0)||nZ L (x.rc,x.rk))&&okB x.ch
theorem Wv (L:List It) (x:It):Px L x=(pQ L x&&okB x.ch):=by
 unfold Px pQ iid ilf irt;by_cases h:x.c=0 <;> cases nZ L (x.c,x.k) <;> simp[h]
end
section
attribute [local go_sem] au
inductive HT where
 |nil:HT
 |node:HT->I2->HT->HT
def hh:HT->Nat
 | .nil=>0
 | .node l _ r=>max (hh l) (hh r)+1
def hin:HT->List I2
 | .nil=>[]
 | .node l a r=>hin l++a::hin r
theorem OQ (l r:HT) (a:I2):hh (.node l a r)=max (hh l) (hh r)+1:=rfl
theorem pV (l r:HT) (a:I2):hin (.node l a r)=hin l++a::hin r:=rfl
theorem MZ:∀t:HT,hh t<=(hin t).length
 | .nil=>aD _
 | .node l a r=>by
   have f:=MZ l;have e:=MZ r;rw[OQ,pV,ay,aH];omega
theorem OP {t:HT} (h:0<hh t):∃l a r,t= .node l a r:=by
 cases t with
 |nil=>simp[hh] at h
 |node l a r=>exact⟨l,a,r,rfl⟩
def Dy (t:HT) (a:I2) (r:HT):HT:=match t with
 | .nil=> .node .nil a r
 | .node x b y=>if hh y<=hh x then .node x b (.node y a r) else match y with
   | .nil=> .node (.node x b .nil) a r
   | .node u c z=> .node (.node x b u) c (.node z a r)
def Dx (l:HT) (a:I2) (t:HT):HT:=match t with
 | .nil=> .node l a .nil
 | .node x b y=>if hh x<=hh y then .node (.node l a x) b y else match x with
   | .nil=> .node l a (.node .nil b y)
   | .node u c z=> .node (.node l a u) c (.node z b y)
def Fp (l:HT) (a:I2) (r:HT):HT:=if hh r+1<hh l then Dy l a r else if hh l+1<hh r then Dx l a r else .node l a r
def wR:HT->I2->HT
 | .nil,a=> .node .nil a .nil
 | .node l b r,a=>if ltI a b=true then Fp (wR l a) b r else Fp l b (wR r a)
theorem X9 (t:HT) (a:I2) (r:HT):hin (Dy t a r)=hin t++a::hin r:=by
 unfold Dy;cases t with
 |nil=>rfl
 |node x b y=>
  show hin (if hh y<=hh x then _ else _)=_
  split
  ·simp[hin]
  ·cases y with
   |nil=>simp[hin]
   |node u c z=>simp[hin]
theorem X8 (l:HT) (a:I2) (t:HT):hin (Dx l a t)=hin l++a::hin t:=by
 unfold Dx;cases t with
 |nil=>rfl
 |node x b y=>
  show hin (if hh x<=hh y then _ else _)=_
  split
  ·simp[hin]
  ·cases x with
   |nil=>simp[hin]
   |node u c z=>simp[hin]
theorem ER (l:HT) (a:I2) (r:HT):hin (Fp l a r)=hin l++a::hin r:=by
 unfold Fp
 split
 ·exact X9 l a r
 ·split
  ·exact X8 l a r
  ·rfl
theorem BP:∀(t:HT) (a x:I2),x∈hin (wR t a)↔(x=a\/x∈hin t)
 | .nil,a,x=>by simp[wR,hin]
 | .node l b r,a,x=>by
   rw[wR]
   split
   ·rw[ER,pV,aZ,aZ,BP l a x,or_assoc]
   ·rw[ER,pV,aZ,aZ,aS,aS,BP r a x]
    constructor
    ·rintro(h|h|h|h)
     ·exact .inr (.inl h)
     ·exact .inr (.inr (.inl h))
     ·exact .inl h
     ·exact .inr (.inr (.inr h))
    ·rintro(h|h|h|h)
     ·exact .inr (.inr (.inl h))
     ·exact .inl h
     ·exact .inr (.inl h)
     ·exact .inr (.inr (.inr h))
theorem Hq (l:HT) (a:I2) (r:HT):(hin (Fp l a r)).length=(hin l).length+1+(hin r).length:=by rw[ER,ay,aH];omega
theorem BQ:∀(t:HT) (a:I2),(hin (wR t a)).length=(hin t).length+1
 | .nil,a=>rfl
 | .node l b r,a=>by
   rw[wR,pV,ay,aH]
   split
   ·rw[Hq,BQ l a];omega
   ·rw[Hq,BQ r a];omega
abbrev Ej (t:HT):Prop:=(hin t).Pairwise (λx y=>ltI x y=true)
theorem ze {l r:HT} {a:I2} (h:Ej (.node l a r)):Ej l/\Ej r/\(∀x∈hin l,ltI x a=true)/\(∀x∈hin r,ltI a x=true)/\(∀x∈hin l,∀y∈hin r,ltI x y=true):=by
 unfold Ej at*;rw[pV,gq,bM] at h;obtain⟨u,⟨q,j⟩,f⟩:=h;exact⟨u,j,λx e=>f x e a (aW ..),q,λx e y i=>f x e y (aU _ i)⟩
theorem Zv {l r:HT} {a:I2} (z:Ej l) (u:Ej r) (q:∀x∈hin l,ltI x a=true) (j:∀x∈hin r,ltI a x=true):(hin l++a::hin r).Pairwise (λx y=>ltI x y=true):=by
 rw[gq,bM];refine⟨z,⟨j,u⟩,λx i y f=>?_⟩;rcases aS.1 f with e|f
 ·subst e;exact q x i
 ·exact vV (q x i) (j y f)
theorem JY:∀(t:HT) (a:I2),Ej t->a∉hin t->Ej (wR t a)
 | .nil,a,_,_=>by unfold Ej;simp[wR,hin]
 | .node l b r,a,h,hn=>by
   obtain⟨H,z,u,q,M⟩:=ze h;rw[pV] at hn;have K:a∉hin l:=λe=>hn (dG _ e)
   have J:a∉hin r:=λe=>hn (bG _ (aU _ e))
   have I:a≠b:=λe=>hn (bG _ (by rw[e];exact aW ..))
   unfold Ej;rw[wR]
   split
   ·rename_i f
    rw[ER];refine Zv (JY l a H K) z (λx i=>?_) q;rcases(BP l a x).1 i with e|e
    ·subst e;exact f
    ·exact u x e
   ·rename_i f
    have j:ltI b a=true:=(zF I).resolve_left f;rw[ER];refine Zv H (JY r a z J) u (λx i=>?_);rcases(BP r a x).1 i with e|e
    ·subst e;exact j
    ·exact q x e
theorem Yl {l r:HT} {a x:I2} (h:Ej (.node l a r)) (f:ltI x a=true):x∈hin (.node l a r)↔x∈hin l:=by
 obtain⟨z,u,q,i,j⟩:=ze h;rw[pV,aZ,aS];constructor
 ·rintro(e|e|e)
  ·exact e
  ·subst e;have:=rP f;rw[f] at this;cases this
  ·have:=rP (i x e);rw[f] at this;cases this
 ·exact .inl
theorem Us {l r:HT} {a x:I2} (h:Ej (.node l a r)) (f:ltI a x=true):x∈hin (.node l a r)↔x∈hin r:=by
 obtain⟨z,u,i,q,j⟩:=ze h;rw[pV,aZ,aS];constructor
 ·rintro(e|e|e)
  ·have:=rP (i x e);rw[f] at this;cases this
  ·subst e;have:=rP f;rw[f] at this;cases this
  ·exact e
 ·exact λe=> .inr (.inr e)
structure HC (W:aj) (b:Nat) (c0 c1 c2:aI) (h:Int):Prop where
 c0:W.cell? ⟨b,0,none⟩=some c0
 c1:W.cell? ⟨b,1,none⟩=some c1
 c2:W.cell? ⟨b,2,none⟩=some c2
 c3:W.cell? ⟨b,3,none⟩=some (Vi h)
theorem HC.ext {W W':aj} {b:Nat} {c0 c1 c2:aI} {h:Int} (x:HC W b c0 c1 c2 h) (a:Ext W W'):HC W' b c0 c1 c2 h:=⟨a.keep x.c0,a.keep x.c1,a.keep x.c2,a.keep x.c3⟩
theorem HC.frame {W W':aj} {b:Nat} {c0 c1 c2:aI} {h:Int} (x:HC W b c0 c1 c2 h) (a:W'.heap[b]? =W.heap[b]?):HC W' b c0 c1 c2 h:=⟨(qR a).trans x.c0,(qR a).trans x.c1,(qR a).trans x.c2,(qR a).trans x.c3⟩
theorem HC.lt {W:aj} {b:Nat} {c0 c1 c2:aI} {h:Int} (x:HC W b c0 c1 c2 h):b<W.heap.size:=World.block_lt_of_cell? W _ x.c0
theorem HC.new (W:aj) (c0 c1 c2:aI) (h:Int) (T:TypeId):HC (W.alloc (.cells #[c0,c1,c2,Vi h] T)) W.heap.size c0 c1 c2 h:=by
 constructor <;> simp[go_sem]
def HV (F:Nat->Prop) (W:aj) (ad:I2->Nat):HT->aI->Prop
 | .nil,v=>v=vK
 | .node l a r,v=>∃b,v=Vp b/\F b/\∃e vr,HC W b (Vp (ad a)) e vr ((max (hh l) (hh r)+1:Nat):Int)/\HV F W ad l e/\HV F W ad r vr
theorem HV.ext {F:Nat->Prop} {W W':aj} {ad:I2->Nat} (f:Ext W W'):∀{t:HT} {v:aI},HV F W ad t v->HV F W' ad t v
 | .nil,v,h=>h
 | .node l a r,v,⟨b,e,hf,vl,vr,hc,hl,hr⟩=>⟨b,e,hf,vl,vr,hc.ext f,HV.ext f hl,HV.ext f hr⟩
theorem HV.frame {F:Nat->Prop} {W W':aj} {ad:I2->Nat} (f:∀b,F b->W'.heap[b]? =W.heap[b]?):∀{t:HT} {v:aI},HV F W ad t v->HV F W' ad t v
 | .nil,v,h=>h
 | .node l a r,v,⟨b,e,hf,vl,vr,hc,hl,hr⟩=>⟨b,e,hf,vl,vr,hc.frame (f b hf),HV.frame f hl,HV.frame f hr⟩
theorem HV.mono {F G:Nat->Prop} {W:aj} {ad:I2->Nat} (f:∀b,F b->G b):∀{t:HT} {v:aI},HV F W ad t v->HV G W ad t v
 | .nil,v,h=>h
 | .node l a r,v,⟨b,e,hf,vl,vr,hc,hl,hr⟩=>⟨b,e,f b hf,vl,vr,hc,HV.mono f hl,HV.mono f hr⟩
theorem HV.lt {F:Nat->Prop} {W:aj} {ad:I2->Nat}:∀{t:HT} {v:aI},HV F W ad t v->HV (λb=>F b/\b<W.heap.size) W ad t v
 | .nil,v,h=>h
 | .node l a r,v,⟨b,e,hf,vl,vr,hc,hl,hr⟩=>⟨b,e,⟨hf,hc.lt⟩,vl,vr,hc,HV.lt hl,HV.lt hr⟩
theorem HV.same {F:Nat->Prop} {W:aj} {ad f:I2->Nat}:∀{t:HT} {v:aI},(∀a∈hin t,f a=ad a)->HV F W ad t v->HV F W f t v
 | .nil,v,_,h=>h
 | .node l a r,v,hs,⟨b,e,hf,vl,vr,hc,hl,hr⟩=>⟨b,e,hf,vl,vr,by rw[hs a (bG _ (aW ..))];exact hc,
   HV.same (λx i=>hs x (dG _ i)) hl,HV.same (λx i=>hs x (bG _ (aU _ i))) hr⟩
def NI (G:Nat->Prop) (ad:I2->Nat) (w:aj) (t:HT) (e:Ending) (w':aj):Prop:=∃v,e= .returned v/\HV G w' ad t v/\Ext w w'
def KX (W:aj) (ad:I2->Nat) (l:List I2):Prop:=∀a∈l,W.cell? ⟨ad a,0,none⟩=some (Vu a.1)/\W.cell? ⟨ad a,1,none⟩=some (Vu a.2)
theorem KX.ext {W W':aj} {ad:I2->Nat} {l:List I2} (h:KX W ad l) (e:Ext W W'):KX W' ad l:=λa f=>⟨e.keep (h a f).1,e.keep (h a f).2⟩
theorem aeb (a b c d:Int):(rE a b c d= -1/\ltI (a,b) (c,d)=true)\/(rE a b c d=0/\a=c/\b=d)\/(rE a b c d=1/\ltI (c,d) (a,b)=true):=by
 unfold rE wJ;simp only[wu];by_cases h:a=c
 ·subst h
  rw[if_pos rfl];by_cases e:b<d
  ·rw[if_pos e];exact .inl ⟨rfl,.inr ⟨rfl,e⟩⟩
  ·rw[if_neg e]
   by_cases f:d<b
   ·rw[if_pos f];exact .inr (.inr ⟨rfl,.inr ⟨rfl,f⟩⟩)
   ·rw[if_neg f];exact .inr (.inl ⟨rfl,rfl,ω⟩)
 ·rw[if_neg h]
  by_cases e:a<c
  ·rw[if_pos e];exact .inl ⟨rfl,.inl e⟩
  ·rw[if_neg e]
   by_cases f:c<a
   ·rw[if_pos f];exact .inr (.inr ⟨rfl,.inl f⟩)
   ·omega
theorem vG {a b c d s:Int} (h:rE a b c d=s) (w:aj):aX Tryz.prog 100 #[idv a b,idv c d] w λe w'=>e= .returned (Vi s)/\Ext w w':=by rw[<-h];exact Pm _ _ _ _ _
theorem J4 {F:Nat->Prop} {ad:I2->Nat} (t:HT) (v:aI) (w:aj) (h:HV F w ad t v):aX Tryz.prog 229 #[v] w λe w'=>e= .returned (Vi (hh t:Nat))/\w=w':=by
 cases t with
 |nil=>
  have h:v=vK:=h;subst h;go_enter Tryz.func229,Tryz.ntmps229;go_wp2;go_ret;exact⟨rfl,rfl⟩
 |node l a r=>
  obtain⟨b,rfl,i,f,vr,⟨c0,c1,c2,c3⟩,_,_⟩:=h;rw[OQ];generalize max (hh l) (hh r)+1=n at*;go_enter Tryz.func229,Tryz.ntmps229;go_wp2;go_ret;exact⟨rfl,rfl⟩
def fdV (ad:I2->Nat) (t:HT) (a:I2):aI:=if a∈hin t then Vp (ad a) else vK
theorem Yo {F:Nat->Prop} {ad:I2->Nat} (t:HT) (v:aI) (c k:Int) (w:aj) (h:HV F w ad t v) (hi:KX w ad (hin t)) (z:Ej t):
  aX Tryz.prog 91 #[v,idv c k] w λe w'=>e= .returned (fdV ad t (c,k))/\Ext w w':=by
 obtain⟨R,hR⟩:∃R,fdV ad t (c,k)=R:=⟨_,rfl⟩;rw[hR];replace hR:=ah hR;have a4:=ah hi;have h0:=ah h;have a2:=ah z;clear h z hi;go_enter Tryz.func91,Tryz.ntmps91;go_wp2;have x0:Ext w (w.alloc (.cells #[.int .u32 c,.int .u32 k] 55)):=(Ext.refl _).alloc _;have a0:(w.alloc (.cells #[.int .u32 c,.int .u32 k] 55)).cell? ⟨w.heap.size,0,none⟩=some (Vu c):=σ
 have a1:(w.alloc (.cells #[.int .u32 c,.int .u32 k] 55)).cell? ⟨w.heap.size,1,none⟩=some (Vu k):=σ
 generalize w.alloc (.cells #[.int .u32 c,.int .u32 k] 55)=w0 at*;generalize w.heap.size=pa at*
 go_loopg [0] (hin t).length (λkx s0 wr=>∃(u:HT) (v0:aI),s0=v0/\Hid (HV F wr ad u v0/\Ej u/\(∀x∈hin u,x∈hin t)/\((c,k)∈hin u↔(c,k)∈hin t))/\(hin u).length<=kx/\Ext w0 wr)
 case atStart=>exact⟨t,v,rfl,ah ⟨h0.out.ext x0,a2.out,λ_ h=>h,Iff.rfl⟩,aD _,Ext.refl _⟩
 case round=>
  obtain⟨u,v0,e0,hu,hk,Z⟩:=hrel;cases u with
  |nil=>
   obtain⟨e,_,_,U⟩:=hu.out;have e:v0=vK:=e;subst e;subst e0;have hr:=ah (show R=vK by
        rw[<-hR.out];unfold fdV;rw[if_neg (λe=>by have:=U.2 e;simp[hin] at this)])
   go_wp2;go_ret;exact⟨by rw[hr.out];rfl,x0.trans Z⟩
  |node l b r=>
   obtain⟨⟨bb,e,hf,vl,vr,hc,hl,H⟩,z,f,U⟩:=hu.out;subst e;subst e0;have i:Ext w0 wr.drew:=Z.drew;have q:Ext wr wr.drew:=(Ext.refl _).drew;obtain⟨c0,c1,c2,c3⟩:=hc.ext q;have hb:=f b (bG _ (aW ..));obtain⟨i0,i1⟩:=a4.out b hb;replace i0:=i.keep (x0.keep i0);replace i1:=i.keep (x0.keep i1);replace a0:=i.keep a0;replace a1:=i.keep a1;have K:=hl.ext q;have I:=H.ext q;obtain⟨b1,b2⟩:=b;simp only at i0 i1;obtain⟨nb,J⟩:∃nb,ad (b1,b2)=nb:=⟨_,rfl⟩;rw[J] at i0 i1 c0;have N:=i0;have M:=i1;replace J:=ah J;rcases aeb c k b1 b2 with⟨hcm,ho⟩|⟨hcm,rfl,rfl⟩|⟨hcm,ho⟩
   ·have a:=ah (λW=>vG hcm W)
    have Q:=ah (U.symm.trans (Yl z ho));have O:=ah (ze z).1;have Y:(hin l).length<gk:=by rw[pV,ay,aH] at hk;omega
    have X:=ah K;have j:=ah (λx (Z:x∈hin l)=>f x (dG _ Z));clear hcm ho U z hc hl H K I f hb hu hk q N M;go_wp2;refine dS 9 κ κ ?_;simp only[dU,eG,dN,dX];change kL Tryz.prog _ wr.drew (λa'=>lK Tryz.prog _ _ _ a' wr.drew) _ _;generalize wr.drew=w2 at*
    repeat still_step
    refine iq ?_
    go_wp2_with fail
    refine(a.out _).mono ?_;rintro e w3 ⟨rfl,x3⟩;replace c0:=x3.keep c0;replace c1:=x3.keep c1;replace c2:=x3.keep c2;go_wp2
    go_roundg (hin l).length
    case measure=>exact Y
    case rel=>exact⟨l,vl,rfl,ah ⟨X.out.ext x3,O.out,j.out,Q.out.symm⟩,aD _,i.trans x3⟩
   ·have a:=ah (λW=>vG hcm W)
    have a3:=ah (show R=Vp nb by
     rw[<-hR.out];unfold fdV;rw[if_pos hb,J.out])
    clear hcm U z hc hl H K I f hb hu hk q N M;go_wp2;refine dS 9 κ κ ?_;simp only[dU,eG,dN,dX];change kL Tryz.prog _ wr.drew (λa'=>lK Tryz.prog _ _ _ a' wr.drew) _ _;generalize wr.drew=w2 at*
    repeat still_step
    refine iq ?_
    go_wp2_with fail
    refine(a.out _).mono ?_;rintro e w3 ⟨rfl,x3⟩;replace c0:=x3.keep c0;replace c1:=x3.keep c1;replace c2:=x3.keep c2;go_wp2;go_ret;exact⟨by rw[a3.out];rfl,(x0.trans i).trans x3⟩
   ·have a:=ah (λW=>vG hcm W)
    have Q:=ah (U.symm.trans (Us z ho));have O:=ah (ze z).2.1;have Y:(hin r).length<gk:=by rw[pV,ay,aH] at hk;omega
    have X:=ah I;have j:=ah (λx (Z:x∈hin r)=>f x (bG _ (aU _ Z)));clear hcm ho U z hc hl H K I f hb hu hk q N M;go_wp2;refine dS 9 κ κ ?_;simp only[dU,eG,dN,dX];change kL Tryz.prog _ wr.drew (λa'=>lK Tryz.prog _ _ _ a' wr.drew) _ _;generalize wr.drew=w2 at*
    repeat still_step
    refine iq ?_
    go_wp2_with fail
    refine(a.out _).mono ?_;rintro e w3 ⟨rfl,x3⟩;replace c0:=x3.keep c0;replace c1:=x3.keep c1;replace c2:=x3.keep c2;go_wp2
    go_roundg (hin r).length
    case measure=>exact Y
    case rel=>exact⟨r,vr,rfl,ah ⟨X.out.ext x3,O.out,j.out,Q.out.symm⟩,aD _,i.trans x3⟩
section
def vAd (ad:I2->Nat) (a:I2):aI:=if a.1=0 then vK else Vp (ad a)
abbrev RtL (L:List It) (a:I2):Prop:=a=(0,0)\/nZ L a=true
variable {F:Nat->Prop} {L:List It} {W:aj} {a:I2} {ad:I2->Nat} {b:Nat} {d:Int} {r:Bool} {v1 v2:aI} {x:It}
theorem xG (ad:I2->Nat):vAd ad (0,0)=vK:=rfl
theorem uM (f:og L=true) (h:nZ L a=true):vAd ad a=Vp (ad a):=by
 unfold vAd;rw[if_neg];intro e;have:=pW f a.2;rw[show((0:Int),a.2)=a from jQ e.symm rfl,h] at this;cases this
theorem vw (ad:I2->Nat) (a:I2):∃p,vAd ad a= .pointer p:=by
 unfold vAd
 split
 ·exact⟨none,rfl⟩
 ·exact⟨_,rfl⟩
def NC (W:aj) (b:Nat) (x:It) (e:aI) (r:Bool) (d:Int) (f:aI):Prop:=W.heap[b]? =some (.cells #[Vu x.c,Vu x.k,Vu x.lc,Vu x.lk,Vu x.rc,Vu x.rk,.int .i32 x.ch,e,.bool r,Vi d,f] 192 (0,0))
theorem NC.lt (h:NC W b x v1 r d v2):b<W.heap.size:=(aC.1 h).1
theorem NC.ext {W':aj} (h:NC W b x v1 r d v2) (e:Ext W W'):NC W' b x v1 r d v2:=(aJ e b h.lt).trans h
theorem NC.frame {W':aj} (h:NC W b x v1 r d v2) (e:W'.heap[b]? =W.heap[b]?):NC W' b x v1 r d v2:=e.trans h
structure NcC (W:aj) (b:Nat) (x:It) (v1:aI) (r:Bool) (d:Int) (v2:aI):Prop where
 c0:W.cell? ⟨b,0,none⟩=some (Vu x.c)
 c1:W.cell? ⟨b,1,none⟩=some (Vu x.k)
 c2:W.cell? ⟨b,2,none⟩=some (Vu x.lc)
 c3:W.cell? ⟨b,3,none⟩=some (Vu x.lk)
 c4:W.cell? ⟨b,4,none⟩=some (Vu x.rc)
 c5:W.cell? ⟨b,5,none⟩=some (Vu x.rk)
 c6:W.cell? ⟨b,6,none⟩=some (.int .i32 x.ch)
 c7:W.cell? ⟨b,7,none⟩=some (v1)
 c8:W.cell? ⟨b,8,none⟩=some (.bool r)
 c9:W.cell? ⟨b,9,none⟩=some (Vi d)
 c10:W.cell? ⟨b,10,none⟩=some (v2)
theorem NC.cells (h:NC W b x v1 r d v2):NcC W b x v1 r d v2:=
 ⟨ak W b 0 _ _ _ h,ak W b 1 _ _ _ h,ak W b 2 _ _ _ h,ak W b 3 _ _ _ h,ak W b 4 _ _ _ h,ak W b 5 _ _ _ h,ak W b 6 _ _ _ h,ak W b 7 _ _ _ h,ak W b 8 _ _ _ h,ak W b 9 _ _ _ h,ak W b 10 _ _ _ h⟩
structure NdL (F:Nat->Prop) (W:aj) (ad:I2->Nat) (L:List It):Prop where
 kn:og L=true
 at':∀x∈L,F (ad (iid x))/\∃(on far:I2) (right:Bool) (q:Pth),RtL L on/\RtL L far/\pth L (iid x)=pth L on++[(right,iid x)]/\pth L (iid x)=pth L far++q/\q≠[]/\NC W (ad (iid x)) x (vAd ad on) right ((pth L (iid x)).length:Nat) (vAd ad far)
 inj:∀a b,nZ L a=true->nZ L b=true->ad a=ad b->a=b
theorem NdL.ext {F:Nat->Prop} {W W':aj} {ad:I2->Nat} {L:List It} (h:NdL F W ad L) (e:Ext W W'):NdL F W' ad L:=
 ⟨h.kn,λx f=>by
  obtain⟨J,on,far,r,q,I,H,z,u,j,i⟩:=h.at' x f;exact⟨J,on,far,r,q,I,H,z,u,j,i.ext e⟩,h.inj⟩
theorem NdL.frame {F:Nat->Prop} {W W':aj} {ad:I2->Nat} {L:List It} (h:NdL F W ad L) (f:∀b,F b->W'.heap[b]? =W.heap[b]?):NdL F W' ad L:=
 ⟨h.kn,λx i=>by
  obtain⟨e,on,far,r,q,J,I,H,z,u,j⟩:=h.at' x i;exact⟨e,on,far,r,q,J,I,H,z,u,j.frame (f _ e)⟩,h.inj⟩
theorem NdL.mono {G:Nat->Prop} (h:NdL F W ad L) (e:∀b,F b->G b):NdL G W ad L:=
 ⟨h.kn,λx f=>by
  obtain⟨i,r⟩:=h.at' x f;exact⟨e _ i,r⟩,h.inj⟩
theorem NdL.lt {F:Nat->Prop} {W:aj} {ad:I2->Nat} {L:List It} (h:NdL F W ad L):NdL (λb=>F b/\b<W.heap.size) W ad L:=
 ⟨h.kn,λx f=>by
  obtain⟨I,on,far,r,q,H,z,u,j,i,e⟩:=h.at' x f;exact⟨⟨I,e.lt⟩,on,far,r,q,H,z,u,j,i,e⟩,h.inj⟩
theorem NdL.get (h:NdL F W ad L) (f:nZ L a=true):∃(x:It) (on far:I2) (right:Bool) (q:Pth),iid x=a/\RtL L on/\RtL L far/\pth L a=pth L on++[(right,a)]/\pth L a=pth L far++q/\q≠[]/\NC W (ad a) x (vAd ad on) right ((pth L a).length:Nat) (vAd ad far):=by
 obtain⟨x,e,rfl⟩:=oP.1 f;obtain⟨_,on,far,r,q,I,H,z,u,j,i⟩:=h.at' x e;exact⟨x,on,far,r,q,rfl,I,H,z,u,j,i⟩
theorem NdL.ids (h:NdL F W ad L) {l:List I2} (f:∀a∈l,nZ L a=true):KX W ad l:=by
 intro a i;obtain⟨x,_,_,_,_,rfl,_,_,_,_,_,e⟩:=h.get (f a i);exact⟨e.cells.c0,e.cells.c1⟩
theorem ZI (e:og L=true) (h:0<(pth L a).length):nZ L a=true:=by
 cases hh:nZ L a with
 |true=>rfl
 |false=>rw[pU hh] at h;simp at h
theorem rt_eq (j:og L=true) {b:I2} (i:RtL L a) (f:RtL L b) (e:pth L a=pth L b):a=b:=by
 rcases i with i|i
 ·subst i
  rcases f with f|f
  ·exact f.symm
  ·rw[pU (pW j 0)] at e
   obtain⟨s,p,q,_⟩:=qo j b f;rw[q] at e;simp at e
 ·rcases f with f|f
  ·subst f
   rw[pU (pW j 0)] at e;obtain⟨s,p,q,_⟩:=qo j a i;rw[q] at e;simp at e
  ·exact Iu j i f e
theorem Fb (w:aj) (h:NdL F w ad L) (f:RtL L a) (n:Nat) (j:(pth L a).length=n):aX Tryz.prog 182 #[vAd ad a] w λe w'=>e= .returned (Vi (n:Int))/\w=w':=by
 subst j;rcases f with rfl|f
 ·rw[xG,pU (pW h.kn 0)]
  go_enter Tryz.func182,Tryz.ntmps182;go_wp2;go_ret;exact⟨rfl,rfl⟩
 ·obtain⟨x,on,far,r,q,_,_,_,_,_,_,i⟩:=h.get f
  have c9:=i.cells.c9;rw[uM h.kn f];clear i;generalize(pth L a).length=n at*;generalize ad a=b at*;go_enter Tryz.func182,Tryz.ntmps182;go_wp2;go_ret;exact⟨rfl,rfl⟩
theorem FI {P q:Pth} {d:Nat} (h:d<=P.length):(P++q).take d=P.take d:=by
 rw[mX,show d-P.length=0 by omega,eG,bZ]
def UpC (ad:I2->Nat) (L:List It) (P:Pth) (e:Ending):Prop:=∃c:I2,nZ L c=true/\pth L c=P/\e= .returned (Vp (ad c))
theorem WQ (d:Nat) (w:aj) (h:NdL F w ad L) (ha:nZ L a=true) (h1:1<=d) (h2:d<=(pth L a).length) (h3:(pth L a).length<=40000000):
  aX Tryz.prog 261 #[Vp (ad a),Vi (d:Int)] w λe w'=>UpC ad L ((pth L a).take d) e/\w=w':=by
 have N:=ah h;obtain⟨T,hT⟩:∃T,(pth L a).take d=T:=⟨_,rfl⟩;have a1:=ah (show nZ L a=true/\d<=(pth L a).length/\(pth L a).take d=T from⟨ha,h2,hT⟩);rw[hT];obtain⟨K,hK⟩:∃K,(pth L a).length=K:=⟨_,rfl⟩;replace hK:=ah hK;clear h ha h2 hT;go_enter Tryz.func261,Tryz.ntmps261;go_wp2
 go_loopg [0] K (λkx s0 wr=>∃m:I2,s0=Vp (ad m)/\Hid (nZ L m=true/\d<=(pth L m).length/\(pth L m).take d=T)/\Hid ((pth L m).length<=kx)/\wr=w)
 case atStart=>exact⟨a,rfl,a1,ah (Nat.le_of_eq hK.out),rfl⟩
 case round=>
  obtain⟨m,rfl,hp,hk,rfl⟩:=hrel;obtain⟨hm,hd,J⟩:=hp.out;obtain⟨x,on,far,r,q,_,a3,a2,Q,O,p3,hc⟩:=N.out.get hm;have c7:=hc.cells.c7;have c9:=hc.cells.c9;have c10:=hc.cells.c10;have u:=congrArg jI Q;have j:=congrArg jI O;rw[ay,dJ] at u;rw[ay] at j;have hq:=List.length_pos_iff.2 p3;clear hc;by_cases a4:d<(pth L m).length
  ·have Z:(d:Int)<((pth L m).length:Int):=ω
   have f:=ah (λn hn=>Fb wr N.out a2 n hn);have Y:nZ L on=true:=ZI N.out.kn ω;by_cases hf:d<=(pth L far).length
   ·have a0:nZ L far=true:=ZI N.out.kn ω
    rw[uM N.out.kn a0] at c10 f;have M:=ah (show nZ L far=true/\d<=(pth L far).length/\(pth L far).take d=T from⟨a0,hf,by rw[<-J,O,FI hf]⟩);have z:=ah (show(pth L far).length<gk by have:=hk.out;omega);have H:=ah (aD (pth L far).length);replace f:=ah (f.out _ rfl);have I:(d:Int)<=((pth L far).length:Int):=ω
    clear hp J Q O p3 u j hq hk;generalize(pth L m).length=nm at*;obtain⟨U,i⟩:∃U,(pth L far).length=U:=⟨_,rfl⟩;rw[i] at f I;replace i:=ah i
    go_wp2_with fail
    refine f.out.mono ?_;rintro e w1 ⟨rfl,rfl⟩;go_wp2
    go_roundg (pth L far).length
    case measure=>exact z.out
    case rel=>exact⟨far,rfl,M,H,rfl⟩
   ·have I:¬(d:Int)<=((pth L far).length:Int):=ω
    have M:=ah (show nZ L on=true/\d<=(pth L on).length/\(pth L on).take d=T from⟨Y,ω,by rw[<-J,Q,FI ω]⟩);have z:=ah (show(pth L on).length<gk by have:=hk.out;omega);have H:=ah (aD (pth L on).length);replace f:=ah (f.out _ rfl);rw[uM N.out.kn Y] at c7;obtain⟨pf,X⟩:=vw ad far;rw[X] at c10 f;clear hp J Q O p3 u j hq hk X;generalize(pth L m).length=nm at*;obtain⟨U,i⟩:∃U,(pth L far).length=U:=⟨_,rfl⟩;rw[i] at f I;replace i:=ah i
    go_wp2_with fail
    refine f.out.mono ?_;rintro e w1 ⟨rfl,rfl⟩;go_wp2
    go_roundg (pth L on).length
    case measure=>exact z.out
    case rel=>exact⟨on,rfl,M,H,rfl⟩
  ·have Z:¬(d:Int)<((pth L m).length:Int):=ω
   have M:=ah (show nZ L m=true/\pth L m=T from⟨hm,by rw[<-J,bI ω]⟩);clear hp J Q O p3 u j hq hk;generalize(pth L m).length=nm at*;go_wp2;go_ret;exact⟨⟨m,M.out.1,M.out.2,rfl⟩,rfl⟩
theorem aaF:(Tryz.prog.info? 192).map (λi=>decide (i.size≠0))=some true:=κ
theorem Oj (a:Addr) (W:aj):(binOp .neq 189 (.pointer (some a)) (.pointer (some a))).run Tryz.prog W= .ok (.bool false) W:=by
 have hi:=aaF;cases e:Tryz.prog.info? 192 with
 |none=>rw[e] at hi;cases hi
 |some j=>
  have h:∀d:Nat,(iD (d+1) 189 (.pointer (some a)) (.pointer (some a))).run Tryz.prog W= .ok true W:=λd=>by
   simp[iD,bR Tryz.underlying189,sizeOf,typeInfo,e,run_sameAddr_same]
  simp only[binOp];simp[Op.equal,kR,h 9999]
theorem Ld {a b:Addr} {ca cb:Array aI} {q tb:TypeId} (f:a≠b) (z:W.heap[a.block]? =some (.cells ca q (0,0))) (u:W.heap[b.block]? =some (.cells cb tb (0,0))):(binOp .neq 189 (.pointer (some a)) (.pointer (some b))).run Tryz.prog W= .ok (.bool true) W:=by
 have hi:=aaF;cases i:Tryz.prog.info? 192 with
 |none=>rw[i] at hi;cases hi
 |some j=>
  rw[i] at hi;have e:j.size≠0:=by simpa using hi
  have h:∀d:Nat,(iD (d+1) 189 (.pointer (some a)) (.pointer (some b))).run Tryz.prog W= .ok false W:=λd=>by
   simp[iD,bR Tryz.underlying189,sizeOf,typeInfo,i,e,run_sameAddr_other W f z u]
  simp only[binOp];simp[Op.equal,kR,h 9999]
theorem G6 (a:Addr) (W:aj):(binOp .neq 189 (.pointer (some a)) (.pointer none)).run Tryz.prog W= .ok (.bool true) W:=by
 have h:∀d:Nat,(iD (d+1) 189 (.pointer (some a)) (.pointer none)).run Tryz.prog W= .ok false W:=λd=>by
  simp[iD,bR Tryz.underlying189]
 simp only[binOp];simp[Op.equal,kR,h 9999]
theorem Ol (a:Addr) (W:aj):(binOp .neq 189 (.pointer none) (.pointer (some a))).run Tryz.prog W= .ok (.bool true) W:=by
 have h:∀d:Nat,(iD (d+1) 189 (.pointer none) (.pointer (some a))).run Tryz.prog W= .ok false W:=λd=>by
  simp[iD,bR Tryz.underlying189]
 simp only[binOp];simp[Op.equal,kR,h 9999]
theorem ED (W:aj):(binOp .neq 189 (.pointer none) (.pointer none)).run Tryz.prog W= .ok (.bool false) W:=by
 have h:∀d:Nat,(iD (d+1) 189 (.pointer none) (.pointer none)).run Tryz.prog W= .ok true W:=λd=>by
  simp[iD,bR Tryz.underlying189]
 simp only[binOp];simp[Op.equal,kR,h 9999]
theorem agK (h:NdL F W ad L) {b:I2} (f:RtL L a) (i:RtL L b):(binOp .neq 189 (vAd ad a) (vAd ad b)).run Tryz.prog W= .ok (.bool (decide (a≠b))) W:=by
 by_cases e:a=b
 ·subst e
  rw[decide_eq_false (λh=>h rfl)];rcases f with rfl|f
  ·exact ED W
  ·rw[uM h.kn f];exact Oj _ W
 ·rw[decide_eq_true e]
  rcases f with rfl|f
  ·rcases i with rfl|i
   ·exact absurd rfl e
   ·rw[xG,uM h.kn i];exact Ol _ W
  ·rcases i with rfl|i
   ·rw[xG,uM h.kn f];exact G6 _ W
   ·rw[uM h.kn f,uM h.kn i]
    obtain⟨_,_,_,_,_,_,_,_,_,_,_,q⟩:=h.get f;obtain⟨_,_,_,_,_,_,_,_,_,_,_,j⟩:=h.get i;refine Ld (λu=>e (h.inj a b f i ?_)) q j;injection u
def hgV (ad:I2->Nat) (r:Option I2):aI:=match r with
 |none=>vK
 |some c=>Vp (ad c)
theorem D6 {b:I2} (w:aj) (h:NdL F w ad L) (ha:nZ L a=true) (hb:RtL L b) (h3:L.length<=40000000):
  aX Tryz.prog 220 #[Vp (ad a),vAd ad b] w λe w'=>e= .returned (hgV ad (su L a b))/\w=w':=by
 have b1:=uj h.kn a;have b0:=uj h.kn b;obtain⟨x,on,far,r,q,_,a9,b2,p1,p2,p3,hc⟩:=h.get ha;have c9:=hc.cells.c9;have I:=ah (Fb w h hb _ rfl);obtain⟨R,X⟩:∃R,hgV ad (su L a b)=R:=⟨_,rfl⟩;rw[X];have hN:=ah h;by_cases a0:(pth L a).length<(pth L b).length+1
 ·have H:((pth L a).length:Int)<((pth L b).length:Int)+1:=ω
  have hr:=ah (show R=vK by
   rw[<-X,Gs]
   ·rfl
   ·intro s c r e
    have:=congrArg jI e;rw[ay,aH] at this;omega)
  obtain⟨pb,i⟩:=vw ad b;rw[i] at I⊢;clear X hc p1 p2 p3 h a0 i;generalize(pth L a).length=na at*;generalize(pth L b).length=J at*;generalize ad a=aa at*;go_enter Tryz.func220,Tryz.ntmps220
  go_wp2_with fail
  refine I.out.mono ?_;rintro e w1 ⟨rfl,rfl⟩;go_wp2;go_ret;exact⟨by rw[hr.out];rfl,rfl⟩
 ·have H:¬((pth L a).length:Int)<((pth L b).length:Int)+1:=ω
  have M:=ah (WQ ((pth L b).length+1) w h ha ω ω ω);obtain⟨pb,i⟩:=vw ad b;have a8:=ah i;rw[i] at I⊢;replace X:=ah X;clear hc p1 p2 p3 h a0 i;have hA:=ah (show(pth L b).length<(pth L a).length by omega);have K:(pth L b).length<=40000000:=ω
  obtain⟨na,Q⟩:∃n,(pth L a).length=n:=⟨_,rfl⟩;obtain⟨J,j⟩:∃n,(pth L b).length=n:=⟨_,rfl⟩;obtain⟨aa,U⟩:∃n,ad a=n:=⟨_,rfl⟩;rw[j] at H I M K;rw[Q] at H c9;rw[U] at c9 M⊢;replace Q:=ah Q;replace j:=ah j;replace U:=ah U;go_enter Tryz.func220,Tryz.ntmps220
  go_wp2_with fail
  refine I.out.mono ?_;rintro e w1 ⟨rfl,rfl⟩
  go_wp2_with fail
  rw[show(J:Int)+1=((J+1:Nat):Int) by omega];refine M.out.mono ?_;rintro e w1 ⟨⟨c,a6,a1,rfl⟩,rfl⟩;obtain⟨x2,f,O6,r2,q2,_,a4,Vl,q1,a5,q3,a2⟩:=hN.out.get a6;have d7:=a2.cells.c7;obtain⟨p2,N⟩:=vw ad f;have X4:=ah N;rw[N] at d7;have u:(pth L a).take (J+1)=pth L f++[(r2,c)]:=by rw[<-a1,q1]
  have Y:pth L f=(pth L a).take J:=by
   have h1:=congrArg (λz=>z.take J) u;have hl:=congrArg jI u;rw[bN,ay,dJ] at hl;have a7:=hA.out;rw[j.out] at a7;rw[List.take_take,Nat.min_eq_left ω,mX,bI (l:=pth L f) ω,show J-(pth L f).length=0 by omega,eG,bZ] at h1;exact h1.symm
  clear a2 a1 q1 a5 q3 N c9;have O:=agK hN.out a4 hb;rw[X4.out,a8.out] at O;by_cases Z:f=b
  ·have a3:f=b:=Z
   rw[decide_eq_false (λhh=>hh Z)] at O;have hr:=ah (show R=Vp (ad c) by
        rw[<-X.out,Gq (s:=r2) (c:=c) (r:=(pth L a).drop (J+1))]
        ·rfl
        ·have:=List.take_append_drop (J+1) (pth L a)
         rw[u,a3,aY] at this;exact this.symm)
   clear u Y Z a3;go_wp2;go_ret;exact⟨by rw[hr.out];rfl,rfl⟩
  ·rw[decide_eq_true Z] at O
   have hr:=ah (show R=vK by
        rw[<-X.out,Gs]
        ·rfl
        ·intro s c3 r3 e3
         have h4:pth L f=pth L b:=by rw[Y,e3,FI (by rw[j.out];exact aD _),bI (by rw[j.out];exact aD _)]
         exact Z (rt_eq hN.out.kn a4 hb h4))
   clear u Y Z;go_wp2;go_ret;exact⟨by rw[hr.out];rfl,rfl⟩
def agV (ad:I2->Nat) (L:List It) (b:I2) (e:Ending):Prop:=∃(f:I2) (q:Pth),RtL L f/\pth L b=pth L f++q/\e= .returned (vAd ad f)
theorem abm {b:I2} (w:aj) (h:NdL F w ad L) (u:RtL L b) (h3:L.length<=40000000):
  aX Tryz.prog 183 #[vAd ad b] w λe w'=>agV ad L b e/\Ext w w':=by
 have f:=ah (show agV ad L b (.returned (vAd ad b)) from⟨b,[],u,ι,rfl⟩);rcases u with rfl|u
 ·rw[xG] at f⊢
  go_enter Tryz.func183,Tryz.ntmps183;go_wp2;go_ret;exact⟨f.out,Ext.refl _⟩
 ·obtain⟨x,on,far,r,q,_,H,X,p1,Q,p3,O⟩:=h.get u
  have c9:=O.cells.c9;have c10:=O.cells.c10;rw[uM h.kn u] at f⊢;have a2:=uj h.kn b;rcases X with rfl|Dm
  ·rw[xG] at c10
   clear O p1 Q p3 h H;generalize(pth L b).length=U at*;generalize ad b=bb at*;go_enter Tryz.func183,Tryz.ntmps183;go_wp2;go_ret;exact⟨f.out,Ext.refl _⟩
  ·rw[uM h.kn Dm] at c10
   obtain⟨x2,a0,z,r2,q2,_,Y,Z,q1,I,q3,i⟩:=h.get Dm;have d9:=i.cells.c9;have j:=i.cells.c10;have a1:=uj h.kn far;have a3:=uj h.kn z;have N:=ah (λ(e:Ext w w.drew)=>Fb w.drew (h.ext e) Z _ rfl);have K:=ah (show agV ad L b (.returned (vAd ad z)) from⟨z,q2++q,Z,by rw[Q,I,aY],rfl⟩);obtain⟨pf,J⟩:=vw ad z;rw[J] at j N K;have x1:Ext w w.drew:=(Ext.refl w).drew;replace N:=ah (((N.out x1).mono λe w' h=>(⟨h.1,h.2.symm⟩:e= .returned (Vi ((pth L z).length:Nat))/\w'=w.drew)));have a6:=x1.keep c9;have a7:=x1.keep c10;have a5:=x1.keep d9;have a8:=x1.keep j;clear O i p1 Q p3 q1 I q3 h H Y Z Dm u J c9 d9 j;generalize(pth L b).length=U at*;generalize(pth L far).length=M at*;generalize(pth L z).length=ng at*;generalize ad b=bb at*;generalize ad far=bf at*;obtain⟨T,hT⟩:∃T:Bool,decide ((U:Int)-(M:Int)=(M:Int)-(ng:Int))=T:=⟨_,rfl⟩;have a4:((U:Int)-(M:Int)==(M:Int)-(ng:Int))=T:=by rw[<-hT];rfl
   clear hT;go_enter Tryz.func183,Tryz.ntmps183;go_wp2;refine dS 28 κ κ ?_;simp only[dU,eG,dN,dX];change kL Tryz.prog _ w.drew (λa'=>lK Tryz.prog _ _ _ a' w.drew) _ _;generalize w.drew=w2 at*
   repeat still_step
   still_call N.out
   repeat still_step
   refine iq ?_;cases T
   ·go_wp2
    go_ret;exact⟨f.out,x1⟩
   ·go_wp2
    go_ret;exact⟨K.out,x1⟩
end
end
section
structure Lv where
 A:Option Addr
 n:Nat
 c:Nat
 l:Option Addr
 r:Option Addr
 h:Int
 m:Int
 s:Int
 lo:Int
 hi:Int
 p:Option Addr
abbrev lsv (x:Lv):aI:= .agg #[.slice x.A x.n x.c,.pointer x.l,.pointer x.r,Vi x.h,Vi x.m,Vi x.s,Vq x.lo,Vq x.hi,.pointer x.p]
abbrev zLv:Lv:=⟨none,0,0,none,none,0,0,0,0,0,none⟩
def BxL (W:aj) (q:Nat) (x:Lv):Prop:=W.heap[q]? =some (.cells #[.slice x.A x.n x.c,.pointer x.l,.pointer x.r,Vi x.h,Vi x.m,Vi x.s,Vq x.lo,Vq x.hi,.pointer x.p] 85 (0,0))
variable {W:aj} {q:Nat} {x:Lv}
theorem BxL.new (W:aj) (x:Lv):BxL (W.alloc (.cells #[.slice x.A x.n x.c,.pointer x.l,.pointer x.r,Vi x.h,Vi x.m,Vi x.s,Vq x.lo,Vq x.hi,.pointer x.p] 85)) W.heap.size x:=aT W _
theorem BxL.lt (h:BxL W q x):q<W.heap.size:=(aC.1 h).1
theorem BxL.ext {W':aj} (h:BxL W q x) (a:Ext W W'):BxL W' q x:=(aJ a q h.lt).trans h
theorem BxL.cells (h:BxL W q x):W.cell? ⟨q,0,none⟩=some (.slice x.A x.n x.c)/\W.cell? ⟨q,1,none⟩=some (.pointer x.l)/\W.cell? ⟨q,2,none⟩=some (.pointer x.r)/\W.cell? ⟨q,3,none⟩=some (Vi x.h)/\W.cell? ⟨q,4,none⟩=some (Vi x.m)/\W.cell? ⟨q,5,none⟩=some (Vi x.s)/\W.cell? ⟨q,6,none⟩=some (Vq x.lo)/\W.cell? ⟨q,7,none⟩=some (Vq x.hi)/\W.cell? ⟨q,8,none⟩=some (.pointer x.p):=
 ⟨ak W q 0 _ _ _ h,ak W q 1 _ _ _ h,ak W q 2 _ _ _ h,ak W q 3 _ _ _ h,ak W q 4 _ _ _ h,ak W q 5 _ _ _ h,ak W q 6 _ _ _ h,ak W q 7 _ _ _ h,ak W q 8 _ _ _ h⟩
theorem BxL.thaw (h:BxL W q x) (j:Nat):W.frozen? ⟨q,j,none⟩=false:=aK W q j _ _ h
abbrev vR (W:aj) (q:Nat) (y:Lv):aj:=(((((((((W.setCell ⟨q,0,none⟩ (.slice y.A y.n y.c)).setCell ⟨q,1,none⟩ (.pointer y.l)).setCell ⟨q,2,none⟩ (.pointer y.r)).setCell ⟨q,3,none⟩ (Vi y.h)).setCell ⟨q,4,none⟩ (Vi y.m)).setCell ⟨q,5,none⟩ (Vi y.s)).setCell ⟨q,6,none⟩ (Vq y.lo)).setCell ⟨q,7,none⟩ (Vq y.hi)).setCell ⟨q,8,none⟩ (.pointer y.p))
theorem BxL.put (h:BxL W q x) (y:Lv):BxL (vR W q y) q y:=by
 unfold BxL at h⊢;unfold vR;have X:(W.setCell ⟨q,0,none⟩ (.slice y.A y.n y.c)).heap[q]? =some (.cells #[.slice y.A y.n y.c,.pointer x.l,.pointer x.r,Vi x.h,Vi x.m,Vi x.s,Vq x.lo,Vq x.hi,.pointer x.p] 85 (0,0)):=aB W q 0 _ _ _ h;generalize W.setCell ⟨q,0,none⟩ (.slice y.A y.n y.c)=z at*;have U:(z.setCell ⟨q,1,none⟩ (.pointer y.l)).heap[q]? =some (.cells #[.slice y.A y.n y.c,.pointer y.l,.pointer x.r,Vi x.h,Vi x.m,Vi x.s,Vq x.lo,Vq x.hi,.pointer x.p] 85 (0,0)):=aB z q 1 _ _ _ X;generalize z.setCell ⟨q,1,none⟩ (.pointer y.l)=u at*;have Q:(u.setCell ⟨q,2,none⟩ (.pointer y.r)).heap[q]? =some (.cells #[.slice y.A y.n y.c,.pointer y.l,.pointer y.r,Vi x.h,Vi x.m,Vi x.s,Vq x.lo,Vq x.hi,.pointer x.p] 85 (0,0)):=aB u q 2 _ _ _ U;generalize u.setCell ⟨q,2,none⟩ (.pointer y.r)=j at*;have O:(j.setCell ⟨q,3,none⟩ (Vi y.h)).heap[q]? =some (.cells #[.slice y.A y.n y.c,.pointer y.l,.pointer y.r,Vi y.h,Vi x.m,Vi x.s,Vq x.lo,Vq x.hi,.pointer x.p] 85 (0,0)):=aB j q 3 _ _ _ Q;generalize j.setCell ⟨q,3,none⟩ (Vi y.h)=i at*;have N:(i.setCell ⟨q,4,none⟩ (Vi y.m)).heap[q]? =some (.cells #[.slice y.A y.n y.c,.pointer y.l,.pointer y.r,Vi y.h,Vi y.m,Vi x.s,Vq x.lo,Vq x.hi,.pointer x.p] 85 (0,0)):=aB i q 4 _ _ _ O;generalize i.setCell ⟨q,4,none⟩ (Vi y.m)=f at*;have M:(f.setCell ⟨q,5,none⟩ (Vi y.s)).heap[q]? =some (.cells #[.slice y.A y.n y.c,.pointer y.l,.pointer y.r,Vi y.h,Vi y.m,Vi y.s,Vq x.lo,Vq x.hi,.pointer x.p] 85 (0,0)):=aB f q 5 _ _ _ N;generalize f.setCell ⟨q,5,none⟩ (Vi y.s)=e at*;have K:(e.setCell ⟨q,6,none⟩ (Vq y.lo)).heap[q]? =some (.cells #[.slice y.A y.n y.c,.pointer y.l,.pointer y.r,Vi y.h,Vi y.m,Vi y.s,Vq y.lo,Vq x.hi,.pointer x.p] 85 (0,0)):=aB e q 6 _ _ _ M;generalize e.setCell ⟨q,6,none⟩ (Vq y.lo)=a at*;have J:(a.setCell ⟨q,7,none⟩ (Vq y.hi)).heap[q]? =some (.cells #[.slice y.A y.n y.c,.pointer y.l,.pointer y.r,Vi y.h,Vi y.m,Vi y.s,Vq y.lo,Vq y.hi,.pointer x.p] 85 (0,0)):=aB a q 7 _ _ _ K;generalize a.setCell ⟨q,7,none⟩ (Vq y.hi)=H at*;have I:(H.setCell ⟨q,8,none⟩ (.pointer y.p)).heap[q]? =some (.cells #[.slice y.A y.n y.c,.pointer y.l,.pointer y.r,Vi y.h,Vi y.m,Vi y.s,Vq y.lo,Vq y.hi,.pointer y.p] 85 (0,0)):=aB H q 8 _ _ _ J;exact I
theorem sH (W:aj) (q:Nat) (y:Lv):RX q W (vR W q y):=(((((((((RX.refl q W).set 0 _ (.inr rfl)).set 1 _ (.inr rfl)).set 2 _ (.inr rfl)).set 3 _ (.inr rfl)).set 4 _ (.inr rfl)).set 5 _ (.inr rfl)).set 6 _ (.inr rfl)).set 7 _ (.inr rfl)).set 8 _ (.inr rfl)
end
section
attribute [local go_sem] au
section
def yj (W:aj) (g:Nat) (x y:Int):Prop:=W.heap[g]? =some (.cells #[Vu x,Vu y] 55 (0,0))
variable {W:aj} {g:Nat} {x y:Int}
theorem yj.new (W:aj) (x y:Int):yj (W.alloc (.cells #[Vu x,Vu y] 55)) W.heap.size x y:=aT W _
theorem yj.ext {W':aj} (h:yj W g x y) (a:Ext W W'):yj W' g x y:=by
 unfold yj at h⊢;rw[aJ a g (aC.1 h).1];exact h
theorem yj.cells (h:yj W g x y):W.cell? ⟨g,0,none⟩=some (Vu x)/\W.cell? ⟨g,1,none⟩=some (Vu y)/\W.frozen? ⟨g,0,none⟩=false/\W.frozen? ⟨g,1,none⟩=false:=
 ⟨by rw[ak W g 0 _ _ _ h];rfl,by rw[ak W g 1 _ _ _ h];rfl,aK W g 0 _ _ h,aK W g 1 _ _ h⟩
theorem yj.set (h:yj W g x y) (u v:Int):yj ((W.setCell ⟨g,0,none⟩ (Vu u)).setCell ⟨g,1,none⟩ (Vu v)) g u v:=by
 have a:yj (W.setCell ⟨g,0,none⟩ (Vu u)) g u y:=aB W g 0 _ _ _ h;generalize W.setCell ⟨g,0,none⟩ (Vu u)=e at*;exact aB e g 1 _ _ _ a
theorem yj.other {q:Nat} (h:yj W g x y) (a:g≠q) (u v:aI):yj ((W.setCell ⟨q,0,none⟩ u).setCell ⟨q,1,none⟩ v) g x y:=by
 unfold yj at h⊢;rw[bA _ _ _ _ (λe=>a e),bA _ _ _ _ (λe=>a e)];exact h
def btA (l:List En):Nat->Nat
 |0=>0
 |k+1=>((om l)[k]?).getD 0+1
theorem aee {l:List En} {k p:Nat} (e:0<k) (a:(om l)[k-1]? =some p):xW l k=(uY l p,uY l (p+1))/\btA l k=p+1:=by
 cases k with
 |zero=>omega
 |succ j=>
  rw[Nat.add_sub_cancel] at a;show(uY l (((om l)[j]?).getD 0),uY l (((om l)[j]?).getD 0+1))=_/\((om l)[j]?).getD 0+1=_;rw[a];exact⟨rfl,rfl⟩
end
def GH (l:List En):List Int:=(l.filter λx=> !x.g).map En.ch
theorem Yz (l:List En):(GH l).length<=l.length:=by
 unfold GH;rw[gI];exact List.length_filter_le _ _
def textE (l:List En):ByteArray:=runesBytes (GH l)
end
theorem GY (w:aj) (g:Nat) (cb:Array aI) (n:Nat) (p:Nat->Bool) (eg:∀args w,(callFunc g args).run Tryz.prog w= .ok (.enter g args) w) (Y:n<=40000000)
  (M:∀W,Ext w W->∀i:Nat,i<n->aX Tryz.prog g (#[Vi i]++cb) W λe w'=>e= .returned (.bool (p i))/\Ext W w')
  (f:∀a b,a<=b->b<n->p a=true->p b=true):
  aX Tryz.prog 224 #[Vi n,.func (.func g) #[] cb] w λe w'=>∃r:Nat,e= .returned (Vi r)/\(r<=n/\(∀t,t<r->p t=false)/\(∀t,r<=t->t<n->p t=true))/\Ext w w':=by
 replace M:=ah M;replace f:=ah f;go_enter Tryz.func224,Tryz.ntmps224;go_wp2
 go_loopg [5,6] n (λX U Q wr=>∃(lo hi:Nat),U=Vi lo/\Q=Vi hi/\lo<=hi/\hi<=n/\hi-lo<=X/\Ext w wr/\
  RowKit.Hid ((∀t,t<lo->p t=false)/\(∀t,hi<=t->t<n->p t=true)))
 case atStart=>exact⟨0,n,rfl,rfl,Nat.zero_le _,aD _,ω,Ext.refl _,ah ⟨λt u=>absurd u (Nat.not_lt_zero _),λt h1 h2=>ω⟩⟩
 case round=>
  obtain⟨lo,hi,rfl,rfl,a0,hin,z,j,I⟩:=hrel;by_cases K:lo<hi
  ·obtain⟨m,hm⟩:∃m,(lo+hi)/2=m:=⟨_,rfl⟩
   have J:=ah (show((lo:Int)+(hi:Int))/2=(m:Int) by omega);have h1:lo<=m:=ω
   have h2:m<hi:=ω
   have hc:=ah (M.out _ j m ω);have N:(lo:Int)<(hi:Int):=ω
   have O:(hi:Int)<=40000000:=ω
   replace z:=ah z;replace j:=ah j;clear Y K hm
   go_wp2_with fail
   rw[J.out];refine hc.out.mono ?_;rintro e w' ⟨rfl,x2⟩;have Z:(m:Int)<=40000000:=ω
   clear N O;cases q:p m
   ·replace q:=ah q
    go_wp2
    go_roundg (hi-(m+1))
    case measure=>have:=z.out;omega
    case rel=>
     exact⟨m+1,hi,ι,rfl,ω,hin,aD _,j.out.trans x2,ah ⟨λt u=>(by
      cases h:p t with
      |false=>rfl
      |true=>have:=f.out t m ω ω h;rw[q.out] at this;cases this),I.out.2⟩⟩
   ·replace q:=ah q
    go_wp2
    go_roundg (m-lo)
    case measure=>have:=z.out;omega
    case rel=>
     exact⟨lo,m,rfl,rfl,ω,ω,aD _,j.out.trans x2,ah ⟨I.out.1,λt u H=>f.out m t u H q.out⟩⟩
  ·obtain rfl:hi=lo:=ω
   replace j:=ah j;go_wp2;go_ret;exact⟨_,rfl,⟨hin,I.out.1,I.out.2⟩,j.out⟩
section
attribute [local go_sem] au calm oK oG
variable {F G:Nat->Prop} {ad:I2->Nat} {v:aI}
theorem HV.ptr {W:aj} {t:HT} (h:HV F W ad t v):∃p,v= .pointer p:=by
 cases t with
 |nil=>exact⟨none,h⟩
 |node l a r=>obtain⟨b,e,_⟩:=h;exact⟨_,e⟩
theorem rQ (l r:HT) (a:I2) (u vr:aI) (w:aj) (I:HV G w ad l u) (H:HV G w ad r vr) (K:Up G w) (Z:(hin l).length+(hin r).length<=40000000):
  aX Tryz.prog 187 #[u,Vp (ad a),vr] w (NI G ad w (.node l a r)):=by
 have g1:=MZ l;have g2:=MZ r;have N:=ah (J4 l u w I);have M:=ah (J4 r vr w H);have f:=ah (show NI G ad w (.node l a r) (.returned (Vp w.heap.size)) (w.alloc (.cells #[Vp (ad a),u,vr,Vi ((max (hh l) (hh r)+1:Nat):Int)] 250)) by
  have q:Ext w (w.alloc (.cells #[Vp (ad a),u,vr,Vi ((max (hh l) (hh r)+1:Nat):Int)] 250)):=(Ext.refl w).alloc _;exact⟨_,rfl,⟨w.heap.size,rfl,K _ (aD _),u,vr,HC.new w _ _ _ _ _,I.ext q,H.ext q⟩,q⟩)
 obtain⟨W,rfl⟩:=I.ptr;obtain⟨U,rfl⟩:=H.ptr;clear I H K;generalize hh l=j at*;generalize hh r=i at*;generalize ad a=X at*;go_enter Tryz.func187,Tryz.ntmps187
 go_wp2_with fail
 refine N.out.mono ?_;rintro e Q ⟨rfl,rfl⟩
 go_wp2_with fail
 refine M.out.mono ?_;rintro e O ⟨rfl,rfl⟩;by_cases Y:j<i
 ·have J:(j:Int)<(i:Int):=ω
  have z:((max j i+1:Nat):Int)=(i:Int)+1:=ω
  rw[z] at f;clear z;go_wp2;go_ret
  first
   |exact f.out
   |(rw[show max (j:Int) (i:Int)=(i:Int) by omega];exact f.out)
 ·have J:¬(j:Int)<(i:Int):=ω
  have z:((max j i+1:Nat):Int)=(j:Int)+1:=ω
  rw[z] at f;clear z;go_wp2;go_ret
  first
   |exact f.out
   |(rw[show max (j:Int) (i:Int)=(j:Int) by omega];exact f.out)
theorem zJ {t:HT} {w:aj} {n:Nat} (h:HV F w ad t v) (e:hh t=n):aX Tryz.prog 229 #[v] w λe w'=>e= .returned (Vi (n:Int))/\w=w':=by rw[<-e];exact J4 t v w h
theorem HV.open {W:aj} {l r:HT} {a:I2} (h:HV F W ad (.node l a r) v):∃b f vr,v=Vp b/\W.cell? ⟨b,0,none⟩=some (Vp (ad a))/\W.cell? ⟨b,1,none⟩=some f/\W.cell? ⟨b,2,none⟩=some vr/\HV F W ad l f/\HV F W ad r vr:=by
 obtain⟨b,e,u,f,vr,i,q,j⟩:=h;exact⟨b,f,vr,e,i.c0,i.c1,i.c2,q,j⟩
theorem XK (x y r:HT) (a b:I2) (v vr:aI) (w:aj) (hl:HV G w ad (.node x b y) v) (hr:HV G w ad r vr) (N:Up G w) (hn:(hin (.node x b y)).length+(hin r).length<=20000000):
  aX Tryz.prog 230 #[v,Vp (ad a),vr] w (NI G ad w (Dy (.node x b y) a r)):=by
 obtain⟨ba,vx,vy,rfl,c0,c1,c2,U,Q⟩:=hl.open;rw[pV,ay,aH] at hn;have i:=ah (λ(n:Nat) (en:hh x=n)=>zJ (U.ext ((Ext.refl w).drew)) en);have f:=ah (λ(n:Nat) (en:hh y=n)=>zJ (Q.ext ((Ext.refl w).drew)) en);replace i:=ah (i.out _ rfl);replace f:=ah (f.out _ rfl);by_cases X:hh y<=hh x
 ·have hd:decide ((hh y:Int)<=(hh x:Int))=true:=by rw[decide_eq_true_eq];omega
  have j:Dy (.node x b y) a r= .node x b (.node y a r):=by simp only[Dy];rw[if_pos X]
  rw[j];clear j;have hj:=ah (λW (e:Ext w W)=>rQ y r a vy vr W (Q.ext e) (hr.ext e) (N.ext e) ω);have I:=ah (λW H (e:Ext w W) (O:HV G W ad (.node y a r) H)=>rQ x (.node y a r) b vx H W (U.ext e) O (N.ext e) (by rw[pV,ay,aH];omega));generalize hh y=ky at*;generalize hh x=kx at*;clear hl U Q hr N hn;generalize ad a=na at*;generalize ad b=nb at*;have x1:Ext w w.drew:=(Ext.refl w).drew;have Z:aX Tryz.prog 229 #[vx] w.drew λe w'=>e= .returned (Vi kx)/\w'=w.drew:=i.out.mono λe w' h=>⟨h.1,h.2.symm⟩
  have J2:aX Tryz.prog 229 #[vy] w.drew λe w'=>e= .returned (Vi ky)/\w'=w.drew:=f.out.mono λe w' h=>⟨h.1,h.2.symm⟩
  replace i:=ah Z;replace f:=ah J2;clear Z J2;have c0:=x1.keep c0;have c1:=x1.keep c1;have c2:=x1.keep c2;go_enter Tryz.func230,Tryz.ntmps230;go_wp2;refine dS 10 κ κ ?_;simp only[dU,eG,dN,dX];change kL Tryz.prog _ w.drew (λa'=>lK Tryz.prog _ _ _ a' w.drew) _ _;replace hj:=ah (λW (e:Ext (w.drew) W)=>hj.out W (x1.trans e));replace I:=ah (λW H (e:Ext (w.drew) W) O=>I.out W H (x1.trans e) O);generalize w.drew=w1 at*
  repeat still_step
  still_call i.out
  repeat still_step
  still_call f.out
  refine iq ?_;clear i f
  go_wp2_with fail
  refine qX 15 [rw1 14 λq W=>HV G W ad (.node y a r) q] ⟨λ_ _ _ _ h e=>HV.ext e h,trivial⟩ λρ _=>?_
  refine .s 14 (λW x y=>oz) ?_;refine .k 0 hj.out ?_;refine .fin λW Y ⟨a1,_⟩=>?_
  go_wp2_with fail
  refine(I.out W _ Y a1).mono ?_;rintro e w4 ⟨v4,rfl,o4,x4⟩;go_wp2;go_ret;exact⟨v4,rfl,o4,x1.trans (Y.trans x4)⟩
 ·obtain⟨u,c,z,rfl⟩:=OP (show 0<hh y by omega)
  obtain⟨bc,vu,vz,rfl,d0,d1,d2,hu,hz⟩:=Q.open;have hd:decide ((hh (.node u c z):Int)<=(hh x:Int))=false:=by rw[decide_eq_false_iff_not];omega
  have j:Dy (.node x b (.node u c z)) a r= .node (.node x b u) c (.node z a r):=by simp only[Dy];rw[if_neg X]
  rw[j];clear j;rw[pV,ay,aH] at hn;have M:=ah (λW (e:Ext w W)=>rQ x u b vx vu W (U.ext e) (hu.ext e) (N.ext e) ω);have J:=ah (λW (e:Ext w W)=>rQ z r a vz vr W (hz.ext e) (hr.ext e) (N.ext e) ω);have I:=ah (λW v8 H (e:Ext w W) (h8:HV G W ad (.node x b u) v8) (O:HV G W ad (.node z a r) H)=>rQ (.node x b u) (.node z a r) c v8 H W h8 O (N.ext e) (by rw[pV,pV,ay,aH,ay,aH];omega));generalize hh (.node u c z)=ku at*;generalize hh x=kx at*;clear hl U Q hr N hn hu hz;generalize ad a=na at*;generalize ad b=nb at*;generalize ad c=nc at*;have x1:Ext w w.drew:=(Ext.refl w).drew;have Z:aX Tryz.prog 229 #[vx] w.drew λe w'=>e= .returned (Vi kx)/\w'=w.drew:=i.out.mono λe w' h=>⟨h.1,h.2.symm⟩
  have J2:aX Tryz.prog 229 #[.pointer (some ⟨bc,0,none⟩)] w.drew λe w'=>e= .returned (Vi ku)/\w'=w.drew:=f.out.mono λe w' h=>⟨h.1,h.2.symm⟩
  replace i:=ah Z;replace f:=ah J2;clear Z J2;have c0:=x1.keep c0;have c1:=x1.keep c1;have c2:=x1.keep c2;have d0:=x1.keep d0;have d1:=x1.keep d1;have d2:=x1.keep d2;go_enter Tryz.func230,Tryz.ntmps230;go_wp2;refine dS 10 κ κ ?_;simp only[dU,eG,dN,dX];change kL Tryz.prog _ w.drew (λa'=>lK Tryz.prog _ _ _ a' w.drew) _ _;replace M:=ah (λW (e:Ext (w.drew) W)=>M.out W (x1.trans e));replace J:=ah (λW (e:Ext (w.drew) W)=>J.out W (x1.trans e));replace I:=ah (λW v8 H (e:Ext (w.drew) W) h8 O=>I.out W v8 H (x1.trans e) h8 O);generalize w.drew=w1 at*
  repeat still_step
  still_call i.out
  repeat still_step
  still_call f.out
  refine iq ?_;clear i f
  go_wp2_with fail
  refine qX 24 [rw1 12 λq W=>HV G W ad (.node x b u) q,rw1 23 λq W=>HV G W ad (.node z a r) q] ⟨λ_ _ _ _ h e=>HV.ext e h,λ_ _ _ _ h e=>HV.ext e h,trivial⟩ λρ _=>?_
  refine .s 12 (λW x y=>oz) ?_;refine .k 0 M.out ?_;refine .s 10 (λW x y=>oz) ?_;refine .k 1 J.out ?_;refine .fin λW Y ⟨a2,a0,_⟩=>?_
  go_wp2_with fail
  refine(I.out W _ _ Y a2 a0).mono ?_;rintro e w4 ⟨v4,rfl,o4,x4⟩;go_wp2;go_ret;exact⟨v4,rfl,o4,x1.trans (Y.trans x4)⟩
theorem XH (x y r:HT) (a b:I2) (v vr:aI) (w:aj) (hl:HV G w ad (.node x b y) v) (hr:HV G w ad r vr) (N:Up G w) (hn:(hin (.node x b y)).length+(hin r).length<=20000000):
  aX Tryz.prog 231 #[vr,Vp (ad a),v] w (NI G ad w (Dx r a (.node x b y))):=by
 obtain⟨ba,vx,vy,rfl,c0,c1,c2,U,Q⟩:=hl.open;rw[pV,ay,aH] at hn;have i:=ah (λ(n:Nat) (en:hh x=n)=>zJ (U.ext ((Ext.refl w).drew)) en);have f:=ah (λ(n:Nat) (en:hh y=n)=>zJ (Q.ext ((Ext.refl w).drew)) en);replace i:=ah (i.out _ rfl);replace f:=ah (f.out _ rfl);by_cases X:hh x<=hh y
 ·have hd:decide ((hh x:Int)<=(hh y:Int))=true:=by rw[decide_eq_true_eq];omega
  have j:Dx r a (.node x b y)= .node (.node r a x) b y:=by simp only[Dx];rw[if_pos X]
  rw[j];clear j;have hj:=ah (λW (e:Ext w W)=>rQ r x a vr vx W (hr.ext e) (U.ext e) (N.ext e) ω);have I:=ah (λW H (e:Ext w W) (O:HV G W ad (.node r a x) H)=>rQ (.node r a x) y b H vy W O (Q.ext e) (N.ext e) (by rw[pV,ay,aH];omega));generalize hh y=ky at*;generalize hh x=kx at*;clear hl U Q hr N hn;generalize ad a=na at*;generalize ad b=nb at*;have x1:Ext w w.drew:=(Ext.refl w).drew;have Z:aX Tryz.prog 229 #[vx] w.drew λe w'=>e= .returned (Vi kx)/\w'=w.drew:=i.out.mono λe w' h=>⟨h.1,h.2.symm⟩
  have J2:aX Tryz.prog 229 #[vy] w.drew λe w'=>e= .returned (Vi ky)/\w'=w.drew:=f.out.mono λe w' h=>⟨h.1,h.2.symm⟩
  replace i:=ah Z;replace f:=ah J2;clear Z J2;have c0:=x1.keep c0;have c1:=x1.keep c1;have c2:=x1.keep c2;go_enter Tryz.func231,Tryz.ntmps231;go_wp2;refine dS 10 κ κ ?_;simp only[dU,eG,dN,dX];change kL Tryz.prog _ w.drew (λa'=>lK Tryz.prog _ _ _ a' w.drew) _ _;replace hj:=ah (λW (e:Ext (w.drew) W)=>hj.out W (x1.trans e));replace I:=ah (λW H (e:Ext (w.drew) W) O=>I.out W H (x1.trans e) O);generalize w.drew=w1 at*
  repeat still_step
  still_call f.out
  repeat still_step
  still_call i.out
  refine iq ?_;clear i f
  go_wp2_with fail
  refine qX 15 [rw1 6 λq W=>HV G W ad (.node r a x) q] ⟨λ_ _ _ _ h e=>HV.ext e h,trivial⟩ λρ _=>?_
  refine .s 6 (λW x y=>oz) ?_;refine .k 0 hj.out ?_;refine .s 8 (λW x y=>oz) ?_;refine .fin λW Y ⟨h6,_⟩=>?_
  go_wp2_with fail
  refine(I.out W _ Y h6).mono ?_;rintro e w4 ⟨v4,rfl,o4,x4⟩;go_wp2;go_ret;exact⟨v4,rfl,o4,x1.trans (Y.trans x4)⟩
 ·obtain⟨u,c,z,rfl⟩:=OP (show 0<hh x by omega)
  obtain⟨bc,vu,vz,rfl,d0,d1,d2,hu,hz⟩:=U.open;have hd:decide ((hh (.node u c z):Int)<=(hh y:Int))=false:=by rw[decide_eq_false_iff_not];omega
  have j:Dx r a (.node (.node u c z) b y)= .node (.node r a u) c (.node z b y):=by simp only[Dx];rw[if_neg X]
  rw[j];clear j;rw[pV,ay,aH] at hn;have M:=ah (λW (e:Ext w W)=>rQ r u a vr vu W (hr.ext e) (hu.ext e) (N.ext e) ω);have J:=ah (λW (e:Ext w W)=>rQ z y b vz vy W (hz.ext e) (Q.ext e) (N.ext e) ω);have I:=ah (λW v8 H (e:Ext w W) (h8:HV G W ad (.node r a u) v8) (O:HV G W ad (.node z b y) H)=>rQ (.node r a u) (.node z b y) c v8 H W h8 O (N.ext e) (by rw[pV,pV,ay,aH,ay,aH];omega));generalize hh (.node u c z)=ku at*;generalize hh y=kx at*;clear hl U Q hr N hn hu hz;generalize ad a=na at*;generalize ad b=nb at*;generalize ad c=nc at*;have x1:Ext w w.drew:=(Ext.refl w).drew;have Z:aX Tryz.prog 229 #[.pointer (some ⟨bc,0,none⟩)] w.drew λe w'=>e= .returned (Vi ku)/\w'=w.drew:=i.out.mono λe w' h=>⟨h.1,h.2.symm⟩
  have J2:aX Tryz.prog 229 #[vy] w.drew λe w'=>e= .returned (Vi kx)/\w'=w.drew:=f.out.mono λe w' h=>⟨h.1,h.2.symm⟩
  replace i:=ah Z;replace f:=ah J2;clear Z J2;have c0:=x1.keep c0;have c1:=x1.keep c1;have c2:=x1.keep c2;have d0:=x1.keep d0;have d1:=x1.keep d1;have d2:=x1.keep d2;go_enter Tryz.func231,Tryz.ntmps231;go_wp2;refine dS 10 κ κ ?_;simp only[dU,eG,dN,dX];change kL Tryz.prog _ w.drew (λa'=>lK Tryz.prog _ _ _ a' w.drew) _ _;replace M:=ah (λW (e:Ext (w.drew) W)=>M.out W (x1.trans e));replace J:=ah (λW (e:Ext (w.drew) W)=>J.out W (x1.trans e));replace I:=ah (λW v8 H (e:Ext (w.drew) W) h8 O=>I.out W v8 H (x1.trans e) h8 O);generalize w.drew=w1 at*
  repeat still_step
  still_call f.out
  repeat still_step
  still_call i.out
  refine iq ?_;clear i f
  go_wp2_with fail
  refine qX 24 [rw1 6 λq W=>HV G W ad (.node r a u) q,rw1 23 λq W=>HV G W ad (.node z b y) q] ⟨λ_ _ _ _ h e=>HV.ext e h,λ_ _ _ _ h e=>HV.ext e h,trivial⟩ λρ _=>?_
  refine .s 6 (λW x y=>oz) ?_;refine .k 0 M.out ?_;refine .s 16 (λW x y=>oz) ?_;refine .k 1 J.out ?_;refine .fin λW Y ⟨h6,a0,_⟩=>?_
  go_wp2_with fail
  refine(I.out W _ _ Y h6 a0).mono ?_;rintro e w4 ⟨v4,rfl,o4,x4⟩;go_wp2;go_ret;exact⟨v4,rfl,o4,x1.trans (Y.trans x4)⟩
theorem Wq {p:Prop} (h:p:=by
 generalize ad a=na at*;go_enter Tryz.func188,Tryz.ntmps188
 go_wp2_with fail
 refine h1.out.mono ?_;rintro e w1 ⟨rfl,rfl⟩
 go_wp2_with fail
 refine h2.out.mono ?_;rintro e w2 ⟨rfl,rfl⟩
 go_wp2_with fail
 refine h2.out.mono ?_;rintro e w3 ⟨rfl,rfl⟩
 go_wp2_with fail
 refine h1.out.mono ?_;rintro e w4 ⟨rfl,rfl⟩
 go_wp2_with fail
 refine hc.out.mono ?_;rintro e w5 ⟨v,rfl,h5,x5⟩;go_wp2;go_ret;exact⟨v,rfl,h5,x5⟩):p:=h
theorem Sm (l r:HT) (a:I2) (u vr:aI) (w:aj) (j:HV G w ad l u) (i:HV G w ad r vr) (q:Up G w) (M:(hin l).length+(hin r).length<=16000000):
  aX Tryz.prog 188 #[u,Vp (ad a),vr] w (NI G ad w (Fp l a r)):=by
 have O:=MZ l;have N:=MZ r;have h1:=ah (λn (e:hh l=n)=>zJ j e);have h2:=ah (λn (e:hh r=n)=>zJ i e);by_cases c1:hh r+1<hh l
 ·have f:Fp l a r=Dy l a r:=by unfold Fp;rw[if_pos c1]
  rw[f];obtain⟨x,b,y,rfl⟩:=OP (show 0<hh l by omega);have hc:=ah (XK x y r a b u vr w j i q ω);have J:decide (((hh r:Int)+1)<(hh (.node x b y):Int))=true:=by rw[decide_eq_true_eq];omega
  replace h1:=ah (h1.out _ rfl);replace h2:=ah (h2.out _ rfl);clear f j i q;generalize hh (.node x b y)=I at*;generalize hh r=H at*;generalize Dy (.node x b y) a r=T at*;generalize ad a=na at*;go_enter Tryz.func188,Tryz.ntmps188
  go_wp2_with fail
  refine h1.out.mono ?_;rintro e w1 ⟨rfl,rfl⟩
  go_wp2_with fail
  refine h2.out.mono ?_;rintro e w2 ⟨rfl,rfl⟩
  go_wp2_with fail
  refine hc.out.mono ?_;rintro e w3 ⟨v,rfl,K,x3⟩;go_wp2;go_ret;exact⟨v,rfl,K,x3⟩
 ·have J:decide (((hh r:Int)+1)<(hh l:Int))=false:=by rw[decide_eq_false_iff_not];omega
  by_cases c2:hh l+1<hh r
  ·have f:Fp l a r=Dx l a r:=by unfold Fp;rw[if_neg c1,if_pos c2]
   rw[f];obtain⟨x,b,y,rfl⟩:=OP (show 0<hh r by omega);have hc:=ah (XH x y l a b vr u w i j q ω);have z:decide (((hh l:Int)+1)<(hh (.node x b y):Int))=true:=by rw[decide_eq_true_eq];omega
   replace h1:=ah (h1.out _ rfl);replace h2:=ah (h2.out _ rfl);clear f j i q;generalize hh (.node x b y)=I at*;generalize hh l=H at*;generalize Dx l a (.node x b y)=T at*;exact Wq
  ·have z:decide (((hh l:Int)+1)<(hh r:Int))=false:=by rw[decide_eq_false_iff_not];omega
   have f:Fp l a r= .node l a r:=by unfold Fp;rw[if_neg c1,if_neg c2]
   rw[f];have hc:=ah (rQ l r a u vr w j i q ω);replace h1:=ah (h1.out _ rfl);replace h2:=ah (h2.out _ rfl);clear f j i q;generalize hh r=I at*;generalize hh l=H at*;generalize HT.node l a r=T at*;exact Wq
theorem YZ (a:I2):∀(t:HT) (v:aI) (w:aj),HV G w ad t v->KX w ad (hin t)->KX w ad [a]->a∉hin t->Up G w->(hin t).length<=12000000->
  aX Tryz.prog 157 #[v,Vp (ad a)] w (NI G ad w (wR t a)):=by
 intro t
 induction t with
 |nil=>
  intro v w hv _ _ _ U _;have hv:v=vK:=hv;subst hv;have hc:=ah (rQ (ad:=ad) .nil .nil a vK vK w rfl rfl U (by simp[hin]));rw[show wR .nil a= .node .nil a .nil from rfl];generalize HT.node HT.nil a HT.nil=T at*;generalize ad a=na at*;go_enter Tryz.func157,Tryz.ntmps157
  go_wp2_with fail
  refine hc.out.mono ?_;rintro e w5 ⟨v,rfl,h5,x5⟩;go_wp2;go_ret;exact⟨v,rfl,h5,x5⟩
 |node x b y Y X=>
  intro v w hv hI hA hn U hb;obtain⟨ba,vx,vy,rfl,c0,c1,c2,hx,hy⟩:=hv.open;have a0:=hI b (bG _ (aW ..));have a3:=hA a (List.mem_singleton.2 rfl);have u:a≠b:=λe=>hn (bG _ (by rw[e];exact aW ..))
  rw[pV] at hn hI;rw[pV,ay,aH] at hb;have l1:=BQ x a;have l2:=BQ y a;by_cases Z:ltI a b=true
  ·have i:wR (.node x b y) a=Fp (wR x a) b y:=by rw[wR,if_pos Z]
   rw[i];have I:rE a.1 a.2 b.1 b.2= -1:=by
        rcases aeb a.1 a.2 b.1 b.2 with⟨h,_⟩|⟨_,h1,h2⟩|⟨_,h⟩
        ·exact h
        ·exact absurd (jQ h1 h2) u
        ·have:=rP Z;rw[show ltI b a=true from h] at this;cases this
   have H:=ah (λW (e:Ext w W)=>Y vx W (hx.ext e) (λq hq=>(hI.ext e) q (dG _ hq)) (hA.ext e) (λe=>hn (dG _ e)) (U.ext e) ω);have z:=ah (λW j (e:Ext w W) (J:HV G W ad (wR x a) j)=>Sm (wR x a) y b j vy W J (hy.ext e) (U.ext e) ω);have f:=ah (λW=>vG I W);have x1:Ext w w.drew:=(Ext.refl w).drew;have c0:=x1.keep c0;have c1:=x1.keep c1;have c2:=x1.keep c2;obtain⟨Q,O⟩:=a0;obtain⟨N,M⟩:=a3;have Q:=x1.keep Q;have O:=x1.keep O;have N:=x1.keep N;have M:=x1.keep M;clear hx hy hI hA hn U hb l1 l2 Y X I Z u i hv;generalize ad a=na at*;generalize ad b=nb at*;obtain⟨a1,a2⟩:=a;obtain⟨b1,b2⟩:=b;simp only at Q O N M f;go_enter Tryz.func157,Tryz.ntmps157;go_wp2;refine dS 13 κ κ ?_;simp only[dU,eG,dN,dX];change kL Tryz.prog _ w.drew (λa'=>lK Tryz.prog _ _ _ a' w.drew) _ _;replace H:=ah (λW (e:Ext w.drew W)=>H.out W (x1.trans e));replace z:=ah (λW j (e:Ext w.drew W) J=>z.out W j (x1.trans e) J);generalize w.drew=w2 at*
   repeat still_step
   refine iq ?_
   go_wp2_with fail
   refine(f.out _).mono ?_;rintro e w1 ⟨rfl,x3⟩;replace c0:=x3.keep c0;replace c1:=x3.keep c1;replace c2:=x3.keep c2;replace x1:=x1.trans x3;replace H:=ah (λW (e:Ext w1 W)=>H.out W (x3.trans e));replace z:=ah (λW j (e:Ext w1 W) J=>z.out W j (x3.trans e) J);clear Q O N M f x3
   go_wp2_with fail
   refine qX 14 [rw1 5 λq W=>HV G W ad (wR x (a1,a2)) q] ⟨λ_ _ _ _ h e=>HV.ext e h,trivial⟩ λρ _=>?_
   refine .s 5 (λW x y=>oz) ?_;refine .k 0 H.out ?_;refine .s 8 (λW x y=>oz) ?_;refine .fin λW hR ⟨h5,_⟩=>?_
   go_wp2_with fail
   refine(z.out W _ hR h5).mono ?_;rintro e w4 ⟨v4,rfl,o4,x4⟩;go_wp2;go_ret;exact⟨v4,rfl,o4,x1.trans (hR.trans x4)⟩
  ·have i:wR (.node x b y) a=Fp x b (wR y a):=by rw[wR,if_neg Z]
   rw[i];have a4:=(zF u).resolve_left Z;have I:rE a.1 a.2 b.1 b.2=1:=by
        rcases aeb a.1 a.2 b.1 b.2 with⟨_,h⟩|⟨_,h1,h2⟩|⟨h,_⟩
        ·exact absurd h Z
        ·exact absurd (jQ h1 h2) u
        ·exact h
   have H:=ah (λW (e:Ext w W)=>X vy W (hy.ext e) (λq hq=>(hI.ext e) q (bG _ (aU _ hq))) (hA.ext e) (λe=>hn (bG _ (aU _ e))) (U.ext e) ω);have z:=ah (λW j (e:Ext w W) (J:HV G W ad (wR y a) j)=>Sm x (wR y a) b vx j W (hx.ext e) J (U.ext e) ω);have f:=ah (λW=>vG I W);have x1:Ext w w.drew:=(Ext.refl w).drew;have c0:=x1.keep c0;have c1:=x1.keep c1;have c2:=x1.keep c2;obtain⟨Q,O⟩:=a0;obtain⟨N,M⟩:=a3;have Q:=x1.keep Q;have O:=x1.keep O;have N:=x1.keep N;have M:=x1.keep M;clear hx hy hI hA hn U hb l1 l2 Y X I Z u i hv a4;generalize ad a=na at*;generalize ad b=nb at*;obtain⟨a1,a2⟩:=a;obtain⟨b1,b2⟩:=b;simp only at Q O N M f;go_enter Tryz.func157,Tryz.ntmps157;go_wp2;refine dS 13 κ κ ?_;simp only[dU,eG,dN,dX];change kL Tryz.prog _ w.drew (λa'=>lK Tryz.prog _ _ _ a' w.drew) _ _;replace H:=ah (λW (e:Ext w.drew W)=>H.out W (x1.trans e));replace z:=ah (λW j (e:Ext w.drew W) J=>z.out W j (x1.trans e) J);generalize w.drew=w2 at*
   repeat still_step
   refine iq ?_
   go_wp2_with fail
   refine(f.out _).mono ?_;rintro e w1 ⟨rfl,x3⟩;replace c0:=x3.keep c0;replace c1:=x3.keep c1;replace c2:=x3.keep c2;replace x1:=x1.trans x3;replace H:=ah (λW (e:Ext w1 W)=>H.out W (x3.trans e));replace z:=ah (λW j (e:Ext w1 W) J=>z.out W j (x3.trans e) J);clear Q O N M f x3
   go_wp2_with fail
   refine qX 14 [rw1 13 λq W=>HV G W ad (wR y (a1,a2)) q] ⟨λ_ _ _ _ h e=>HV.ext e h,trivial⟩ λρ _=>?_
   refine .s 13 (λW x y=>oz) ?_;refine .k 0 H.out ?_;refine .fin λW hR ⟨a5,_⟩=>?_
   go_wp2_with fail
   refine(z.out W _ hR a5).mono ?_;rintro e w4 ⟨v4,rfl,o4,x4⟩;go_wp2;go_ret;exact⟨v4,rfl,o4,x1.trans (hR.trans x4)⟩
end
def pkN (z:Int) (k:Nat):Nat:=(if jv z k<0 then jv z k+k else jv z k).toNat
theorem afp {z:Int} {k:Nat} (a:0<k):pkN z k<k:=by
 have f:jv z k<k:=Int.tmod_lt_of_pos z ω;have e: -(k:Int)<jv z k:=Int.lt_tmod_of_pos z ω;unfold pkN
 split <;> omega
theorem Xm (n:Int) (k:Nat) (w:aj) (q:0<k) (j:k<=3000):aX Tryz.prog 9 #[Vi n,Vi k] w λe w'=>e= .returned (Vi ((pkN n k:Nat):Int))/\w=w':=by
 have H:jv n k<k:=Int.tmod_lt_of_pos n ω;have z: -(k:Int)<jv n k:=Int.lt_tmod_of_pos n ω;have u:((k:Int)==0)=false:=by rw[beq_eq_false_iff_ne];omega
 obtain⟨R,i⟩:∃R,((pkN n k:Nat):Int)=R:=⟨_,rfl⟩;rw[i];unfold pkN at i;by_cases a:jv n k<0
 ·rw[if_pos a] at i
  have f:=ah (show jv n k+k=R by omega);clear i;go_enter Tryz.func9,Tryz.ntmps9;go_wp2;go_ret;exact⟨qW f.out,rfl⟩
 ·rw[if_neg a] at i
  have f:=ah (show jv n k=R by omega);clear i;go_enter Tryz.func9,Tryz.ntmps9;go_wp2;go_ret;exact⟨qW f.out,rfl⟩
end Go.Proofs.YtejbpijamdlgcaaGreatDoor

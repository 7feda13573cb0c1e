/-
  Lemmas of this seat; no claim.
-/
import Derived.Test.YtncfhbpejchbfaaGreatDoorPL1
set_option linter.unusedVariables false
set_option linter.unusedSimpArgs false
set_option maxRecDepth 100000
set_option maxHeartbeats 32000000
open Bool renaming and_eq_true→aC,or_eq_true→cE
open Go renaming Value→au,World→ae,cell_of_row→aj,frozen_of_row→aw
open Go.Lib renaming hid→ac
open Go.RowKit.Below renaming block→av
open Go.World renaming cell?_alloc_some→ah
open List renaming length_append→ag,mem_append→aA,mem_singleton→aN
open Nat renaming le_trans→az
open Option.some renaming injEq→aL
open Go.Proofs.Tryz
open Go.Proofs.Tryz renaming prog→pg
namespace Go.Proofs.YtncfhbpejchbfaaGreatDoor
open Go.ChangeShapes Go.WideShapes Go.ChangeAt Go.RowKit Go.Sort
section
attribute [local go_sem] ah
def Nj (ad:I2->Nat) (a:I2) (q:Nat) (b:I2):Nat:=if b=a then q else ad b
variable {ad:I2->Nat}
theorem yZ (ad:I2->Nat) (a:I2) (q:Nat):Nj ad a q a=q:=by unfold Nj;rw[if_pos rfl]
theorem qI {a b:I2} {q:Nat} (h:b≠a):Nj ad a q b=ad b:=by unfold Nj;rw[if_neg h]
theorem NdL.snoc {F G:Nat->Prop} {W:ae} {L:List It} (h:NdL F W ad L) {x:It} (Y:kC L x=true) {q:Nat} (hq:¬F q) (hG:∀b,F b->G b) (a0:G q) {far:I2}
  (hc:NC W q x (vAd ad (hgP L x).on) (hgP L x).right (((pth L (hgP L x).on).length+1:Nat):Int) (vAd ad far)) (zF:RtL L far/\∃r,pth L (hgP L x).on=pth L far++r):NdL G W (Nj ad (iid x) q) (L++[x]):=by
 have O:=(jG Y).2.1;have hk:jy (L++[x])=true:=by rw[jZ,h.kn,Y];rfl
 have j:∀a,jw L a=true->a≠iid x:=λa i e=>by rw[e,O] at i;cases i
 have f:∀a,RtL L a->RtL (L++[x]) a/\pth (L++[x]) a=pth L a/\vAd (Nj ad (iid x) q) a=vAd ad a:=by
  rintro a (rfl|i)
  ·exact⟨.inl rfl,by rw[kF (kH hk 0),kF (kH h.kn 0)],rfl⟩
  ·refine⟨.inr (by rw[lD,i];rfl),oP i,?_⟩
   unfold vAd;rw[qI (j a i)]
 have I:pth (L++[x]) (iid x)=pth L (hgP L x).on++[((hgP L x).right,iid x)]:=by rw[qw O,pI]
 refine⟨hk,λz H=>?_,λa b i hb e=>?_⟩
 ·rcases aA.1 H with H|H
  ·have N:=jO.2 ⟨z,H,rfl⟩
   obtain⟨h0,on,U,r,w,h1,h2,h3,h4,h5,h6⟩:=h.at' z H;rw[qI (j _ N),(f _ (.inr N)).2.1];refine⟨hG _ h0,on,U,r,w,(f _ h1).1,(f _ h2).1,by rw[(f _ h1).2.1];exact h3,by rw[(f _ h2).2.1];exact h4,h5,?_⟩;rw[(f _ h1).2.2,(f _ h2).2.2];exact h6
  ·rw[aN.1 H]
   have J:=OZ Y;obtain⟨K,r,Z⟩:=zF;rw[yZ];refine⟨a0,(hgP L x).on,far,(hgP L x).right,r++[((hgP L x).right,iid x)],(f _ J).1,(f _ K).1,by rw[(f _ J).2.1];exact I,by rw[(f _ K).2.1,I,Z,List.append_assoc],ι,?_⟩;rw[(f _ J).2.2,(f _ K).2.2,I,ag,List.length_singleton];exact hc
 ·rw[lD] at i hb
  have Q:∀a,jw L a=true->Nj ad (iid x) q a≠q:=λa i e=>by
   rw[qI (j a i)] at e;obtain⟨z,H,rfl⟩:=jO.1 i;exact hq (e▸(h.at' z H).1)
  by_cases ea:iid x=a
  ·by_cases X:iid x=b
   ·rw[<-ea,<-X]
   ·have u:jw L b=true:=by simpa[X] using hb
    rw[<-ea,yZ] at e;exact absurd e.symm (Q b u)
  ·have M:jw L a=true:=by simpa[ea] using i
   by_cases X:iid x=b
   ·rw[<-X,yZ] at e
    exact absurd e (Q a M)
   ·have u:jw L b=true:=by simpa[X] using hb
    rw[qI (j a M),qI (j b u)] at e;exact h.inj a b M u e
theorem LC.placeOf {F:Nat->Prop} {W:ae} {y:Lv} {L:List It} {G:List I2} {t:HT} (h:LC F W y L G t ad) (O:L.length<=360000) (x:It) (I:kC L x=true) (H:Nat) (d:Int) (N:au) (M:NC W H x (vAd ad (hgP L x).on) (hgP L x).right d N):
  Calls pg 116 #[lsv y,Vp H] W (PlS L x W):=by
 have x0:Ext W (W.alloc (kS y)):=(Ext.refl W).alloc _;have Q:=BxL.new W y;have c8:=x0.keep M.cells.c8;obtain⟨b0,b1,b2,b3,b4,Z,Y,X,U⟩:=Q.cells;obtain⟨z,f⟩:∃z,(hgP L x).right=z:=⟨_,rfl⟩;rw[f] at c8;have a:∀u,Ext W u->Calls pg (if z then 148 else 149) #[lsv y,Vp H] u (PlS L x u):=by
  intro u j;cases z with
  |true=>exact(h.ext j).Qw O x I f H d N _ (M.ext j)
  |false=>
   refine(h.ext j).Vx O x I f H d N _ (M.ext j) ?_;rcases OZ I with e|e
   ·obtain⟨_,_,a0,J⟩:=jG I
    by_cases i:x.rc=0
    ·rw[yH i] at f
     split at f <;> cases f
    ·by_cases K:x.lc=0
     ·rw[Mc i K];exact J.resolve_left i
     ·rw[DT i K] at f⊢
      split at f
      ·rename_i hb
       rw[if_pos hb];exact J.resolve_left i
      ·cases f
   ·exact e
 replace a:=ac a;clear h M I f Q;have a1:True:=trivial;go_enter func116,ntmps116;cases z with
 |true=>
  go_wp2_with fail
  refine(a.out _ x0).mono ?_;rintro e u ⟨p,rfl,q,x1⟩;have j:=ac (x0.trans x1);replace q:=ac q;clear a x0 x1 b0 b1 b2 b3 b4 Z Y X U c8;go_wp2;go_ret;exact⟨p,rfl,q.out,j.out⟩
 |false=>
  go_wp2_with fail
  refine(a.out _ x0).mono ?_;rintro e u ⟨p,rfl,q,x1⟩;have j:=ac (x0.trans x1);replace q:=ac q;clear a x0 x1 b0 b1 b2 b3 b4 Z Y X U c8;go_wp2;go_ret;exact⟨p,rfl,q.out,j.out⟩
end
theorem PV.qQ {F:Nat->Prop} {W:ae} {q:Nat} {T:TypeId} (u:W.heap[q]? =some (.cells #[.slice none 0 0,.pointer none,.pointer none,Vi 0,Vi 0,Vi 0,Vq 0,Vq 0,.pointer none] T (0,0))):
  ∀{t:Tr} {c l r:au},(t= .leaf []\/okR t)->PV F W t c l r->PV (λb=>F b/\b≠q) W t c l r
 | .leaf l,c,lf,rt,_,⟨z,M,A,cap,h3,h4,h5,h6⟩=>⟨z,M,A,cap,h3,h4,h5,λN=>by
   obtain⟨k,o,e,hf⟩:=h6 N;refine⟨k,o,e,hf,λhk=>?_⟩;subst hk;subst e;obtain⟨b',o',x,e,K,hc⟩:=h5.at (k:=0) N;injection e with e;injection e with e1 e2;subst e1;subst e2;have f:=hc.c0;have h8:W.cell? ⟨k,o+0*4,none⟩=(#[.slice none 0 0,.pointer none,.pointer none,Vi 0,Vi 0,Vi 0,Vq 0,Vq 0,.pointer none]:Array au)[o+0*4]? :=by
        simp only[World.cell?,u];rfl
   rw[h8] at f;generalize o+0*4=m at f
   match m,f with
   |0,f=>simp at f
   |1,f=>simp at f
   |2,f=>simp at f
   |3,f=>simp at f
   |4,f=>simp at f
   |5,f=>simp at f
   |6,f=>simp at f
   |7,f=>simp at f
   |8,f=>simp at f
   |m+9,f=>simp at f⟩
 | .node a b,c,lf,rt,i,hv=>by
   have i:okR a/\okR b:=by
        rcases i with h|h
        ·cases h
        ·exact h
   obtain⟨rfl,p,s,rfl,rfl,⟨hp,ca,la,X,I,Q⟩,Z,cb,lb,U,H,O⟩:=hv;have Y:=aj W q 4 _ _ _ u;have j:∀{p:Nat} {t:Tr} {c l r:au} {hh J lo hi:Int},okR t->PtC W p c l r hh (cnt t) J lo hi->p≠q:=by
        intro p t c l r hh J lo hi i K e;subst e;have z:=K.c4;rw[Y] at z;have M:=Lr i;simp at z;omega
   exact⟨rfl,p,s,rfl,rfl,⟨⟨hp,j i.1 I⟩,ca,la,X,I,PV.qQ u (.inr i.1) Q⟩,⟨Z,j i.2 H⟩,cb,lb,U,H,PV.qQ u (.inr i.2) O⟩
theorem Ix.qQ {F:Nat->Prop} {W:ae} {v:au} {l:List En} {q:Nat} {T:TypeId} (h:Ix F W v l) (f:W.heap[q]? =some (.cells #[.slice none 0 0,.pointer none,.pointer none,Vi 0,Vi 0,Vi 0,Vq 0,Vq 0,.pointer none] T (0,0))):Ix (λb=>F b/\b≠q) W v l:=by
 obtain⟨t,x,M,K,e,J,I,H,z,u,j,a⟩:=h;exact⟨t,x,M,K,e,J,I,H,z,u,j.qQ f e,λb i=>a b i.1⟩
theorem HV.qQ {F:Nat->Prop} {W:ae} {ad:I2->Nat} {q:Nat} (f:BxL W q zLv):∀{t:HT} {v:au},HV F W ad t v->HV (λb=>F b/\b≠q) W ad t v
 | .nil,v,h=>h
 | .node l a r,v,⟨b,e,hf,vl,vr,hc,hl,hr⟩=>⟨b,e,⟨hf,λu=>by
   subst u;have i:=hc.c3;rw[f.cells.2.2.2.1] at i;simp only[aL,Value.int.injEq,true_and] at i;have j:(0:Int)=((hh (.node l a r):Nat):Int):=i;rw[L8] at j;omega⟩,vl,vr,hc,HV.qQ f hl,HV.qQ f hr⟩
theorem NdL.qQ {F:Nat->Prop} {W:ae} {ad:I2->Nat} {L:List It} {q:Nat} (i:BxL W q zLv) (h:NdL F W ad L):NdL (λb=>F b/\b≠q) W ad L:=
 ⟨h.kn,λx hm=>by
  obtain⟨J,on,far,r,w,I,H,z,u,j,f⟩:=h.at' x hm;refine⟨⟨J,λe=>?_⟩,on,far,r,w,I,H,z,u,j,f⟩;have a:=f.cells.c0;rw[e,i.cells.1] at a;simp at a,h.inj⟩
theorem LC.qQ {F:Nat->Prop} {W:ae} {y:Lv} {L:List It} {G:List I2} {t:HT} {ad:I2->Nat} {q:Nat} (h:LC F W y L G t ad) (a:BxL W q zLv):LC (λb=>F b/\b≠q) W y L G t ad:=
 ⟨h.ix.qQ a,HV.qQ a h.hv,NdL.qQ a h.nd,h.srt,h.mem,h.gin,h.wf,λb e=>h.lt b e.1,h.tl⟩
section
attribute [local go_sem] ah calm jL jH
def IxN (F:Nat->Prop) (s:Nat) (W:ae) (e:Xv) (l:List En):Prop:=∃a,Ix a W (ixv e) l/\∀b,a b->F b\/s<=b
theorem IxN.ext {F:Nat->Prop} {s:Nat} {W W':ae} {a:Xv} {l:List En} (h:IxN F s W a l) (e:Ext W W'):IxN F s W' a l:=by
 obtain⟨j,i,f⟩:=h;exact⟨j,i.ext e,f⟩
def ZIx (W:ae) (q:Nat):Prop:=W.heap[q]? =some (.cells #[.slice none 0 0,.pointer none,.pointer none,Vi 0,Vi 0,Vi 0,Vq 0,Vq 0] 63 (0,0))
theorem ZIx.ext {W W':ae} {q:Nat} (h:ZIx W q) (a:Ext W W'):ZIx W' q:=(av a q (Array.getElem?_eq_some_iff.1 h).1).trans h
def ah9 (F:Nat->Prop) (f:ae) (L:List It) (q:List I2) (e:Ending) (w':ae):Prop:=∃(i:Nat->Prop) (z:Lv) (j:HT) (a:I2->Nat),e= .returned (.tuple #[lsv z,.nilIface])/\LC i w' z L q j a/\(∀b,i b->F b\/f.heap.size<=b)/\Ext f w'
theorem LC.agL {F:Nat->Prop} {u:ae} {y:Lv} {L:List It} {G0:List I2} {t:HT} {ad:I2->Nat} (h:LC F u y L G0 t ad) (hl:L.length<=320000) (x:It) (gone:Bool) (j9:wfI x) (a1:M4 L x=true):
  Calls pg 78 #[lsv y,itv x,.bool gone] u (ah9 F u (L++[x]) (if gone then G0++[(x.c,x.k)] else G0)):=by
 obtain⟨G1,a9⟩:∃G1,(if gone then G0++[(x.c,x.k)] else G0)=G1:=⟨_,rfl⟩;rw[a9];replace a9:=ac a9;have O:kC L x=true:=by rw[Uf,aC] at a1;exact a1.1
 unfold M4 at a1;simp only[aC,Bool.not_eq_true',Bool.or_eq_false_iff] at a1;obtain⟨⟨⟨⟨e0,e1⟩,e2⟩,e3⟩,e4⟩:=a1;have x0:Ext u (((u.alloc (kS y)).alloc (rY x)).alloc (kS zLv)):=(((Ext.refl u).alloc _).alloc _).alloc _;have bl:=((BxL.new u y).ext ((Ext.refl _).alloc (rY x))).ext ((Ext.refl _).alloc (kS zLv));have bi:=(kI.newL (u.alloc (kS y)) x).ext ((Ext.refl _).alloc (kS zLv));have bz:=BxL.new ((u.alloc (kS y)).alloc (rY x)) zLv;rw[show(u.alloc (kS y)).heap.size=u.heap.size+1 by simp] at bi;rw[show((u.alloc (kS y)).alloc (rY x)).heap.size=u.heap.size+1+1 by simp] at bz;have Q:u.heap.size<=u.heap.size+1+1:=ω
 have q0:=ac (λ(w:ae)=>vR (k:=x.k) e0 w);have q1:=ac (λw (M:Ext u w)=>(h.ext M).RD (c:=x.c) (k:=x.k) e1);have q2:=ac (λw (M:Ext u w)=>(h.ext M).Jv x.lc x.lk (B:=true) (by simpa using e2));have q3:=ac (λw (M:Ext u w)=>(h.ext M).Jv x.rc x.rk (B:=true) (by simpa using e3));have q4:=ac (λ(w:ae)=>IQ x.ch e4 w);have q5:=ac (λw (M:Ext u w)=>(h.ext M).newNode ω x O);have d9:jy (L++[x])=true:=by rw[jZ,h.nd.kn,O];rfl
 have h8:=ac (λw (M:Ext u w) (p:Nat) (hp:xH L x p)=>by
  have:=adF w (ixv (xl y)) (kr L G0) p ⟨x.c,x.k,x.ch,gone⟩ (h.ext M).ix (by rw[h.len];omega) (by rw[h.len];have:=hp.1;rw[rD h.nd.kn] at this;exact this) (by rw[wW h.nd.kn];exact e1);rw[ab8 d9 hp h.gin gone,a9.out] at this;exact this)
 have h7:=ac (λw (M:Ext u w) nn d vf hc=>(h.ext M).placeOf ω x O nn d vf hc);clear e0 e1 e2 e3 e4;obtain⟨pz,b9⟩:∃pz,u.heap.size+1+1=pz:=⟨_,rfl⟩;obtain⟨pi,a4⟩:∃pi,u.heap.size+1=pi:=⟨_,rfl⟩;rw[b9] at bz Q;rw[a4] at bi;obtain⟨b0,b1,b2,b3,b4,b5,b6,b7,Y⟩:=bl.cells;obtain⟨i0,i1,i2,i3,i4,i5,i6⟩:=bi.cells;simp only[Nat.zero_add] at i0 i1 i2 i3 i4 i5 i6;go_enter func78,ntmps78;rw[<-a4] at i0 i1 i2 i3 i4 i5 i6;replace bz:=ac bz;replace x0:=ac x0;replace b9:=ac b9;replace a4:=ac a4;replace h:=ac h;replace O:=ac O;replace d9:=ac d9;clear bl bi
 go_wp2_with fail
 rw[b9.out,a4.out];rw[a4.out] at i0 i1 i2 i3 i4 i5 i6;refine(q0.out _).mono ?_;rintro e w0 ⟨rfl,x1⟩;replace b0:=x1.keep b0;replace b1:=x1.keep b1;replace b2:=x1.keep b2;replace b3:=x1.keep b3;replace b4:=x1.keep b4;replace b5:=x1.keep b5;replace b6:=x1.keep b6;replace b7:=x1.keep b7;replace Y:=x1.keep Y;replace i0:=x1.keep i0;replace i1:=x1.keep i1;replace i2:=x1.keep i2;replace i3:=x1.keep i3;replace i4:=x1.keep i4;replace i5:=x1.keep i5;replace i6:=x1.keep i6;replace bz:=ac (bz.out.ext x1);replace x0:=ac (x0.out.trans x1);clear x1 q0
 go_wp2_with fail
 refine(q1.out _ x0.out).mono ?_;rintro e w1 ⟨rfl,x1⟩;replace b0:=x1.keep b0;replace b1:=x1.keep b1;replace b2:=x1.keep b2;replace b3:=x1.keep b3;replace b4:=x1.keep b4;replace b5:=x1.keep b5;replace b6:=x1.keep b6;replace b7:=x1.keep b7;replace Y:=x1.keep Y;replace i0:=x1.keep i0;replace i1:=x1.keep i1;replace i2:=x1.keep i2;replace i3:=x1.keep i3;replace i4:=x1.keep i4;replace i5:=x1.keep i5;replace i6:=x1.keep i6;replace bz:=ac (bz.out.ext x1);replace x0:=ac (x0.out.trans x1);clear x1 q1
 go_wp2_with fail
 refine(q2.out _ x0.out).mono ?_;rintro e w2 ⟨rfl,x1⟩;replace b0:=x1.keep b0;replace b1:=x1.keep b1;replace b2:=x1.keep b2;replace b3:=x1.keep b3;replace b4:=x1.keep b4;replace b5:=x1.keep b5;replace b6:=x1.keep b6;replace b7:=x1.keep b7;replace Y:=x1.keep Y;replace i0:=x1.keep i0;replace i1:=x1.keep i1;replace i2:=x1.keep i2;replace i3:=x1.keep i3;replace i4:=x1.keep i4;replace i5:=x1.keep i5;replace i6:=x1.keep i6;replace bz:=ac (bz.out.ext x1);replace x0:=ac (x0.out.trans x1);clear x1 q2
 go_wp2_with fail
 refine(q3.out _ x0.out).mono ?_;rintro e w3 ⟨rfl,x1⟩;replace b0:=x1.keep b0;replace b1:=x1.keep b1;replace b2:=x1.keep b2;replace b3:=x1.keep b3;replace b4:=x1.keep b4;replace b5:=x1.keep b5;replace b6:=x1.keep b6;replace b7:=x1.keep b7;replace Y:=x1.keep Y;replace i0:=x1.keep i0;replace i1:=x1.keep i1;replace i2:=x1.keep i2;replace i3:=x1.keep i3;replace i4:=x1.keep i4;replace i5:=x1.keep i5;replace i6:=x1.keep i6;replace bz:=ac (bz.out.ext x1);replace x0:=ac (x0.out.trans x1);clear x1 q3
 go_wp2_with fail
 refine(q4.out _).mono ?_;rintro e w4 ⟨rfl,x1⟩;replace b0:=x1.keep b0;replace b1:=x1.keep b1;replace b2:=x1.keep b2;replace b3:=x1.keep b3;replace b4:=x1.keep b4;replace b5:=x1.keep b5;replace b6:=x1.keep b6;replace b7:=x1.keep b7;replace Y:=x1.keep Y;replace i0:=x1.keep i0;replace i1:=x1.keep i1;replace i2:=x1.keep i2;replace i3:=x1.keep i3;replace i4:=x1.keep i4;replace i5:=x1.keep i5;replace i6:=x1.keep i6;replace bz:=ac (bz.out.ext x1);replace x0:=ac (x0.out.trans x1);clear x1 q4;have n8:=bz.out.lt
 go_wp2_with fail
 refine(q5.out _ x0.out).mono ?_;rintro e w5 ⟨nq,far,rfl,m9,d7,zF,x1⟩;replace b0:=x1.keep b0;replace b1:=x1.keep b1;replace b2:=x1.keep b2;replace b3:=x1.keep b3;replace b4:=x1.keep b4;replace b5:=x1.keep b5;replace b6:=x1.keep b6;replace b7:=x1.keep b7;replace Y:=x1.keep Y;replace i0:=x1.keep i0;replace i1:=x1.keep i1;replace i2:=x1.keep i2;replace i3:=x1.keep i3;replace i4:=x1.keep i4;replace i5:=x1.keep i5;replace i6:=x1.keep i6;replace bz:=ac (bz.out.ext x1);have n9:=x1.size;replace x0:=ac (x0.out.trans x1);clear x1 q5;obtain⟨pb,d6⟩:∃pb,u.heap.size=pb:=⟨_,rfl⟩;rw[d6] at b0 b1 b2 b3 b4 b5 b6 b7 Y⊢;replace d6:=ac d6;obtain⟨l1,d2⟩:∃l1,kr (L++[x]) G1=l1:=⟨_,rfl⟩;obtain⟨s,hs⟩:∃s,w5.heap.size=s:=⟨_,rfl⟩;have f9:=ac (show s<=w5.heap.size by omega);have g1:=ac (λw (M:Ext w5 w)=>h7.out w (x0.out.trans M) nq _ _ (d7.ext M));have d5:=ac (λw (M:Ext w5 w) (p:Nat) (hp:xH L x p)=>(h8.out w (x0.out.trans M) p hp).mono (R':=λe w2=>∃v:au,e= .returned v/\(∃Z:Xv,v= .tuple #[ixv Z,.nilIface]/\IxN F s w2 Z l1)/\Ext w w2) (by
  rintro e w2 ⟨F',v',rfl,hI,hF,hE⟩;obtain⟨Z,rfl⟩:=hI.shape;rw[d2] at hI;exact⟨_,rfl,⟨Z,rfl,F',hI,λb i=>(hF b i).imp id (λi=>az (az f9.out M.size) i)⟩,hE⟩))
 replace d2:=ac d2;replace hs:=ac hs;clear h7 h8
 go_wp2_with fail
 refine ou 17 16 [rw1 4 (λz9 W=>∃p:Nat,z9=Vi (p:Int)/\xH L x p),rw1 11 (λz9 W=>∃Z:Xv,z9= .tuple #[ixv Z,.nilIface]/\IxN F s W Z l1),rw1 13 (λz9 W=>∃Z:Xv,z9=ixv Z/\IxN F s W Z l1),rw1 14 (λz9 _=>z9= .nilIface),rwB 15 (λz9 W=>∃q,z9=Vp q/\s<=q/\ZIx W q),rw2 16 15 (λ_ v W=>∃q H,v=Vp q/\s<=q/\W.heap[q]? =some (.cells #[.slice H.A H.n H.c,.pointer H.l,.pointer H.r,Vi H.h,Vi H.m,Vi H.s,Vq H.lo,Vq H.hi] 63 (0,0))/\IxN F s W H l1)] (Ext w5) (λ_=>True) Ext (KR w5) ((Ext.refl _).drew) trivial (λ_ _=>Ext.trans) (λ_ _ _ _=>trivial) ⟨(λ_ _ _ _ h _=>h),(λ_ _ _ _ _ _ h _=>h),(by rintro _ _ _ _ ⟨H,X,U⟩ e;exact⟨H,X,U.ext e⟩),(λ_ _=>by rintro _ _ _ _ ⟨H,X,F2,U,h3⟩ e;obtain⟨F3,h4,h5⟩:=e.2 F2 _ _ U;exact⟨H,X,F3,h5,λb i=>h3 b (h4 b i)⟩),(by rintro _ _ _ _ ⟨H,X,U⟩ e;exact⟨H,X,U.ext e⟩),(λ_ _=>by rintro _ _ _ _ ⟨H,X,F2,U,h3⟩ e;obtain⟨F3,h4,h5⟩:=e.2 F2 _ _ U;exact⟨H,X,F3,h5,λb i=>h3 b (h4 b i)⟩),(λ_ _ _ _ h _=>h),(λ_ _ _ _ _ _ h _=>h),(by rintro _ _ _ _ ⟨q,X,U,h3⟩ e;exact⟨q,X,U,h3.ext e⟩),(λh=>by cases h),(by rintro _ _ _ _ ⟨q,H,X,U,h3,h4⟩ e;exact⟨q,H,X,U,e.blk h3,h4.ext e⟩),(λ_ h=>absurd rfl h),trivial⟩ λρ _=>?_
 refine .s1 4 false [] (λW hE _ _=>by
  have q0:=hE.keep b0;have q1:=hE.keep b1;have q2:=hE.keep b2;have q3:=hE.keep b3;have q4:=hE.keep b4;have q5:=hE.keep b5;have q6:=hE.keep b6;have q7:=hE.keep b7;have q8:=hE.keep Y;exact jD) ?_
 refine .o1 0 false [] (λW O _ _ N hN=>?_) ?_
 ·go_simp
  exact(g1.out W O).mono (by rintro e W2 ⟨p,rfl,X,U⟩;exact⟨_,rfl,hN _ _ (λ_ e=>by cases e) ⟨p,rfl,X⟩ U⟩)
 refine .s1 6 false [] (λW hE _ _=>by
  have q0:=hE.keep i0;have q1:=hE.keep i1;have q6:=hE.keep i6;exact jD) ?_
 refine .o1 1 false [0] (λW O _ f N hN=>?_) ?_
 ·obtain⟨⟨p9,e9,l2⟩,_⟩:=f
  have e9:ρ 4=_:=e9
  go_simp
  exact(d5.out W O p9 l2).mono (by rintro e W2 ⟨v,rfl,X,U⟩;exact⟨_,rfl,hN _ _ (λ_ e=>by cases e) X U⟩)
 refine .s1 1 false [] (λW hE _ _=>jD) ?_;refine .o1 2 false [1] (λW O _ f N hN=>?_) ?_
 ·obtain⟨⟨H,e9,g7⟩,_⟩:=f
  have e9:ρ 11=_:=e9
  go_simp
  exact hN _ _ (λ_ e=>by cases e) ⟨H,rfl,g7⟩ (Ext.refl _)
 refine .o1 3 false [1] (λW O _ f N hN=>?_) ?_
 ·obtain⟨⟨H,e9,g7⟩,_⟩:=f
  have e9:ρ 11=_:=e9
  go_simp
  exact hN _ _ (λ_ e=>by cases e) rfl (Ext.refl _)
 refine .o1 4 false [] (λW O _ _ N hN=>?_) ?_
 ·go_simp
  exact hN _ _ (λ_ e=>by cases e) ⟨_,rfl,az f9.out O.size,heap_alloc_new W _⟩ ((Ext.refl W).alloc _)
 refine .o0 5 [4,2] (λW O _ f N hN=>?_) ?_
 ·obtain⟨⟨qb,e7,k9,j⟩,⟨H,h0,F2,l4,l5⟩,_⟩:=f
  have e7:ρ 15=_:=e7;have h0:ρ 13=_:=h0;have m7:=aj W qb 0 _ _ _ j;have n7:=aw W qb 0 _ _ j;have m6:=aj W qb 1 _ _ _ j;have n6:=aw W qb 1 _ _ j;have m5:=aj W qb 2 _ _ _ j;have n5:=aw W qb 2 _ _ j;have m4:=aj W qb 3 _ _ _ j;have n4:=aw W qb 3 _ _ j;have m3:=aj W qb 4 _ _ _ j;have n3:=aw W qb 4 _ _ j;have m2:=aj W qb 5 _ _ _ j;have n2:=aw W qb 5 _ _ j;have m1:=aj W qb 6 _ _ _ j;have n1:=aw W qb 6 _ _ j;have m0:=aj W qb 7 _ _ _ j;have n0:=aw W qb 7 _ _ j;have g0:w5.heap.size<=qb:=by have:=hs.out;omega
  go_simp
  exact hN _ _ (λ_ e=>by cases e) ⟨qb,H,e7,k9,E5 j _ _ _ _ _ _ _ _,_,(l4.avoid j).frame (λb i=>y8 i.2 _ _ _ _ _ _ _ _),λb i=>l5 b i.1⟩ (Ext.st8 O g0 _ _ _ _ _ _ _ _) ⟨λh=>Ext.st8 h g0 _ _ _ _ _ _ _ _,λF v l hI=>⟨_,λb i=>i.1,(hI.avoid j).frame (λb i=>y8 i.2 _ _ _ _ _ _ _ _)⟩⟩
 refine .fin λW hR ⟨_,l9,l8,g9,_,jV,_⟩=>?_
 obtain⟨qi,Z,eq,m8,a7,l3⟩:=jV rfl;rw[show ρ 15=_ from eq,show ρ 14=_ from g9 rfl];clear l9 l8 g9;generalize W=W6 at*;obtain⟨F1,d3,d4⟩:=l3;replace d4:=ac d4;replace d3:=ac d3;replace a7:=ac a7;have a5:=ac hR;clear g1 d5 b0 b1 b2 b3 b4 b5 b6 b7 i0 i1 i2 i3 i4 i5 i6 hR;replace Y:=ac Y
 go_wp2_with fail
 obtain⟨j0,j1,j2,j3,j4,j5,j6,j7⟩:=Bx.row a7.out;replace Y:=a5.out.keep Y.out;have a8:=ac (h.out.ext (x0.out.trans a5.out));obtain⟨G,hG⟩:∃G:Nat->Prop,G=(λb=>F b\/F1 b\/b=nq\/W6.heap.size<=b):=⟨_,rfl⟩;obtain⟨J,Zz⟩:∃J,Nj ad (iid x) nq=J:=⟨_,rfl⟩;obtain⟨t2,a3⟩:∃t2,rX t (iid x)=t2:=⟨_,rfl⟩;have a0:iid x∉hin t:=λe=>by have:=(a8.out.mem _).1 e;rw[(jG O.out).2.1] at this;cases this
 have a2:∀a∈hin t,J a=ad a:=λa ha=>by rw[<-Zz];exact qI (λe=>a0 (e▸ha))
 have h9:J (iid x)=nq:=by rw[<-Zz];exact yZ _ _ _
 have h6:=ac (d7.ext a5.out);have e8:=ac (λw (M:Ext W6 w)=>by
  have g2:=(h6.out.ext M).cells;have:=Xq (G:=G) (ad:=J) (iid x) t (.pointer y.p) w ((((a8.out.hv.ext M)).same a2).mono (λb i=>by rw[hG];exact .inl i)) (λa ha=>by rw[a2 a ha];exact(a8.out.ext M).nd.ids (λa ha=>(a8.out.mem a).1 ha) a ha) (λa ha=>by rw[aN.1 ha,h9];exact⟨g2.c0,g2.c1⟩) a0 (λb i=>by rw[hG];exact .inr (.inr (.inr (az M.size i)))) (by rw[a8.out.tl];omega);rw[h9,a3] at this;exact this)
 replace hG:=ac hG;replace Zz:=ac Zz;replace a3:=ac a3;replace a0:=ac a0;clear a2 d7;refine mg 6 [rw1 4 (λv W=>HV G W J t2 v),rw1 5 (λz9 W=>∃p2:Option Addr,z9=lsv (lvx Z p2)/\HV G W J t2 (.pointer p2))] ⟨(λ_ _ _ _ h e=>HV.ext e h),(by rintro _ _ _ _ ⟨q,X,U⟩ e;exact⟨q,X,HV.ext e U⟩),trivial⟩ λρ _=>?_
 refine .s 4 (λW O y=>jD) ?_;refine .k 0 (R:=λv W=>HV G W J t2 v) (λW O=>(e8.out W O).mono (by rintro e W2 ⟨v,rfl,X,U⟩;exact⟨_,rfl,X,U⟩)) ?_;refine .o 1 [0] (λW O y f N hN=>?_) ?_
 ·obtain⟨a6,_⟩:=f
  obtain⟨p2,e9⟩:=HV.ptr a6;have e9:ρ 4=_:=e9;have a6:HV G W J t2 (ρ 4):=a6;rw[e9] at a6
  go_simp
  exact hN _ _ (λ_ e=>by cases e) ⟨p2,rfl,a6⟩ (Ext.refl _)
 refine .fin λW hR ⟨_,h5,_⟩=>?_
 obtain⟨q5,e5,h5⟩:=h5;rw[show ρ 5=_ from e5];have e6:=x0.out.trans (a5.out.trans hR);have I:=(bz.out.ext a5.out).ext hR;have j8:=a5.out.size;have i7:=hR.size;have d1:=h.out.lt;have g8:∀b,G b->b≠pz:=by
  intro b i e;rw[hG.out] at i;have:=hs.out;rcases i with i|i|i|i
  ·have:=d1 b i;omega
  ·rcases d4.out b i with i|i
   ·have:=d1 b i;omega
   ·omega
  ·omega
  ·omega
 have g4:∀b,G b->F b\/u.heap.size<=b:=by
  intro b i;rw[hG.out] at i;have:=hs.out;rcases i with i|i|i|i
  ·exact .inl i
  ·rcases d4.out b i with i|i
   ·exact .inl i
   ·exact .inr ω
  ·exact .inr ω
  ·exact .inr ω
 have g3:¬F nq:=λe=>by have:=d1 nq e;omega
 have g6:=h.out.ext e6;have g5:=ac (show LC (λb=>G b/\b<W.heap.size) (qM W pz (lvx Z q5)) (lvx Z q5) (L++[x]) G1 t2 J/\(∀b,(λb=>G b/\b<W.heap.size) b->F b\/u.heap.size<=b)/\Ext u (qM W pz (lvx Z q5)) from by
  refine⟨LC.frame (W:=W) ?_ ?_,?_,?_⟩
  ·refine⟨?_,h5.lt,?_,?_,?_,?_,?_,λb i=>i.2,?_⟩
   ·rw[d2.out]
    exact(d3.out.ext hR).mono (λb i=>⟨by rw[hG.out];exact .inr (.inl i),(d3.out.ext hR).below b i⟩) (λb i=>i.2)
   ·have:=g6.nd.snoc O.out (q:=nq) (G:=G) g3 (λb i=>by rw[hG.out];exact .inl i) (by rw[hG.out];exact .inr (.inr (.inl rfl))) (h6.out.ext hR) zF
    rw[Zz.out] at this;exact this.lt
   ·rw[<-a3.out]
    exact Hf t _ h.out.srt a0.out
   ·intro a
    rw[<-a3.out,yF,lD,cE,decide_eq_true_iff,h.out.mem a];constructor
    ·rintro(e|e)
     ·exact .inr e.symm
     ·exact .inl e
    ·rintro(e|e)
     ·exact .inr e
     ·exact .inl e.symm
   ·intro g hg
    rw[lD,cE,decide_eq_true_iff];rw[<-a9.out] at hg;cases gone with
    |false=>exact .inl (h.out.gin g hg)
    |true=>
     rcases aA.1 (show g∈G0++[(x.c,x.k)] from hg) with e|e
     ·exact .inl (h.out.gin g e)
     ·exact .inr (aN.1 e).symm
   ·intro z hz
    rcases aA.1 hz with e|e
    ·exact h.out.wf z e
    ·rw[aN.1 e];exact j9
   ·rw[<-a3.out,yG,h.out.tl,ag];rfl
  ·exact λb i=>(show W.grownBy (qM W pz (lvx Z q5)) (some pz) from nE _ _ _).block b i.2 (λe=>g8 b i.1 (by injection e))
  ·exact λb i=>g4 b i.1
  ·exact(((((((((e6.setCell Q _).setCell Q _).setCell Q _).setCell Q _).setCell Q _).setCell Q _).setCell Q _).setCell Q _).setCell Q _))
 clear e6 j8 i7 d1 g8 g4 g3 g6 h5 e8 j0 j1 j2 j3 j4 j5 j6 j7 Y hR;obtain⟨k0,k1,k2,k3,k4,k5,k6,k7,k8⟩:=I.cells;have f0:=I.thaw 0;have f1:=I.thaw 1;have f2:=I.thaw 2;have f3:=I.thaw 3;have f4:=I.thaw 4;have f5:=I.thaw 5;have f6:=I.thaw 6;have f7:=I.thaw 7;have f8:=I.thaw 8;have hz:=ac (I.put (lvx Z q5)).cells;clear I;go_wp2;obtain⟨z0,z1,z2,z3,z4,z5,z6,z7,z8⟩:=hz.out;exact bodyPost_ret (v:= .tuple #[lsv (lvx Z q5),.nilIface]) (by simp[results,results78,go_sem,z0,z1,z2,z3,z4,z5,z6,z7,z8]) rfl ⟨_,_,t2,J,rfl,g5.out⟩
end
end Go.Proofs.YtncfhbpejchbfaaGreatDoor

/-
  Lemmas of this seat; no claim.
-/
import Derived.Shelf.Strings.BuilderRune
import Derived.Test.YtncfhbpejchbfaaGreatDoorPLf1
import Derived.Test.YtncfhbpejchbfaaGreatDoorPI1
import Derived.Test.YtncfhbpejchbfaaGreatDoorLayRn
import Derived.Test.YtncfhbpejchbfaaGreatDoorPA1
set_option linter.unusedVariables false
set_option linter.unusedSimpArgs false
set_option maxRecDepth 100000
set_option maxHeartbeats 16000000
open And renaming intro→aS
open Go renaming Calls→aO,Value→au,World→ae,bodyPost_ret→aB,cell_of_row→aj,cell_regrown→ai,frozen_of_row→aw,heap_setCell_same→al,redrawn→eK,results→cg,wpQuiet_nil→bh,wp_region_quiet_below→ax
open Go.Ending renaming returned→bK
open Go.IntKind renaming i64→cJ
open Go.IntWalk renaming i64_in→bP
open Go.Lib renaming OthersKept→gq,byteCells_encodeRune→iZ,byteCells→je,encodeRune→aY,hid→ac
open Go.Proofs.Any renaming Builder_WriteRune_k→jf
open Go.RowKit renaming Below→gP
open Go.RowKit.Below renaming block→av
open Go.World renaming cell?_alloc_some→ah
open List renaming append_nil→bB,flatMap_cons→eM,getElem?_eq_getElem→ay,length_cons→ar,length_nil→aG,mem_of_getElem?→aD
open Nat renaming le_trans→az,zero_add→aW,zero_le→bN
open Prod renaming fst→iw,snd→iY
open Go.Proofs.Tryz
open Go.Proofs.Tryz renaming prog→pg
namespace Go.Proofs.YtncfhbpejchbfaaGreatDoor
section
open Go.ChangeShapes Go.WideShapes Go.ChangeAt Go.RowKit Go.Sort
attribute [local go_sem] ah
section
abbrev xl (y:Lv):Xv:=⟨y.A,y.n,y.c,y.l,y.r,y.h,y.m,y.s,y.lo,y.hi⟩
structure LC (F:Nat->Prop) (W:ae) (y:Lv) (L:List It) (G:List I2) (t:HT) (ad:I2->Nat):Prop where
 ix:Ix F W (ixv (xl y)) (kr L G)
 hv:HV F W ad t (.pointer y.p)
 nd:NdL F W ad L
 srt:Bd t
 mem:∀a,a∈hin t↔jw L a=true
 gin:∀g∈G,jw L g=true
 wf:∀x∈L,wfI x
 lt:∀b,F b->b<W.heap.size
 tl:(hin t).length=L.length
theorem LC.ext {F:Nat->Prop} {W W':ae} {y:Lv} {L:List It} {G:List I2} {t:HT} {ad:I2->Nat} (h:LC F W y L G t ad) (a:Ext W W'):LC F W' y L G t ad:=
 ⟨h.ix.ext a,h.hv.ext a,h.nd.ext a,h.srt,h.mem,h.gin,h.wf,λb e=>a.lt (h.lt b e),h.tl⟩
variable {F:Nat->Prop} {G:List I2} {L:List It} {W:ae} {a:I2} {ad:I2->Nat} {q:Nat} {t:HT} {y:Lv}
theorem LC.len (h:LC F W y L G t ad):(kr L G).length=L.length:=ZW h.nd.kn G
theorem LC.find (h:LC F W y L G t ad) (c k:Int):
  aO pg 90 #[.pointer y.p,idv c k] W λe w'=>e= .returned (if jw L (c,k)=true then Vp (ad (c,k)) else qF)/\Ext W w':=by
 have:=Wv t (.pointer y.p) c k W h.hv (h.nd.ids λa f=>(h.mem a).1 f) h.srt;unfold fdV at this;simp only[h.mem] at this;exact this
theorem LC.ML (h:LC F W y L G t ad) {c k:Int} (f:jw L (c,k)=true):
  aO pg 90 #[.pointer y.p,idv c k] W λe w'=>e= .returned (Vp (ad (c,k)))/\Ext W w':=by
 have:=h.find c k;rwa[if_pos f] at this
theorem LC.RD (h:LC F W y L G t ad) {c k:Int} (f:jw L (c,k)=false):
  aO pg 90 #[.pointer y.p,idv c k] W λe w'=>e= .returned qF/\Ext W w':=by
 have:=h.find c k;rwa[if_neg (by rw[f];decide)] at this
abbrev kS (y:Lv):Obj:= .cells #[.slice y.A y.n y.c,.pointer y.l,.pointer y.r,Vi y.h,Vi y.m,Vi y.s,Vq y.lo,Vq y.hi,.pointer y.p] 66
theorem LC.entry (h:LC F W y L G t ad) (f:L.length<=400000) (i:(lM L)[q]? =some a):
  aO pg 123 #[ixv (xl y),Vi (q:Int)] W λe w'=>e= .returned (.tuple #[env (sH L G a),.nilIface])/\Ext W w':=
 ZR W _ _ q _ h.ix (by rw[h.len];exact f) (ZU G i)
theorem LC.ab7 (h:LC F W y L G t ad) (f:L.length<=400000) {z:Int} (j: -2<=z/\z<=800000) (i:z<0\/(L.length:Int)<=z):
  aO pg 123 #[ixv (xl y),Vi z] W λe w'=>e= .returned (.tuple #[env zE,lF 3])/\Ext W w':=
 RJ W _ _ z h.ix (by rw[h.len];exact f) j (by rw[h.len];exact i)
theorem TD (y:Lv) (z:Int) (x:En) (c:Int) (W:ae) (K:∀w',Ext W w'->aO pg 123 #[ixv (xl y),Vi z] w' λe U=>e= .returned (.tuple #[env x,lF c])/\Ext w' U):
  aO pg 85 #[lsv y,Vi z] W λe w'=>e= .returned (idv x.c x.k)/\Ext W w':=by
 replace K:=ac K;obtain⟨Q,J⟩:∃Q,lF c=Q:=⟨_,rfl⟩;rw[J] at K;clear J;go_enter func85,ntmps85
 go_wp2_with fail
 have x0:Ext W ((W.alloc (kS y)).alloc (.cells #[.int .u32 0,.int .u32 0] 38)):=((Ext.refl W).alloc _).alloc _;refine(K.out _ x0).mono ?_;rintro e i ⟨rfl,x1⟩;have f:uh ((W.alloc (kS y)).alloc (.cells #[.int .u32 0,.int .u32 0] 38)) (W.heap.size+1) 0 0:=by
  have:=uh.new (W.alloc (kS y)) 0 0;rwa[show(W.alloc (kS y)).heap.size=W.heap.size+1 by simp] at this
 replace f:=f.ext x1;have X:=ac (x0.trans x1);obtain⟨M,I⟩:∃M,W.heap.size+1=M:=⟨_,rfl⟩;rw[I] at f⊢;have H:=ac (show W.heap.size<=M by omega);clear x0 x1 K I;have b0:(i.alloc (.cells #[Vu x.c,Vu x.k,.int .i32 x.ch,.bool x.g] 116)).cell? ⟨i.heap.size,0,none⟩=some (Vu x.c):=σ
 have b1:(i.alloc (.cells #[Vu x.c,Vu x.k,.int .i32 x.ch,.bool x.g] 116)).cell? ⟨i.heap.size,1,none⟩=some (Vu x.k):=σ
 have N:=ac (X.out.alloc (.cells #[Vu x.c,Vu x.k,.int .i32 x.ch,.bool x.g] 116));have O:Ext i (i.alloc (.cells #[Vu x.c,Vu x.k,.int .i32 x.ch,.bool x.g] 116)):=(Ext.refl i).alloc _;replace f:=f.ext O;obtain⟨k0,Y,f0,Z⟩:=f.cells;obtain⟨u,j,_,_⟩:=(f.set x.c x.k).cells;clear O f;replace u:=ac u;replace j:=ac j;go_wp2;have u:=u.out;have j:=j.out;exact aB (v:=idv x.c x.k) (by simp[cg,results85,go_sem,u,j]) rfl ⟨rfl,(N.out.setCell H.out _).setCell H.out _⟩
theorem LC.afB (h:LC F W y L G t ad) (i:L.length<=400000) (j:(lM L)[q]? =some a):
  aO pg 85 #[lsv y,Vi (q:Int)] W λe w'=>e= .returned (idv a.1 a.2)/\Ext W w':=
 TD y q (sH L G a) 0 W λw' f=>(h.ext f).entry i j
theorem LC.ad5 (h:LC F W y L G t ad) (i:L.length<=400000) {z:Int} (u: -2<=z/\z<=800000) (j:z<0\/(L.length:Int)<=z):
  aO pg 85 #[lsv y,Vi z] W λe w'=>e= .returned (idv 0 0)/\Ext W w':=
 TD y z zE 3 W λw' f=>(h.ext f).ab7 i u j
theorem LC.aa2 (h:LC F W y L G t ad) (i:L.length<=400000) {p:Nat} (f:(jC (kr L G))[q]? =some p):
  aO pg 86 #[lsv y,Vi (q:Int)] W λe w'=>e= .returned (Vi (p:Int))/\Ext W w':=by
 have j:=ac (λw' (u:Ext W w')=>agz w' _ _ q p (h.ix.ext u) (by rw[h.len];exact i) f);clear h f i;go_enter func86,ntmps86
 go_wp2_with fail
 have x0:Ext W (W.alloc (kS y)):=(Ext.refl W).alloc _;refine(j.out _ x0).mono ?_;rintro e H ⟨rfl,x1⟩;have z:=ac (x0.trans x1);clear x0 x1 j;go_wp2;go_ret;exact⟨rfl,z.out⟩
theorem LC.nodeAt (h:LC F W y L G t ad) (Y:L.length<=400000) (z:(lM L)[q]? =some a):
  aO pg 184 #[lsv y,Vi (q:Int)] W λe w'=>e= .returned (Vp (ad a))/\Ext W w':=by
 have Z:=ac (λw' (i:Ext W w')=>(h.ext i).afB Y z);have u:=ac (λw' (i:Ext W w')=>(h.ext i).ML (c:=a.1) (k:=a.2) (oh h.nd.kn z));obtain⟨p,X⟩:∃p,ad a=p:=⟨_,rfl⟩;rw[X] at u⊢;clear h z Y X;go_enter func184,ntmps184
 go_wp2_with fail
 have x0:Ext W (W.alloc (kS y)):=(Ext.refl W).alloc _;have bl:=(BxL.new W y).cells;obtain⟨U,Q,O,N,M,K,J,I,H⟩:=bl;generalize W.alloc (kS y)=w1 at*;generalize W.heap.size=pb at*;replace U:=ai U;replace Q:=ai Q;replace O:=ai O;replace N:=ai N;replace M:=ai M;replace K:=ai K;replace J:=ai J;replace I:=ai I;replace H:=ai H;refine ax κ κ ?_
 repeat go_big_quiet_step((first|with_reducible exact Calls.jA (Z.out _ (x0.trans (Ext.jv _ _ _)))|with_reducible exact Calls.jA (u.out _ (x0.trans (Ext.jv _ _ _)))))
 refine bh ?_;intro _ j;obtain⟨⟨dq,osq⟩,f⟩:=j;subst f;have x2:=ac (x0.trans (Ext.jv w1 dq osq));clear U Q O N M K J I H x0 Z u;go_wp2;go_ret;exact⟨rfl,x2.out⟩
end
theorem vR {c k:Int} {B:Bool} (h:decide (c=0)=B) (w:ae):aO pg 88 #[idv c k] w λe w'=>e= .returned (.bool B)/\Ext w w':=by
 have:=lN c k w;rwa[show(c==0)=B from h] at this
theorem LC.Jv {F:Nat->Prop} {W:ae} {y:Lv} {L:List It} {G:List I2} {t:HT} {ad:I2->Nat} (h:LC F W y L G t ad) (c k:Int) {B:Bool} (j:(decide (c=0)||jw L (c,k))=B):
  aO pg 112 #[lsv y,idv c k] W λe w'=>e= .returned (.bool B)/\Ext W w':=by
 have x0:Ext W ((W.alloc (kS y)).alloc (.cells #[.int .u32 c,.int .u32 k] 38)):=((Ext.refl W).alloc _).alloc _;have z:=((BxL.new W y).ext ((Ext.refl _).alloc (.cells #[.int .u32 c,.int .u32 k] 38)));have q:=uh.new (W.alloc (kS y)) c k;rw[show(W.alloc (kS y)).heap.size=W.heap.size+1 by simp] at q;obtain⟨b,i⟩:∃b,decide (c=0)=b:=⟨_,rfl⟩;have hn:=ac (λW=>vR (k:=k) i W);cases b with
 |true=>
  obtain rfl:true=B:=by rw[<-j,i];rfl
  clear j i h z q;go_enter func112,ntmps112
  go_wp2_with fail
  refine(hn.out _).mono ?_;rintro e J ⟨rfl,x1⟩;have f:=ac (x0.trans x1);clear x0 x1 hn;go_wp2;go_ret;exact⟨rfl,f.out⟩
 |false=>
  have a:jw L (c,k)=B:=by rw[<-j,i];rfl
  clear j i;go_enter func112,ntmps112
  go_wp2_with fail
  refine(hn.out _).mono ?_;rintro e J ⟨rfl,x1⟩;have f:=ac (x0.trans x1);obtain⟨k0,I,_,_⟩:=(q.ext x1).cells;have H:=(z.ext x1).cells.2.2.2.2.2.2.2.2;have u:=ac ((h.ext (x0.trans x1)).find c k);clear x0 x1 hn z q h
  go_wp2_with fail
  refine u.out.mono ?_;rintro e K ⟨rfl,x2⟩;replace f:=ac (f.out.trans x2);cases B with
  |true=>
   rw[if_pos a];clear a u x2 k0 I H;go_wp2;go_ret;exact⟨rfl,f.out⟩
  |false=>
   rw[if_neg (by rw[a];decide)];clear a u x2 k0 I H;go_wp2;go_ret;exact⟨rfl,f.out⟩
theorem NdL.item {F:Nat->Prop} {W:ae} {ad:I2->Nat} {L:List It} (h:NdL F W ad L) {a:I2} (H:jw L a=true):∃j r d f,NC W (ad a) (uV L a) j r d f:=by
 obtain⟨i,x,u,e,rfl⟩:=Cb H;obtain⟨_,on,far,r,q,_,_,_,_,_,z⟩:=h.at' x (aD e);rw[DI u e];exact⟨_,_,_,_,z⟩
theorem LC.item {F:Nat->Prop} {W:ae} {y:Lv} {L:List It} {G:List I2} {t:HT} {ad:I2->Nat} (h:LC F W y L G t ad) (c k:Int):
  aO pg 55 #[lsv y,idv c k] W λe w'=>e= .returned (.tuple #[itv (uV L (c,k)),.bool (jw L (c,k))])/\Ext W w':=by
 have x0:Ext W (((W.alloc (kS y)).alloc (.cells #[.int .u32 c,.int .u32 k] 38)).alloc (.cells #[.int .u32 0,.int .u32 0,.int .u32 0,.int .u32 0,.int .u32 0,.int .u32 0,.int .i32 0] 106)):=(((Ext.refl W).alloc _).alloc _).alloc _;have f:=kI.newL ((W.alloc (kS y)).alloc (.cells #[.int .u32 c,.int .u32 k] 38)) ⟨0,0,0,0,0,0,0⟩;rw[show((W.alloc (kS y)).alloc (.cells #[.int .u32 c,.int .u32 k] 38)).heap.size=W.heap.size+1+1 by simp] at f;have Q:=ac (λw' (hx:Ext W w')=>(h.ext hx).find c k);obtain⟨B,N⟩:∃B,jw L (c,k)=B:=⟨_,rfl⟩;obtain⟨x,M⟩:∃x,uV L (c,k)=x:=⟨_,rfl⟩;rw[N] at Q⊢;rw[M];replace h:=ac h;replace M:=ac M;have a:W.heap.size<=W.heap.size+1+1:=ω
 go_enter func55,ntmps55
 go_wp2_with fail
 refine(Q.out _ x0).mono ?_;rintro e w1 ⟨rfl,x1⟩;replace f:=f.ext x1;have X:=ac (x0.trans x1);obtain⟨Y,J⟩:∃Y,W.heap.size+1+1=Y:=⟨_,rfl⟩;rw[J] at f a⊢;clear x0 x1 Q J;obtain⟨k0,k1,k2,k3,k4,k5,Z⟩:=f.cells;simp only[aW] at k0 k1 k2 k3 k4 k5 Z;have f0:=f.lg 0;have f1:=f.lg 1;have f2:=f.lg 2;have f3:=f.lg 3;have f4:=f.lg 4;have f5:=f.lg 5;have f6:=f.lg 6;cases B with
 |true=>
  rw[if_pos rfl];obtain⟨v1,r,d,v2,U⟩:=(h.out.ext X.out).nd.item N;rw[M.out] at U;obtain⟨I,H,z,u,q,j,i⟩:=(f.all x.c x.k x.lc x.lk x.rc x.rk x.ch).cells;simp only[aW] at I H z u q j i;obtain⟨c0,c1,c2,c3,c4,c5,c6,_,_,_,_⟩:=U.cells;generalize ad (c,k)=p at*;have O:=ac (aS I (aS H (aS z (aS u (aS q (aS j i))))));clear f I H z u q j i N U;go_wp2;obtain⟨I,H,z,u,q,j,i⟩:=O.out;exact aB (v:= .tuple #[itv x,.bool true]) (by simp[cg,results55,go_sem,I,H,z,u,q,j,i]) rfl ⟨rfl,((((((X.out.setCell a _).setCell a _).setCell a _).setCell a _).setCell a _).setCell a _).setCell a _⟩
 |false=>
  rw[if_neg δ];obtain⟨I,H,z,u,q,j,i⟩:=(f.all 0 0 0 0 0 0 0).cells;simp only[aW] at I H z u q j i;have K:=M.out;rw[JL N] at K;subst K;have O:=ac (aS I (aS H (aS z (aS u (aS q (aS j i))))));clear f I H z u q j i N;go_wp2;obtain⟨I,H,z,u,q,j,i⟩:=O.out;exact aB (v:= .tuple #[itv ⟨0,0,0,0,0,0,0⟩,.bool false]) (by simp[cg,results55,go_sem,I,H,z,u,q,j,i]) rfl ⟨rfl,((((((X.out.setCell a _).setCell a _).setCell a _).setCell a _).setCell a _).setCell a _).setCell a _⟩
abbrev OT (x:Xv):Obj:= .cells #[.slice x.A x.n x.c,.pointer x.l,.pointer x.r,Vi x.h,Vi x.m,Vi x.s,Vq x.lo,Vq x.hi] 63
end
section
open Go.ChangeShapes Go.WideShapes Go.ChangeAt Go.RowKit Go.Sort
attribute [local go_sem] ah calm jL jH
variable {F:Nat->Prop} {G:List I2} {L:List It} {W:ae} {ad:I2->Nat} {t:HT} {y:Lv}
theorem Ho (h:LC F W y L G t ad) (i:L.length<=400000) {q:Nat} (u:q<=L.length):
  aO pg 85 #[lsv y,Vi (q:Int)] W λe w'=>e= .returned (idv (rH (kr L G) q).1 (rH (kr L G) q).2)/\Ext W w':=by
 by_cases f:q<(lM L).length
 ·obtain⟨a,j⟩:∃a,(lM L)[q]? =some a:=⟨_,ay f⟩
  rw[DL (ZU G j)];exact h.afB i j
 ·have:=rD h.nd.kn
  rw[VR (by rw[h.len];omega)];exact h.ad5 i ω (.inr ω)
theorem LC.shown (h:LC F W y L G t ad) (f:L.length<=400000) {s:Nat} (a:(jC (kr L G)).length=s):
  aO pg 84 #[ixv (xl y)] W λe w'=>e= .returned (Vi (s:Int))/\Ext W w':=by
 rw[<-a];exact Yd W _ _ h.ix (by rw[h.len];exact f)
theorem LC.WW (h:LC F W y L G t ad) (hl:L.length<=400000) (z:Int) (O: -9223372036854775808<=z/\z<=9223372036854775807) (K:z<0\/((jC (kr L G)).length:Int)<z):
  aO pg 48 #[lsv y,Vi z] W λe w'=>e= .returned (.tuple #[idv 0 0,idv 0 0,lF 3])/\Ext W w':=by
 obtain⟨s,Q⟩:∃s,(jC (kr L G)).length=s:=⟨_,rfl⟩;have J:=ac (λW' (hx:Ext W W')=>(h.ext hx).shown hl Q);have a1:s<=400000:=by rw[<-Q];have:=pV (kr L G) 0;rw[h.len] at this;exact az this hl
 rw[Q] at K;clear h Q;have x0:Ext W (((W.alloc (kS y)).alloc (.cells #[.int .u32 0,.int .u32 0] 38)).alloc (.cells #[.int .u32 0,.int .u32 0] 38)):=(((Ext.refl _).alloc _).alloc _).alloc _;have I:=(uh.new (W.alloc (kS y)) 0 0).ext ((Ext.refl _).alloc (.cells #[.int .u32 0,.int .u32 0] 38));have H:=uh.new ((W.alloc (kS y)).alloc (.cells #[.int .u32 0,.int .u32 0] 38)) 0 0;rw[show((W.alloc (kS y)).alloc (.cells #[.int .u32 0,.int .u32 0] 38)).heap.size=W.heap.size+1+1 by simp] at H;rw[show(W.alloc (kS y)).heap.size=W.heap.size+1 by simp] at I;have N:W.heap.size<=W.heap.size+1:=ω
 have M:W.heap.size<=W.heap.size+1+1:=ω
 have u:W.heap.size+1≠W.heap.size+1+1:=ω
 by_cases q:z<0
 ·have hd:decide (z<0)=true:=decide_eq_true q
  obtain⟨f,a,a0,Z⟩:=I.cells;obtain⟨j,i,Y,X⟩:=H.cells;have U:=ac x0;have O:=ac (aS f (aS a (aS j i)));clear f a j i I H x0 J K q;go_enter func48,ntmps48;go_wp2;obtain⟨f,a,j,i⟩:=O.out;exact aB (v:= .tuple #[idv 0 0,idv 0 0,lF 3]) (by simp[cg,results48,go_sem,f,a,j,i,lF]) rfl ⟨rfl,U.out⟩
 ·have hd:decide (z<0)=false:=decide_eq_false q
  have a2:decide ((s:Int)<z)=true:=decide_eq_true ω;clear K q;go_enter func48,ntmps48
  go_wp2_with fail
  refine(J.out _ x0).mono ?_;rintro e w1 ⟨rfl,x1⟩;replace I:=I.ext x1;replace H:=H.ext x1;replace x0:=x0.trans x1;clear x1 J;obtain⟨p5,h5⟩:∃p,W.heap.size+1+1=p:=⟨_,rfl⟩;obtain⟨p4,h4⟩:∃p,W.heap.size+1=p:=⟨_,rfl⟩;rw[h5] at H M u⊢;rw[h4] at I N u⊢;clear h4 h5;obtain⟨_,_,a0,Z⟩:=I.cells;obtain⟨_,_,Y,X⟩:=H.cells;obtain⟨f,a,_,_⟩:=((I.set 0 0).other u (Vu 0) (Vu 0)).cells;obtain⟨j,i,_,_⟩:=((H.other (λe=>u e.symm) (Vu 0) (Vu 0)).set 0 0).cells;have U:=ac ((((x0.setCell N (p:=⟨p4,0,none⟩) (Vu 0)).setCell (p:=⟨p4,1,none⟩) N (Vu 0)).setCell (p:=⟨p5,0,none⟩) M (Vu 0)).setCell (p:=⟨p5,1,none⟩) M (Vu 0));have O:=ac (aS f (aS a (aS j i)));clear f a j i I H x0;go_wp2;obtain⟨f,a,j,i⟩:=O.out;exact aB (v:= .tuple #[idv 0 0,idv 0 0,lF 3]) (by simp[cg,results48,go_sem,f,a,j,i,lF]) rfl ⟨rfl,U.out⟩
theorem LC.between (h:LC F W y L G t ad) (hl:L.length<=400000) (k:Nat) (hk:k<=(jC (kr L G)).length):
  aO pg 48 #[lsv y,Vi (k:Int)] W λe w'=>e= .returned (.tuple #[idv (tN (kr L G) k).1.1 (tN (kr L G) k).1.2,idv (tN (kr L G) k).2.1 (tN (kr L G) k).2.2,.nilIface])/\Ext W w':=by
 obtain⟨s,hs⟩:∃s,(jC (kr L G)).length=s:=⟨_,rfl⟩;have U:=ac (λW' (I:Ext W W')=>(h.ext I).shown hl hs);have d5:s<=400000:=by rw[<-hs];have:=pV (kr L G) 0;rw[h.len] at this;exact az this hl
 have x0:Ext W (((W.alloc (kS y)).alloc (.cells #[.int .u32 0,.int .u32 0] 38)).alloc (.cells #[.int .u32 0,.int .u32 0] 38)):=(((Ext.refl _).alloc _).alloc _).alloc _;have q:=((BxL.new W y).ext ((Ext.refl _).alloc (.cells #[.int .u32 0,.int .u32 0] 38))).ext ((Ext.refl _).alloc (.cells #[.int .u32 0,.int .u32 0] 38));have i:=(uh.new (W.alloc (kS y)) 0 0).ext ((Ext.refl _).alloc (.cells #[.int .u32 0,.int .u32 0] 38));have f:=uh.new ((W.alloc (kS y)).alloc (.cells #[.int .u32 0,.int .u32 0] 38)) 0 0;rw[show((W.alloc (kS y)).alloc (.cells #[.int .u32 0,.int .u32 0] 38)).heap.size=W.heap.size+1+1 by simp] at f;rw[show(W.alloc (kS y)).heap.size=W.heap.size+1 by simp] at i;have H:W.heap.size<=W.heap.size+1:=ω
 have u:W.heap.size<=W.heap.size+1+1:=ω
 have j:W.heap.size+1≠W.heap.size+1+1:=ω
 have hd:decide ((k:Int)<0)=false:=decide_eq_false ω;have e3:¬((k:Int)<0):=ω
 have e2:decide ((s:Int)<(k:Int))=false:=decide_eq_false (by rw[<-hs];omega);have e1:decide (s<k)=false:=decide_eq_false (by rw[<-hs];omega);have d9:k<=400000:=by rw[hs] at hk;omega
 rcases Nat.eq_zero_or_pos k with h0|h0
 ·subst h0
  obtain⟨⟨c1,c2⟩,hc⟩:∃z:I2,rH (kr L G) 0=z:=⟨_,rfl⟩;have a5:=ac (λW' (I:Ext W W')=>Ho (h.ext I) hl (bN L.length));have hb:tN (kr L G) 0=((0,0),rH (kr L G) 0):=rfl;rw[hb];rw[hc] at a5⊢;clear h hs hk hc hb;go_enter func48,ntmps48
  go_wp2_with fail
  refine(U.out _ x0).mono ?_;rintro e w1 ⟨rfl,x1⟩;replace q:=q.ext x1;replace i:=i.ext x1;replace f:=f.ext x1;replace x0:=x0.trans x1;clear x1 U;obtain⟨p5,h5⟩:∃p,W.heap.size+1+1=p:=⟨_,rfl⟩;obtain⟨p4,h4⟩:∃p,W.heap.size+1=p:=⟨_,rfl⟩;rw[h5] at f u j⊢;rw[h4] at i H j⊢;clear h4 h5;obtain⟨k0,k1,k2,k3,k4,k5,k6,k7,k8⟩:=q.cells;have a:=ac (a5.out _ x0);replace i:=ac i;replace f:=ac f;replace x0:=ac x0;clear a5
  go_wp2_with fail
  refine a.out.mono ?_;rintro e w2 ⟨rfl,x2⟩;replace i:=i.out.ext x2;replace f:=f.out.ext x2;replace x0:=x0.out.trans x2;clear x2 a k0 k1 k2 k3 k4 k5 k6 k7 k8 q;obtain⟨_,_,d3,d2⟩:=i.cells;obtain⟨_,_,d1,b9⟩:=f.cells;obtain⟨N,M,_,_⟩:=((i.set 0 0).other j (Vu c1) (Vu c2)).cells;obtain⟨Q,O,_,_⟩:=((f.other (λe=>j e.symm) (Vu 0) (Vu 0)).set c1 c2).cells;have hE:=ac ((((x0.setCell H (p:=⟨p4,0,none⟩) (Vu 0)).setCell (p:=⟨p4,1,none⟩) H (Vu 0)).setCell (p:=⟨p5,0,none⟩) u (Vu c1)).setCell (p:=⟨p5,1,none⟩) u (Vu c2));have hz:=ac (aS N (aS M (aS Q O)));clear N M Q O i f x0;go_wp2;obtain⟨N,M,Q,O⟩:=hz.out;exact aB (v:= .tuple #[idv 0 0,idv c1 c2,.nilIface]) (by simp[cg,results48,go_sem,N,M,Q,O]) rfl ⟨rfl,hE.out⟩
 ·obtain⟨p,hp⟩:∃p,(jC (kr L G))[k-1]? =some p:=⟨_,ay ω⟩
  have a7:=UL hp;rw[h.len] at a7;rw[(acu h0 hp).1];have a4:=ac (λW' (I:Ext W W')=>(h.ext I).aa2 hl hp);have X:=ac (λW' (I:Ext W W')=>Ho (h.ext I) hl (show p<=L.length by omega));have J:=ac (λW' (I:Ext W W')=>Ho (h.ext I) hl (show p+1<=L.length by omega));generalize rH (kr L G) p=ra at*;generalize rH (kr L G) (p+1)=rb at*;obtain⟨a1,a2⟩:=ra;obtain⟨c1,c2⟩:=rb;have d6:(p:Int)<=400000:=ω
  rw[show((k-1:Nat):Int)=(k:Int)-1 by omega] at a4;rw[show((p+1:Nat):Int)=(p:Int)+1 by omega] at J;have e0:((k:Int)=0)=False:=by simp;omega
  clear h hs hk hp a7;go_enter func48,ntmps48
  go_wp2_with fail
  refine(U.out _ x0).mono ?_;rintro e w1 ⟨rfl,x1⟩;replace q:=q.ext x1;replace i:=i.ext x1;replace f:=f.ext x1;replace x0:=x0.trans x1;clear x1 U;obtain⟨pl,h3⟩:∃p,W.heap.size=p:=⟨_,rfl⟩;obtain⟨p5,h5⟩:∃p,W.heap.size+1+1=p:=⟨_,rfl⟩;obtain⟨p4,h4⟩:∃p,W.heap.size+1=p:=⟨_,rfl⟩;rw[h5] at f u j⊢;rw[h4] at i H j⊢;have d7:=ac h3;rw[h3] at q⊢;clear h3 h4 h5;obtain⟨b0,b1,b2,b3,Z,Y,b6,b7,b8⟩:=q.cells;have a:=ac (a4.out _ x0);replace q:=ac q;replace i:=ac i;replace f:=ac f;replace x0:=ac x0;clear a4
  go_wp2_with fail
  refine a.out.mono ?_;rintro e w2 ⟨rfl,x2⟩;replace i:=ac (i.out.ext x2);replace f:=ac (f.out.ext x2);replace q:=q.out.ext x2;replace x0:=ac (x0.out.trans x2);clear x2 a b0 b1 b2 b3 Z Y b6 b7 b8;obtain⟨b0,b1,b2,b3,Z,Y,b6,b7,b8⟩:=q.cells;have a9:=i;have a8:=f;clear i f;have i:=Z;have f:=Y;clear Z Y q;replace X:=ac (λW' (e:Ext w2 W')=>X.out W' (x0.out.trans e));replace J:=ac (λW' (e:Ext w2 W')=>J.out W' (x0.out.trans e));have a6:(binOp .sub 3 (Vi (p:Int)) (Vi 0))=(binOp .sub 3 (Vi (p:Int)) (Vi 0)):=rfl;clear a6
  go_wp2_with fail
  refine mg 7 [rwI 2 (idv a1 a2),rwI 6 (idv c1 c2)] ⟨λ_ _ _ _ _ _=>trivial,λ_ _ _ _ _ _=>trivial,trivial⟩ λρ hI=>?_
  refine .s 2 (λW I y=>jD) ?_;refine .kv hI 0 (idv a1 a2) X.out ?_;refine .s 3 (λW I y=>by
   have d4:cJ.wrap ((p:Int)+1)=(p:Int)+1:=bP _ ω;exact jD) ?_
  refine .kv hI 1 (idv c1 c2) J.out ?_;refine .fin λW hR _=>?_
  have a3:=a9.out.ext hR;have a0:=a8.out.ext hR;obtain⟨_,_,d3,d2⟩:=a3.cells;obtain⟨_,_,d1,b9⟩:=a0.cells;obtain⟨N,M,_,_⟩:=((a3.set a1 a2).other j (Vu c1) (Vu c2)).cells;obtain⟨Q,O,_,_⟩:=((a0.other (λe=>j e.symm) (Vu a1) (Vu a2)).set c1 c2).cells;have x0:=x0.out.trans hR;have hE:=ac ((((x0.setCell H (p:=⟨p4,0,none⟩) (Vu a1)).setCell (p:=⟨p4,1,none⟩) H (Vu a2)).setCell (p:=⟨p5,0,none⟩) u (Vu c1)).setCell (p:=⟨p5,1,none⟩) u (Vu c2));have hz:=ac (aS N (aS M (aS Q O)));clear N M Q O a3 a0 x0 X J;go_wp2;obtain⟨N,M,Q,O⟩:=hz.out;exact aB (v:= .tuple #[idv a1 a2,idv c1 c2,.nilIface]) (by simp[cg,results48,go_sem,N,M,Q,O]) rfl ⟨rfl,hE.out⟩
end
section
open Go.ChangeShapes Go.WideShapes Go.ChangeAt Go.RowKit Go.Sort
attribute [local go_sem] ah
theorem Ix.mono {F G:Nat->Prop} {W:ae} {v:au} {l:List En} (h:Ix F W v l) (a:∀b,F b->G b) (e:∀b,G b->b<W.heap.size):Ix G W v l:=by
 obtain⟨t,x,K,I,H,z,u,q,j,i,f,J⟩:=h;exact⟨t,x,K,I,H,z,u,q,j,i,f.mono a,e⟩
variable {F:Nat->Prop} {W:ae} {l:List En}
theorem Ix.below {v:au} (h:Ix F W v l):∀b,F b->b<W.heap.size:=by
 obtain⟨t,x,I,H,z,u,q,j,i,f,e,a⟩:=h;exact a
theorem Ix.shape {v:au} (h:Ix F W v l):∃x,v=ixv x:=by
 obtain⟨t,x,a,_⟩:=h;exact⟨x,a⟩
abbrev lvx (x:Xv) (p:Option Addr):Lv:=⟨x.A,x.n,x.c,x.l,x.r,x.h,x.m,x.s,x.lo,x.hi,p⟩
theorem yL {c k:Int} (h:BS l c k=true):∃q,jY l c k=some q:=by
 cases a:jY l c k with
 |none=>rw[zA.1 a] at h;cases h
 |some q=>exact⟨q,rfl⟩
theorem LC.agq {y:Lv} {L:List It} {G:List I2} {t:HT} {ad:I2->Nat} (h:LC F W y L G t ad) (hl:L.length<=360000) (c k:Int) (j:jw L (c,k)=false):
  aO pg 76 #[lsv y,idv c k] W λe w'=>∃z:Lv,e= .returned (.tuple #[lsv z,lF 1])/\Ext W w':=by
 have x0:Ext W (((W.alloc (kS y)).alloc (.cells #[.int .u32 c,.int .u32 k] 38)).alloc (kS zLv)):=(((Ext.refl W).alloc _).alloc _).alloc _;have f:=BxL.new ((W.alloc (kS y)).alloc (.cells #[.int .u32 c,.int .u32 k] 38)) zLv;rw[show((W.alloc (kS y)).alloc (.cells #[.int .u32 c,.int .u32 k] 38)).heap.size=W.heap.size+1+1 by simp] at f;have q:=ac (λw' (Y:Ext W w')=>V5 w' _ _ c k (h.ext Y).ix (by rw[h.len];omega) (zA.2 (by rw[wW h.nd.kn];exact j)));have a:W.heap.size<=W.heap.size+1+1:=ω
 rw[show lF 1= .iface 56 (Vi 1) from rfl] at q;clear h;go_enter func76,ntmps76
 go_wp2_with fail
 refine(q.out _ x0).mono ?_;rintro e w1 ⟨rfl,x1⟩;obtain⟨u,i⟩:∃u,W.heap.size+1+1=u:=⟨_,rfl⟩;rw[i] at f a⊢;replace f:=(f.ext x1).ext ((Ext.refl _).alloc (OT ⟨none,0,0,none,none,0,0,0,0,0⟩));have Z:=ac ((x0.trans x1).alloc (OT ⟨none,0,0,none,none,0,0,0,0,0⟩));clear x0 x1 q i;obtain⟨k0,k1,k2,k3,k4,k5,k6,k7,k8⟩:=f.cells;have f0:=f.thaw 0;have f1:=f.thaw 1;have f2:=f.thaw 2;have f3:=f.thaw 3;have f4:=f.thaw 4;have f5:=f.thaw 5;have f6:=f.thaw 6;have f7:=f.thaw 7;have f8:=f.thaw 8;have X:=ac (f.put zLv).cells;clear f;go_wp2;obtain⟨U,Q,O,N,M,K,J,I,H⟩:=X.out;exact aB (v:= .tuple #[lsv zLv,lF 1]) (by simp[cg,results76,go_sem,U,Q,O,N,M,K,J,I,H,lF]) rfl ⟨zLv,rfl,((((((((Z.out.setCell a _).setCell a _).setCell a _).setCell a _).setCell a _).setCell a _).setCell a _).setCell a _).setCell a _⟩
theorem Ix.frame {F:Nat->Prop} {W W':ae} {v:au} {l:List En} (h:Ix F W v l) (i:∀b,F b->W'.heap[b]? =W.heap[b]?):Ix F W' v l:=by
 obtain⟨t,x,f,a,K,J,I,H,z,u,q,e⟩:=h;refine⟨t,x,f,a,K,J,I,H,z,u,q.frame i,λb j=>?_⟩;have f:=e b j;have a:=i b j;rw[Array.getElem?_eq_getElem f] at a;exact(Array.getElem?_eq_some_iff.1 a).1
theorem LC.frame {F:Nat->Prop} {W W':ae} {y:Lv} {L:List It} {G:List I2} {t:HT} {ad:I2->Nat} (h:LC F W y L G t ad) (a:∀b,F b->W'.heap[b]? =W.heap[b]?):LC F W' y L G t ad:=
 ⟨h.ix.frame a,h.hv.frame a,h.nd.frame a,h.srt,h.mem,h.gin,h.wf,(h.ix.frame a).below,h.tl⟩
theorem LC.del {y:Lv} {L:List It} {G:List I2} {t:HT} {ad:I2->Nat} (h:LC F W y L G t ad) (hl:L.length<=360000) (c k:Int) (K:jw L (c,k)=true):
  aO pg 76 #[lsv y,idv c k] W λe w'=>∃O z,e= .returned (.tuple #[lsv z,.nilIface])/\LC O w' z L (G++[(c,k)]) t ad/\(∀b,O b->F b\/W.heap.size<=b)/\Ext W w':=by
 have x0:Ext W (((W.alloc (kS y)).alloc (.cells #[.int .u32 c,.int .u32 k] 38)).alloc (kS zLv)):=(((Ext.refl W).alloc _).alloc _).alloc _;have j:=BxL.new ((W.alloc (kS y)).alloc (.cells #[.int .u32 c,.int .u32 k] 38)) zLv;rw[show((W.alloc (kS y)).alloc (.cells #[.int .u32 c,.int .u32 k] 38)).heap.size=W.heap.size+1+1 by simp] at j;have bl:=((BxL.new W y).ext ((Ext.refl _).alloc (.cells #[.int .u32 c,.int .u32 k] 38))).ext ((Ext.refl _).alloc (kS zLv));obtain⟨q,hq⟩:=yL (show BS (kr L G) c k=true by rw[wW h.nd.kn];exact K);have hf:=ac (λw' (hx:Ext W w')=>abP w' _ _ c k q (h.ext hx).ix (by rw[h.len];omega) (WC h.nd.kn G) hq);have i:W.heap.size<=W.heap.size+1+1:=ω
 have I:(((W.alloc (kS y)).alloc (.cells #[.int .u32 c,.int .u32 k] 38)).alloc (kS zLv)).heap.size=W.heap.size+1+1+1:=ι
 replace h:=ac h;replace I:=ac I;clear hq;go_enter func76,ntmps76
 go_wp2_with fail
 refine(hf.out _ x0).mono ?_;rintro e u ⟨O,v',rfl,N,H,x1⟩;obtain⟨x,rfl⟩:=N.shape;rw[I.out] at H;obtain⟨J,Q⟩:∃J,W.heap.size+1+1=J:=⟨_,rfl⟩;rw[Q] at j i H⊢;have M:Ext u (u.alloc (OT x)):=(Ext.refl _).alloc _;replace j:=(j.ext x1).ext M;replace bl:=(bl.ext x1).ext M;have bi:=Bx.new u x 63;have hE:=x0.trans x1;have f:=h.out.ext hE;have U:∀b,F b\/O b->b≠J:=by
  rintro b (a|a) e
  ·have:=h.out.lt b a;omega
  ·rcases H b a with a|a
   ·have:=h.out.lt b a;omega
   ·omega
 have Y:=ac (show LC (λb=>F b\/O b) (qM (u.alloc (OT x)) J (lvx x y.p)) (lvx x y.p) L (G++[(c,k)]) t ad/\(∀b,(λb=>F b\/O b) b->F b\/W.heap.size<=b)/\Ext W (qM (u.alloc (OT x)) J (lvx x y.p)) from by
  refine⟨LC.frame (W:=u) ?_ ?_,?_,?_⟩
  ·refine⟨?_,f.hv.mono λb a=> .inl a,f.nd.mono λb a=> .inl a,f.srt,f.mem,?_,f.wf,?_,f.tl⟩
   ·rw[<-ZT]
    exact N.mono (λb a=> .inr a) (λb a=>a.elim (λa=>f.lt b a) (λa=>N.below b a))
   ·intro g X
    rcases List.mem_append.1 X with X|X
    ·exact f.gin g X
    ·rw[List.mem_singleton.1 X];exact K
   ·exact λb a=>a.elim (λa=>f.lt b a) (λa=>N.below b a)
  ·intro b a
   have Z:b<u.heap.size:=a.elim (λa=>f.lt b a) (λa=>N.below b a);have h1:=av M b Z;have h2:=(show(u.alloc (OT x)).grownBy (qM (u.alloc (OT x)) J (lvx x y.p)) (some J) from nE _ _ _).block b (M.lt Z) (λe=>U b a (by injection e));exact h2.trans h1
  ·rintro b (a|a)
   ·exact .inl a
   ·rcases H b a with a|a
    ·exact .inl a
    ·exact .inr ω
  ·exact((((((((((hE.trans M).setCell i _).setCell i _).setCell i _).setCell i _).setCell i _).setCell i _).setCell i _).setCell i _).setCell i _))
 replace hE:=ac hE;have a0:J<u.heap.size:=by have:=x1.size;rw[I.out] at this;omega
 clear x0 x1 hf Q N H f U M;obtain⟨k0,k1,k2,k3,k4,k5,k6,k7,k8⟩:=j.cells;have f0:=j.thaw 0;have f1:=j.thaw 1;have f2:=j.thaw 2;have f3:=j.thaw 3;have f4:=j.thaw 4;have f5:=j.thaw 5;have f6:=j.thaw 6;have f7:=j.thaw 7;have f8:=j.thaw 8;obtain⟨b0,b1,b2,b3,b4,b5,b6,b7,b8⟩:=bl.cells;obtain⟨i0,i1,i2,i3,i4,i5,i6,i7⟩:=bi;have hz:=ac (j.put (lvx x y.p)).cells;clear j bl
 go_upto_if 16 with fail
 generalize u.alloc (OT x)=w2 at*;go_wp2;obtain⟨z0,z1,z2,z3,z4,z5,z6,z7,z8⟩:=hz.out;exact aB (v:= .tuple #[lsv (lvx x y.p),.nilIface]) (by simp[cg,results76,go_sem,z0,z1,z2,z3,z4,z5,z6,z7,z8]) rfl ⟨_,_,rfl,Y.out⟩
end
section
open Go.Shelf
def renWr:Go.Shelf.Ren:=⟨λ|168=>45|240=>81|242=>82|276=>121|278=>122|n=>n,
 λ|0=>0|3=>3|4=>4|5=>5|9=>9|20=>20|21=>21|37=>41|46=>146|51=>30|70=>111|72=>113|75=>27|80=>50|164=>130|n=>n,λ|n=>n⟩
theorem laysWr:Go.Proofs.Lays.n168 pg renWr:={
 mixed:=κ
 f168:=func45.trans (congrArg some κ)
 f240:=func81.trans (congrArg some κ)
 f242:=func82.trans (congrArg some κ)
 f276:=func121.trans (congrArg some κ)
 f278:=func122.trans (congrArg some κ)
 t0:=underlying0
 a0:=isAgg0
 z0:=sizeOf0
 v0:=zeroValue0
 t3:=underlying3
 a3:=isAgg3
 z3:=sizeOf3
 v3:=zeroValue3
 t4:=underlying4
 a4:=isAgg4
 z4:=sizeOf4
 v4:=zeroValue4
 t5:=underlying5
 a5:=isAgg5
 z5:=sizeOf5
 v5:=zeroValue5
 t9:=underlying9
 a9:=isAgg9
 z9:=sizeOf9
 v9:=zeroValue9
 t20:=underlying20
 a20:=isAgg20
 z20:=sizeOf20
 v20:=zeroValue20
 t21:=underlying21
 a21:=isAgg21
 z21:=sizeOf21
 v21:=zeroValue21
 t37:=underlying41
 a37:=isAgg41
 z37:=sizeOf41
 v37:=zeroValue41
 t46:=underlying146
 a46:=isAgg146
 z46:=sizeOf146
 v46:=zeroValue146
 t51:=underlying30
 a51:=isAgg30
 z51:=sizeOf30
 v51:=zeroValue30
 t70:=underlying111
 a70:=isAgg111
 z70:=sizeOf111
 v70:=zeroValue111
 t72:=underlying113
 a72:=isAgg113
 z72:=sizeOf113
 v72:=zeroValue113
 t75:=underlying27
 a75:=isAgg27
 z75:=sizeOf27
 v75:=zeroValue27
 t164:=underlying130
 a164:=isAgg130
 z164:=sizeOf130
 v164:=zeroValue130 }
theorem extraWr:Builder.Extra pg renWr where
 sizeBuilder:=κ
 liesBuilder:=κ
 t5:=underlying5
 a5:=isAgg5
 z5:=sizeOf5
 v5:=zeroValue5
 infoByte:=κ
 cellsByte:=κ
 sizeByte:=κ
 neB5:=δ
theorem extraStr:Builder.Extra pg Tryz.laysString_ren where
 sizeBuilder:=κ
 liesBuilder:=κ
 t5:=underlying5
 a5:=isAgg5
 z5:=sizeOf5
 v5:=zeroValue5
 infoByte:=κ
 cellsByte:=κ
 sizeByte:=κ
 neB5:=δ
def Bld (B b:Nat) (l:List UInt8) (w:ae):Prop:=Lib.IsBuilderF 113 5 B b (je l) w
theorem writeRune_any (B b:Nat) (l:List UInt8) (r:Int) (f: -2147483648<=r) (a:r<=2147483647) (w:ae) (h:Bld B b l w) (j:l.length<=40000000) (i:B<=w.heap.size):
  aO pg 45 #[.pointer (some ⟨b,0,none⟩),.int .i32 r] w λe w'=>e= .returned (.tuple #[.int .i64 (Lib.runeCells r).length,.nilIface])/\Bld B b (l++aY r) w'/\gP B w w':=by
 refine(jf laysWr extraWr B b (je l) r f a w h (by rw[Lib.byteCells_length];omega) i).mono ?_;rintro e w' ⟨z,u,q,_⟩;refine⟨z,?_,q⟩;unfold Bld;rw[Lib.byteCells_append,iZ];exact .inr u
theorem writeRuneO_any (B b:Nat) (l:List UInt8) (r:Int) (f: -2147483648<=r) (a:r<=2147483647) (w:ae) (h:Bld B b l w) (j:l.length<=40000000) (i:B<=w.heap.size):
  aO pg 45 #[.pointer (some ⟨b,0,none⟩),.int .i32 r] w λe w'=>e= .returned (.tuple #[.int .i64 (Lib.runeCells r).length,.nilIface])/\Bld B b (l++aY r) w'/\gP B w w'/\gq 5 (some b) w w':=by
 refine(jf laysWr extraWr B b (je l) r f a w h (by rw[Lib.byteCells_length];omega) i).mono ?_;rintro e w' ⟨H,z,u,q⟩;refine⟨H,?_,u,q⟩;unfold Bld;rw[Lib.byteCells_append,iZ];exact .inr z
theorem string_any (B b:Nat) (l:List UInt8) (w:ae) (h:Bld B b l w) (a:B<=w.heap.size):
  aO pg 46 #[.pointer (some ⟨b,0,none⟩)] w λe w'=>e= .returned (.string ⟨l.toArray⟩)/\Bld B b l w'/\gP B w w':=by
 refine(Any.Builder_String_any_k Tryz.laysString extraStr B b l w h a).mono ?_;rintro e w' ⟨j,i,f,_⟩;exact⟨j,i,f⟩
theorem runeCount_any (s:ByteArray) (w:ae) (f:s.size<9223372036854775807):aO pg 51 #[.string s] w λe w'=>e= .returned (.int .i64 (Lib.runeCount s))/\Ext w w':=by
 refine(Any.utf8_RuneCountInString Tryz.laysCount s w f).mono ?_;rintro e w' ⟨i,a,rfl⟩;exact⟨i,(Ext.refl _).alloc _⟩
theorem validStr_any (s:ByteArray) (w:ae) (a:s.size<=9223372036854775807) (f:Tabs w):aO pg 47 #[.string s] w λe w'=>e= .returned (.bool (Lib.validD s.data.toList))/\Ext w w':=
 Any.utf8_ValidString Tryz.laysValid s w a f
end
section
open Go.ChangeShapes Go.WideShapes Go.ChangeAt Go.RowKit Go.Sort
attribute [local go_sem] ah
variable {B b:Nat} {W w:ae}
theorem J9 {l:List UInt8} (h:Bld B b l w) (o:Obj):Bld B b l (w.alloc o):=Lib.IsBuilderF.alloc h o
theorem acw (w:ae):Bld w.heap.size w.heap.size [] (w.alloc (.cells #[.pointer none,.slice none 0 0] 113)):=Lib.IsBuilderF.of (Lib.fresh_isBuilder 113 5 w)
theorem Ko {T e:TypeId} {p:au} {bs:List au} {W':ae} (h:Lib.BuilderAtF T e B b p bs W) (a:gP W.heap.size W W'):Lib.BuilderAtF T e B b p bs W':=by
 have j:=h.lt;obtain⟨u,v,hv,f,i⟩:=h;exact⟨u,v,(a.block b j).trans hv,f.kept (row:=none) ⟨a.os,a.tape,a.output,a.size,λk q _=>a.block k q⟩ (Classical.em _),i⟩
theorem acy {l:List UInt8} {w':ae} (h:Bld B b l w) (a:Ext w w'):Bld B b l w':=h.elim (λx=> .inl (Ko x a)) (λx=> .inr (Ko x a))
theorem UA (l m:List UInt8):(⟨l.toArray⟩:ByteArray)++⟨m.toArray⟩=⟨(l++m).toArray⟩:=by
 apply ByteArray.ext;simp
theorem UN (a:List Int):runesBytes a=⟨(a.flatMap aY).toArray⟩:=by
 have key:∀(a:List Int) (m:List UInt8),a.foldl (λr n=>r++Utf8.encode n) (⟨m.toArray⟩:ByteArray)=⟨(m++a.flatMap aY).toArray⟩:=by
  intro a
  induction a with
  |nil=>intro m;simp
  |cons c a ih=>
   intro m;rw[List.foldl_cons,aeJ,UA,ih,eM,List.append_assoc]
 have:=key a [];rw[List.nil_append] at this;exact this
def bE (l:List En):List UInt8:=(D6 l).flatMap aY
theorem acC {l:List En} {k:Nat} {x:En} (h:l[k]? =some x):bE (l.take (k+1))=bE (l.take k)++if x.g then [] else aY x.ch:=by
 unfold bE D6;rw[List.take_add_one,h];cases a:x.g <;> simp[a]
theorem WE (c:Int):(aY c).length<=4:=by
 have:=AP [⟨0,0,0,0,0,0,c⟩];simpa[nK] using this
theorem aeS (l:List En):(bE l).length<=4*l.length:=by
 unfold bE;have e:=WM l;have key:∀a:List Int,(a.flatMap aY).length<=4*a.length:=by
  intro a
  induction a with
  |nil=>simp
  |cons c a ih=>rw[eM,List.length_append,ar];have:=WE c;omega
 have:=key (D6 l);omega
theorem lG.others {W':ae} {v:au} {l:List En} (h:lG w W v l) (f:gq 5 (some b) W W') (a:v.ownBlock≠some b):lG w W' v l:=by
 unfold lG jQ at h⊢;rcases h with⟨h1,h2|⟨g,cap,cur,h2,h3,h4,h5⟩⟩
 ·exact⟨h1,.inl h2⟩
 ·refine⟨h1,.inr ⟨g,cap,cur,h2,h3,?_,h5⟩⟩
  refine f g _ h4 (λe=>a ?_) (λc i e=>?_)
  ·rw[h2];exact e
  ·injection e with _ e _;exact absurd e δ
theorem LC.chs {F:Nat->Prop} {y:Lv} {L:List It} {G:List I2} {t:HT} {ad:I2->Nat} (h:LC F W y L G t ad):∀x∈kr L G,-2147483648<=x.ch/\x.ch<=2147483647:=by
 intro x e;obtain⟨a,q,rfl⟩:=List.mem_map.1 e;obtain⟨i,x,j,e,_⟩:=Cb (((nR h.nd.kn).all a).1 q);have f:=h.wf x (aD e);show-2147483648<=chI L a/\chI L a<=2147483647;rw[aaw j e];unfold wfI at f;omega
theorem aaU (y:Lv) (l:List En) (W:ae) (hb:l.length<=400000) (M:∀x∈l,-2147483648<=x.ch/\x.ch<=2147483647)
  (f:∀w',Ext W w'->aO pg 44 #[ixv (xl y)] w' λe X=>∃v,e= .returned v/\lG w' X v l/\Ext w' X):
  aO pg 24 #[lsv y] W λe w'=>e= .returned (.string (textE l))/\Ext W w':=by
 replace f:=ac f;replace M:=ac M;obtain⟨n,hn⟩:∃n,l.length=n:=⟨_,rfl⟩;rw[hn] at hb;replace hn:=ac hn;have u:Ext W (W.alloc (kS y)):=(Ext.refl W).alloc _;have bn:=acw (W.alloc (kS y));have q:Ext (W.alloc (kS y)) ((W.alloc (kS y)).alloc (.cells #[.pointer none,.slice none 0 0] 113)):=(Ext.refl _).alloc _;have O:(W.alloc (kS y)).heap.size=W.heap.size+1:=ι
 have K:W.heap.size+1<((W.alloc (kS y)).alloc (.cells #[.pointer none,.slice none 0 0] 113)).heap.size:=ι
 replace u:=ac u;replace q:=ac q;replace bn:=ac bn;go_enter func24,ntmps24
 go_wp2_with fail
 have a:=ac (f.out _ (u.out.trans q.out));clear f;generalize W.alloc (kS y)=j at*;generalize j.alloc (.cells #[.pointer none,.slice none 0 0] 113)=W1 at*;rw[<-O] at K⊢;replace O:=ac O;refine a.out.mono ?_;rintro e X ⟨v,rfl,o,x2⟩;have a0:v.ownBlock≠some j.heap.size:=λe=>by have:=(o.lt _ e).1;omega
 obtain⟨A,c,rfl,hc,hE⟩:=o.open;have ho:=ac (λW (hk:gq 5 (some j.heap.size) X W)=>(show EnS W A l by
  obtain⟨A',c',e,_,h⟩:=(o.others hk a0).open;injection e with e;rw[e];exact h))
 rw[hn.out];have a2:=ac (acy bn.out x2);have Y:=ac (q.out.trans x2);have N:=x2.lt K;clear bn q K a o hE a0 x2;go_wp2
 go_loopw [10] (λi W=>∃(k:Nat),k<=n/\i=Vi k/\Hid (Bld j.heap.size j.heap.size (bE (l.take k)) W)/\Hid (Ext j W)/\j.heap.size<W.heap.size/\Hid (gq 5 (some j.heap.size) X W)) (λi _=>n-(intOf i).toNat)
 case atStart=>exact⟨0,bN _,rfl,a2,Y,N,ac (Lib.OthersKept.refl _ _ _)⟩
 case round=>
  clear a2 Y N;obtain⟨k,hk,rfl,hB,hx,N,hO⟩:=hrel;by_cases a4:k<n
  ·obtain⟨b,o,x,rfl,hp,d⟩:=(ho.out wr hO.out).at (k:=k) (by rw[hn.out];exact a4)
   obtain⟨c0,c1,c2,c3⟩:=d;have Q:=ac (acC hp);have a1:=aeS (l.take k);rw[List.length_take] at a1;have H:=M.out x (aD hp);have a8:(0:Int)<=(k:Int):=ω
   have a7:(k:Int)<(n:Int):=ω
   have a:=ac (λ(o:Obj)=>writeRuneO_any j.heap.size j.heap.size (bE (l.take k)) x.ch H.1 H.2 (wr.alloc o) (J9 hB.out o) ω (by simp;omega));replace H:=ac H;clear hp a1;cases hg:x.g with
   |true=>
    rw[hg] at c3 Q;rw[if_pos rfl,bB] at Q;have a6:=ac (λo=>(J9 hB.out o));have I:=ac (λo=>(hO.out.alloc o));have z:=ac (λo=>hx.out.alloc o);clear hg a;go_wp2
    go_roundw
    case rel=>exact⟨k+1,ω,ν,ac (by rw[Q.out];exact a6.out _),z.out _,by simp;omega,I.out _⟩
    case measure=>simp[intOf];omega
   |false=>
    rw[hg] at c3 Q;rw[if_neg δ] at Q;have I:=ac (λo=>(hO.out.alloc o));have z:=ac (λo=>hx.out.alloc o);clear hg
    go_wp2_with fail
    refine(a.out _).mono ?_;rintro e w3 ⟨rfl,h2,U,h4⟩;replace h2:=ac h2;have J:=ac (Below.trans (z.out _) U);have a5:=ac ((I.out _).trans h4);have a3:j.heap.size<w3.heap.size:=by have:=U.size;simp at this;omega
    clear U h4 a z I;go_wp2
    go_roundw
    case rel=>exact⟨k+1,ω,ν,ac (by rw[Q.out];exact h2.out),J,a3,a5⟩
    case measure=>simp[intOf];omega
  ·obtain rfl:k=n:=ω
   rw[show l.take k=l from List.take_of_length_le (by rw[hn.out];exact Nat.le_refl _)] at hB;have Z:=ac (string_any j.heap.size j.heap.size (bE l) wr hB.out ω);have hr:=ac (show textE l=⟨(bE l).toArray⟩ from UN _);clear hB
   go_wp2_with fail
   refine Z.out.mono ?_;rintro e w3 ⟨rfl,_,U⟩;have J:=ac (u.out.trans (Below.trans hx.out U));clear U Z;go_wp2;go_ret;exact⟨by rw[hr.out];rfl,J.out⟩
theorem LC.text {F:Nat->Prop} {y:Lv} {L:List It} {G:List I2} {t:HT} {ad:I2->Nat} (h:LC F W y L G t ad) (a:L.length<=400000):
  aO pg 24 #[lsv y] W λe w'=>e= .returned (.string (textE (kr L G)))/\Ext W w':=
 aaU y _ W (by rw[h.len];exact a) h.chs λw' f=>acG w' _ _ (h.ext f).ix (by rw[h.len];exact a)
end
section
open Go.ChangeShapes Go.WideShapes Go.ChangeAt Go.RowKit Go.Sort
attribute [local go_sem] ah
attribute [local go_sem ↓] Zf
def lfR (x:It):I2:=if x.lc=0 then(0,0) else ilf x
variable {L:List It}
theorem adU {x:It} (a:kC L x=true):RtL L (lfR x):=by
 obtain⟨_,_,e,_⟩:=jG a;unfold lfR;by_cases h:x.lc=0
 ·rw[if_pos h];exact .inl rfl
 ·rw[if_neg h];exact .inr (e.resolve_left h)
theorem LC.aeE {F:Nat->Prop} {W:ae} {y:Lv} {G:List I2} {t:HT} {ad:I2->Nat} (h:LC F W y L G t ad) {x:It} (i:kC L x=true):
  aO pg 90 #[.pointer y.p,idv x.lc x.lk] W λe w'=>e= .returned (vAd ad (lfR x))/\Ext W w':=by
 obtain⟨_,_,f,_⟩:=jG i;unfold lfR;by_cases a:x.lc=0
 ·rw[if_pos a,sQ]
  exact h.RD (by rw[a];exact kH h.nd.kn _)
 ·rw[if_neg a,pK h.nd.kn (f.resolve_left a)]
  exact h.ML (f.resolve_left a)
abbrev rY (x:It):Obj:= .cells #[.int .u32 x.c,.int .u32 x.k,.int .u32 x.lc,.int .u32 x.lk,.int .u32 x.rc,.int .u32 x.rk,.int .i32 x.ch] 106
theorem LC.neighbours {F:Nat->Prop} {W:ae} {y:Lv} {G:List I2} {t:HT} {ad:I2->Nat} (h:LC F W y L G t ad) (hl:L.length<=360000) (x:It) (hx:kC L x=true):
  aO pg 144 #[itv x,.pointer y.p] W λe w'=>∃v,e= .returned v/\jS W w' v (nbs L x)/\Ext W w':=by
 obtain⟨N1,M⟩:∃N1,(if x.lc=0 then [] else [bare (ilf x) (0,0)]:List It)=N1:=⟨_,rfl⟩;obtain⟨N2,K⟩:∃N2,(if x.rc=0\/irt x=ilf x then [] else [bare (irt x) (if(nu L (irt x) (lfR x)).isSome then ilf x else(0,0))]:List It)=N2:=⟨_,rfl⟩;have b1:nbs L x=N1++N2:=by rw[<-M,<-K];rfl
 rw[b1];clear b1;have x0:Ext W (W.alloc (rY x)):=(Ext.refl W).alloc _;have f:=kI.newL W x;replace h:=ac h;replace K:=ac K;go_enter func144,ntmps144
 go_upto_if 10 with fail
 obtain⟨b,hb⟩:∃b,decide (x.lc=0)=b:=⟨_,rfl⟩;refine(vR hb _).mono ?_;rintro e w1 ⟨rfl,x1⟩;replace f:=f.ext x1;replace x0:=ac (x0.trans x1);obtain⟨pb,a4⟩:∃pb,W.heap.size=pb:=⟨_,rfl⟩;rw[a4] at f⊢;replace a4:=ac a4;obtain⟨k0,J,q,j,H,z,I⟩:=f.cells;simp only[aW] at k0 J q j H z I;clear x1
 go_upto_if 10 with fail
 go_cut [5] (λs wx=>∃v,s=v/\Hid (jS W wx v N1)/\Hid (kI wx pb x)/\Hid (Ext W wx))
 case first=>
  cases b with
  |true=>
   rw[if_pos (by simpa using hb)] at M;subst M;clear k0 J q j H z I;replace f:=ac f
   go_wp2_with fail
   go_meet;exact⟨_,rfl,ac (jS.nil _ _),f,x0⟩
  |false=>
   rw[if_neg (by simpa using hb)] at M;subst M;have b9:=ac f;clear f
   go_wp2_with(at_builtin;go_loud (refine kK (w0:=W) rfl (.tmp 11) (.tmp 15) rfl _ [] rfl (jS.nil _ _) (x0.out.alloc _) _ 1 1 [bare (ilf x) (0,0)] rfl rfl (ItS.new _ (bare (ilf x) (0,0))) ι ?_;intro v3 w3 o3 x3 g3 b3))
   go_meet;exact⟨_,rfl,ac o3,ac ((b9.out.ext ((Ext.refl _).alloc _)).grown g3 (λe=>by cases(show some pb=none from e))),ac x3⟩
 case rest=>
  obtain⟨v,rfl,ho,b2,a0⟩:=hcut;clear x0 f k0 J q j H z I hb;have f:=b2.out;obtain⟨k0,J,q,j,H,z,I⟩:=f.cells;simp only[aW] at k0 J q j H z I;clear b2;replace f:=ac f;obtain⟨r,hr⟩:∃r,decide (x.rc=0)=r:=⟨_,rfl⟩;cases r with
  |true=>
   have hN:=K.out;rw[if_pos (.inl (by simpa using hr))] at hN;subst hN
   go_wp2_with fail
   refine(vR hr _).mono ?_;rintro e Q ⟨rfl,x2⟩;have a:=ac (ho.out.ext x2);have hE:=ac (a0.out.trans x2);clear x2 k0 J q j H z I hr;go_wp2;go_ret;exact⟨_,rfl,by rw[bB];exact a.out,hE.out⟩
  |false=>
   have a1:x.rc≠0:=by simpa using hr
   obtain⟨B,hB⟩:∃B,BP x.rc x.rk x.lc x.lk=B:=⟨_,rfl⟩;cases B with
   |true=>
    have hN:=K.out;have e1:irt x=ilf x:=by
     unfold BP at hB;have:=of_decide_eq_true hB;exact Prod.ext this.1 this.2
    rw[if_pos (.inr e1)] at hN;subst hN;clear e1
    go_wp2_with fail
    refine(vR hr _).mono ?_;rintro e Q ⟨rfl,x2⟩;have a:=ac (ho.out.ext x2);have hE:=ac (a0.out.trans x2);obtain⟨k0,J,q,j,H,z,I⟩:=(f.out.ext x2).cells;simp only[aW] at k0 J q j H z I;clear x2 hr a1;go_wp2;go_ret;exact⟨_,rfl,by rw[bB];exact a.out,hE.out⟩
   |false=>
    have hN:=K.out;have e1:¬irt x=ilf x:=by
     unfold BP at hB;intro e;exact of_decide_eq_false hB ⟨congrArg iw e,congrArg iY e⟩
    rw[if_neg (λe=>e.elim a1 e1)] at hN;have a3:=(jG hx).2.2.2.resolve_left a1;have Y:=ac (λw' (hw:Ext W w')=>(h.out.ext hw).ML (c:=x.rc) (k:=x.rk) a3);have X:=ac (λw' (hw:Ext W w')=>(h.out.ext hw).aeE hx);have u:=ac (λw' (hw:Ext W w')=>Ap w' (h.out.ext hw).nd a3 (adU hx) ω);clear e1 a1 a3;obtain⟨pf,b0⟩:=qo ad (lfR x);rw[b0] at X u;clear b0;change Hid (∀w',Ext W w'->aO pg 90 #[.pointer y.p,idv x.rc x.rk] w' λe Q=>e= .returned (Vp (ad (irt x)))/\Ext w' Q) at Y;generalize ad (irt x)=pr at*;obtain⟨R,hR⟩:∃R,nu L (irt x) (lfR x)=R:=⟨_,rfl⟩;rw[hR] at u hN;clear hR
    go_wp2_with fail
    refine(vR hr _).mono ?_;rintro e Q ⟨rfl,x2⟩;have a:=ac (ho.out.ext x2);have hE:=ac (a0.out.trans x2);replace f:=f.out.ext x2;obtain⟨k0,J,q,j,H,z,I⟩:=f.cells;simp only[aW] at k0 J q j H z I;replace f:=ac f;have Z:=kI.newL Q (bare (irt x) (0,0));have O:Ext Q (Q.alloc (rY (bare (irt x) (0,0)))):=(Ext.refl _).alloc _;clear x2 hr ho a0;rw[show(bare (irt x) (0,0))=⟨x.rc,x.rk,0,0,0,0,0⟩ from rfl] at Z O;have a9:W.heap.size<=Q.heap.size:=hE.out.size;have b4:u5.ownBlock≠some Q.heap.size:=λe=>by have:=(a.out.lt _ e).2;omega
    have d1:N1.length<=1:=by rw[<-M];split <;> simp
    go_wp2_with fail
    have i:=ac (hE.out.trans O);replace a:=ac (a.out.ext O);replace k0:=O.keep k0;replace J:=O.keep J;replace q:=O.keep q;replace j:=O.keep j;replace H:=O.keep H;replace z:=O.keep z;replace I:=O.keep I;clear O;generalize Q.alloc (rY ⟨x.rc,x.rk,0,0,0,0,0⟩)=w3 at*;generalize Q.heap.size=N at*;have a8:=q;have a7:=j;replace q:=ai q;replace j:=ai j;replace H:=ai H;replace z:=ai z;clear k0 J I;cases R with
    |none=>
     rw[show hgV ad none=qF from rfl] at u;subst hN;refine ax κ κ ?_
     repeat go_big_quiet_step((first|with_reducible exact Calls.jA (Y.out _ (i.out.trans (Ext.jv _ _ _)))|with_reducible exact Calls.jA (X.out _ (i.out.trans (Ext.jv _ _ _)))|with_reducible exact Calls.sw (u.out _ (i.out.trans (Ext.jv _ _ _)))))
     refine bh ?_;intro _ a2;obtain⟨⟨dq,osq⟩,U⟩:=a2;subst U;have xr:=Ext.jv w3 dq osq;have a6:=ac (i.out.trans xr);have a5:=ac (a.out.ext xr);replace Z:=Z.ext xr;replace q:=q dq osq;replace j:=j dq osq;clear a8 a7 H z xr i a Y X u f;generalize grow (eK w3 dq) osq=w4 at*;obtain⟨n0,n1,n2,n3,n4,n5,n6⟩:=Z.cells;simp only[aW] at n0 n1 n2 n3 n4 n5 n6;clear Z
     go_wp2_with(at_builtin;go_loud (refine kK (w0:=W) rfl (.tmp 44) (.tmp 46) rfl _ N1 rfl (a5.out.ext ((Ext.refl _).alloc _)) (a6.out.alloc _) _ 1 1 [bare (irt x) (0,0)] rfl rfl (ItS.new _ (bare (irt x) (0,0))) (by simp only[ar,aG];omega) ?_;intro v5 w5 o5 x5 g5 b5))
     go_ret;exact⟨_,rfl,o5,x5⟩
    |some c=>
     rw[show hgV ad (some c)=Vp (ad c) from rfl] at u;subst hN;generalize ad c=pc at*;refine ax κ κ ?_
     repeat go_big_quiet_step((first|with_reducible exact Calls.jA (Y.out _ (i.out.trans (Ext.jv _ _ _)))|with_reducible exact Calls.jA (X.out _ (i.out.trans (Ext.jv _ _ _)))|with_reducible exact Calls.sw (u.out _ (i.out.trans (Ext.jv _ _ _)))))
     refine bh ?_;intro _ a2;obtain⟨⟨dq,osq⟩,U⟩:=a2;subst U;have xr:=Ext.jv w3 dq osq;have a6:=ac (i.out.trans xr);have a5:=ac (a.out.ext xr);replace Z:=Z.ext xr;replace q:=q dq osq;replace j:=j dq osq;clear a8 a7 H z xr i a Y X u f;generalize grow (eK w3 dq) osq=w4 at*;have f2:=Z.lg 2;have f3:=Z.lg 3;obtain⟨n0,n1,n2,n3,n4,n5,n6⟩:=Z.cells;simp only[aW] at n0 n1 n2 n3 n4 n5 n6;clear Z;have b6:=ac (a5.out.kept (show w4.grownBy ((w4.setCell ⟨N,2,none⟩ (Vu x.lc)).setCell ⟨N,3,none⟩ (Vu x.lk)) (some N) from((RX.refl N w4).set 2 _ (.inr rfl)).set 3 _ (.inr rfl)) (.inr b4));have b7:=ac (show ItS (((w4.setCell ⟨N,2,none⟩ (Vu x.lc)).setCell ⟨N,3,none⟩ (Vu x.lk)).alloc (.cells #[Vu x.rc,Vu x.rk,Vu x.lc,Vu x.lk,Vu 0,Vu 0,.int .i32 0] 106)) (some ⟨w4.heap.size,0,none⟩) [bare (irt x) (ilf x)] from by
        have h5:=ItS.new ((w4.setCell ⟨N,2,none⟩ (Vu x.lc)).setCell ⟨N,3,none⟩ (Vu x.lk)) (bare (irt x) (ilf x));rwa[show((w4.setCell ⟨N,2,none⟩ (Vu x.lc)).setCell ⟨N,3,none⟩ (Vu x.lk)).heap.size=w4.heap.size by simp[World.setCell]] at h5)
     have b8:=ac ((a6.out.setCell (p:=⟨N,2,none⟩) a9 (Vu x.lc)).setCell (p:=⟨N,3,none⟩) a9 (Vu x.lk))
     go_wp2_with(at_builtin;go_loud (refine kK (w0:=W) rfl (.tmp 44) (.tmp 46) rfl _ N1 rfl (b6.out.ext ((Ext.refl _).alloc _)) (b8.out.alloc _) _ 1 1 [bare (irt x) (ilf x)] rfl rfl b7.out (by simp only[ar,aG];omega) ?_;intro v5 w5 o5 x5 g5 b5))
     go_ret;exact⟨_,rfl,o5,x5⟩
end
section
open Go.ChangeShapes Go.WideShapes Go.ChangeAt Go.RowKit Go.Sort
attribute [local go_sem] ah calm jL jH
section
variable {F:Nat->Prop} {G:List I2} {L:List It} {W:ae} {a:I2} {ad:I2->Nat} {t:HT} {x:It} {y:Lv}
theorem OZ (q:kC L x=true):RtL L (hgP L x).on:=by
 obtain⟨_,_,j,i⟩:=jG q;by_cases f:x.rc=0
 ·rw[yH f]
  by_cases e:x.lc=0
  ·rw[if_pos e];exact .inl rfl
  ·rw[if_neg e];exact .inr (j.resolve_left e)
 ·by_cases e:x.lc=0
  ·rw[Mc f e];exact .inr (i.resolve_left f)
  ·rw[DT f e]
   split
   ·exact .inr (i.resolve_left f)
   ·exact .inr (j.resolve_left e)
theorem abw (a:I2):ltI a a=false:=by
 cases h:ltI a a with
 |false=>rfl
 |true=>have:=mR h;rw[h] at this;cases this
theorem aaf (a b c d:Int):(mK a b c d= -1/\ltI (c,d) (a,b)=false)\/(mK a b c d=0/\ltI (c,d) (a,b)=false)\/(mK a b c d=1/\ltI (c,d) (a,b)=true):=by
 rcases aco a b c d with⟨h1,h2⟩|⟨h1,rfl,rfl⟩|⟨h1,h2⟩
 ·exact .inl ⟨h1,mR h2⟩
 ·exact .inr (.inl ⟨h1,abw _⟩)
 ·exact .inr (.inr ⟨h1,h2⟩)
def rtA (r:Option I2) (b:I2):Bool:=match r with
 |none=>true
 |some c=>ltI b c
def lfA (r:Option I2) (b:I2):Bool:=match r with
 |none=>false
 |some c=>ltI b c
theorem D5 {p:Prop} (h:p:=by
 clear hcm ho
 go_wp2_with fail
 refine ax κ κ ?_
 repeat go_big_quiet_step((with_reducible exact Calls.jA (hcc.out _)))
 refine bh ?_;intro _ hw';obtain⟨⟨dq,osq⟩,hw''⟩:=hw';subst hw'';have xE:=ac (xr.out.trans (Ext.jv w1 dq osq));go_wp2;go_ret;exact⟨hres.out,xE.out⟩):p:=h
theorem aat {p:Prop} (h:p:=by
 obtain rfl:qF=V:=hV.out;clear hV hRi hL
 go_wp2_with fail
 refine ax κ κ ?_
 repeat go_big_quiet_step((fail))
 refine bh ?_;intro _ hw';obtain⟨⟨dq,osq⟩,hw''⟩:=hw';subst hw'';have xE:=ac (xr.out.trans (Ext.jv w1 dq osq));go_wp2;go_ret;exact⟨rfl,xE.out⟩):p:=h
theorem Qx (h:LC F W y L G t ad) (hl:L.length<=360000) (x:It) (Z bf bn nn:Nat) (on:I2) (d:Int) (vf:au) (r:Bool) (M:BxL W Z y) (z k:Nat) (H:W.cell? ⟨bf,0,none⟩=some (Vi (z:Int))) (j:W.cell? ⟨bn,0,none⟩=some (Vp nn))
  (X:NC W nn x (vAd ad on) r d vf) (J:RtL L on) {a:I2} (N:(lM L)[z+k]? =some a):
  aO pg 183 (#[Vi (k:Int)]++ #[.pointer (some ⟨Z,0,none⟩),.pointer (some ⟨bf,0,none⟩),.pointer (some ⟨bn,0,none⟩)]) W λe w'=>e= .returned (.bool (rtA (nu L a on) (iid x)))/\Ext W w':=by
 have a3:z+k<=360000:=by have:=kJ N;rw[rD h.nd.kn] at this;omega
 have i:=ac (λw' (U:Ext W w')=>(h.ext U).nodeAt ω N);have f:=ac (λw' (U:Ext W w')=>Ap w' (h.ext U).nd (oh h.nd.kn N) J ω);obtain⟨R,hR⟩:∃R,nu L a on=R:=⟨_,rfl⟩;have hRi:∀c,R=some c->jw L c=true:=λc e=>by
  rcases Fj L a on with⟨s,c',r,e1,e2⟩|⟨_,e2⟩
  ·rw[e2] at hR
   rw[<-hR] at e;injection e with e;subst e;exact(rz h.nd.kn (oh h.nd.kn N) e1).1
  ·rw[e2] at hR
   rw[<-hR] at e;cases e
 rw[hR] at f⊢;replace hRi:=ac hRi;replace h:=ac h;obtain⟨a0,Zj⟩:=qo ad on;rw[Zj] at X f;clear hR Zj J N;obtain⟨V,hV⟩:∃V,hgV ad R=V:=⟨_,rfl⟩;rw[hV] at f;replace hV:=ac hV;obtain⟨pa,I⟩:∃pa,ad a=pa:=⟨_,rfl⟩;rw[I] at i f;clear I;rw[show((z+k:Nat):Int)=(z:Int)+(k:Int) by omega] at i;have Q:cJ.wrap ((z:Int)+(k:Int))=(z:Int)+(k:Int):=bP _ ω;have a4:(z:Int)<=360000:=ω
 have a2:(k:Int)<=360000:=ω
 obtain⟨c0,c1,_,_,_,_,_,c7,_,_,_⟩:=X.cells;obtain⟨b0,b1,b2,b3,b4,b5,b6,b7,b8⟩:=M.cells;have xd:Ext W W:=Ext.refl W;show aO pg _ #[Vi (k:Int),.pointer (some ⟨Z,0,none⟩),.pointer (some ⟨bf,0,none⟩),.pointer (some ⟨bn,0,none⟩)] W _;have u:=c0;have q:=c1;have O:=j;clear X M Q;replace H:=ai H;replace j:=ai j;replace c7:=ai c7;replace b0:=ai b0;replace b1:=ai b1;replace b2:=ai b2;replace b3:=ai b3;replace b4:=ai b4;replace b5:=ai b5;replace b6:=ai b6;replace b7:=ai b7;replace b8:=ai b8;clear c0 c1;go_enter func183,ntmps183
 go_wp2_with fail
 refine ax κ κ ?_
 repeat go_big_quiet_step((first|with_reducible exact Calls.jA (i.out _ (Ext.jv _ _ _))|with_reducible exact Calls.sw (f.out _ (Ext.jv _ _ _))))
 refine bh ?_;intro _ hw';obtain⟨⟨dq,osq⟩,hw''⟩:=hw';subst hw'';have xr:=Ext.jv W dq osq;replace u:=xr.keep u;replace q:=xr.keep q;replace O:=xr.keep O;have hL:=ac (h.out.ext xr);clear b0 b1 b2 b3 b4 b5 b6 b7 b8 H j c7 i f xd;replace xr:=ac xr;generalize grow (eK W dq) osq=w1 at*;cases R with
 |none=>
  exact aat
 |some c=>
  obtain⟨c1,c2⟩:=c;obtain⟨x2,a1,MN,r2,q2,Rh,_,_,_,_,_,K⟩:=hL.out.nd.get (hRi.out _ rfl);obtain⟨d0,Y,_,_,_,_,_,_,_,_,_⟩:=K.cells;rw[show x2.c=c1 from congrArg iw Rh] at d0;rw[show x2.k=c2 from congrArg iY Rh] at Y;obtain rfl:Vp (ad (c1,c2))=V:=hV.out;generalize ad (c1,c2)=pc at*;replace d0:=ai d0;replace Y:=ai Y;replace u:=ai u;replace q:=ai q;replace O:=ai O;clear hV hRi hL K Rh;rcases aaf c1 c2 x.c x.k with⟨hcm,ho⟩|⟨hcm,ho⟩|⟨hcm,ho⟩
  ·have hcc:=ac (λw'=>qy hcm w')
   have hres:=ac (show bK (.bool false)=bK (.bool (rtA (some (c1,c2)) (iid x))) from by rw[show rtA (some (c1,c2)) (iid x)=ltI (x.c,x.k) (c1,c2) from rfl,ho]);exact D5
  ·have hcc:=ac (λw'=>qy hcm w')
   have hres:=ac (show bK (.bool false)=bK (.bool (rtA (some (c1,c2)) (iid x))) from by rw[show rtA (some (c1,c2)) (iid x)=ltI (x.c,x.k) (c1,c2) from rfl,ho]);exact D5
  ·have hcc:=ac (λw'=>qy hcm w')
   have hres:=ac (show bK (.bool true)=bK (.bool (rtA (some (c1,c2)) (iid x))) from by rw[show rtA (some (c1,c2)) (iid x)=ltI (x.c,x.k) (c1,c2) from rfl,ho]);exact D5
theorem Vy (h:LC F W y L G t ad) (hl:L.length<=360000) (x:It) (U X nn:Nat) (on:I2) (d:Int) (vf:au) (r:Bool) (J:BxL W U y) (k:Nat) (i:W.cell? ⟨X,0,none⟩=some (Vp nn))
  (O:NC W nn x (vAd ad on) r d vf) (H:RtL L on) {a:I2} (K:(lM L)[k]? =some a):
  aO pg 185 (#[Vi (k:Int)]++ #[.pointer (some ⟨U,0,none⟩),.pointer (some ⟨X,0,none⟩)]) W λe w'=>e= .returned (.bool (lfA (nu L a on) (iid x)))/\Ext W w':=by
 have a3:k<=360000:=by have:=kJ K;rw[rD h.nd.kn] at this;omega
 have u:=ac (λw' (N:Ext W w')=>(h.ext N).nodeAt ω K);have f:=ac (λw' (N:Ext W w')=>Ap w' (h.ext N).nd (oh h.nd.kn K) H ω);obtain⟨R,hR⟩:∃R,nu L a on=R:=⟨_,rfl⟩;have hRi:∀c,R=some c->jw L c=true:=λc e=>by
  rcases Fj L a on with⟨s,c',r,e1,e2⟩|⟨_,e2⟩
  ·rw[e2] at hR
   rw[<-hR] at e;injection e with e;subst e;exact(rz h.nd.kn (oh h.nd.kn K) e1).1
  ·rw[e2] at hR
   rw[<-hR] at e;cases e
 rw[hR] at f⊢;replace hRi:=ac hRi;replace h:=ac h;obtain⟨a0,Zj⟩:=qo ad on;rw[Zj] at O f;clear hR Zj H K;obtain⟨V,hV⟩:∃V,hgV ad R=V:=⟨_,rfl⟩;rw[hV] at f;replace hV:=ac hV;obtain⟨pa,z⟩:∃pa,ad a=pa:=⟨_,rfl⟩;rw[z] at u f;clear z;have a2:(k:Int)<=360000:=ω
 obtain⟨c0,c1,_,_,_,_,_,c7,_,_,_⟩:=O.cells;obtain⟨b0,b1,b2,b3,b4,b5,b6,Z,Y⟩:=J.cells;have xd:Ext W W:=Ext.refl W;show aO pg _ #[Vi (k:Int),.pointer (some ⟨U,0,none⟩),.pointer (some ⟨X,0,none⟩)] W _;have q:=c0;have j:=c1;have M:=i;clear O J;replace i:=ai i;replace c7:=ai c7;replace b0:=ai b0;replace b1:=ai b1;replace b2:=ai b2;replace b3:=ai b3;replace b4:=ai b4;replace b5:=ai b5;replace b6:=ai b6;replace Z:=ai Z;replace Y:=ai Y;clear c0 c1;go_enter func185,ntmps185
 go_wp2_with fail
 refine ax κ κ ?_
 repeat go_big_quiet_step((first|with_reducible exact Calls.jA (u.out _ (Ext.jv _ _ _))|with_reducible exact Calls.sw (f.out _ (Ext.jv _ _ _))))
 refine bh ?_;intro _ hw';obtain⟨⟨dq,osq⟩,hw''⟩:=hw';subst hw'';have xr:=Ext.jv W dq osq;replace q:=xr.keep q;replace j:=xr.keep j;replace M:=xr.keep M;have hL:=ac (h.out.ext xr);clear b0 b1 b2 b3 b4 b5 b6 Z Y i c7 u f xd;replace xr:=ac xr;generalize grow (eK W dq) osq=w1 at*;cases R with
 |none=>
  exact aat
 |some c=>
  obtain⟨c1,c2⟩:=c;obtain⟨x2,a1,MN,r2,q2,Rh,_,_,_,_,_,I⟩:=hL.out.nd.get (hRi.out _ rfl);obtain⟨d0,Q,_,_,_,_,_,_,_,_,_⟩:=I.cells;rw[show x2.c=c1 from congrArg iw Rh] at d0;rw[show x2.k=c2 from congrArg iY Rh] at Q;obtain rfl:Vp (ad (c1,c2))=V:=hV.out;generalize ad (c1,c2)=pc at*;replace d0:=ai d0;replace Q:=ai Q;replace q:=ai q;replace j:=ai j;replace M:=ai M;clear hV hRi hL I Rh;rcases aaf c1 c2 x.c x.k with⟨hcm,ho⟩|⟨hcm,ho⟩|⟨hcm,ho⟩
  ·have hcc:=ac (λw'=>qy hcm w')
   have hres:=ac (show bK (.bool false)=bK (.bool (lfA (some (c1,c2)) (iid x))) from by rw[show lfA (some (c1,c2)) (iid x)=ltI (x.c,x.k) (c1,c2) from rfl,ho]);exact D5
  ·have hcc:=ac (λw'=>qy hcm w')
   have hres:=ac (show bK (.bool false)=bK (.bool (lfA (some (c1,c2)) (iid x))) from by rw[show lfA (some (c1,c2)) (iid x)=ltI (x.c,x.k) (c1,c2) from rfl,ho]);exact D5
  ·have hcc:=ac (λw'=>qy hcm w')
   have hres:=ac (show bK (.bool true)=bK (.bool (lfA (some (c1,c2)) (iid x))) from by rw[show lfA (some (c1,c2)) (iid x)=ltI (x.c,x.k) (c1,c2) from rfl,ho]);exact D5
theorem wT {l:List It} (h:jy l=true) (e:kC l x=true) (f:(hgP l x).right=false) (j:jw l a=true) (i:ltP (pth l a) (pth l (hgP l x).on)=true):lfA (nu l a (hgP l x).on) (iid x)=ltP (tq l x) (pth l a):=by
 rw[<-Vw h e f j i];unfold lfA;cases nu l a (hgP l x).on <;> rfl
theorem uG {l:List It} (h:jy l=true) (e:kC l x=true) (f:(hgP l x).right=true) (j:jw l a=true) (i:(hgP l x).on=(0,0)\/ltP (pth l (hgP l x).on) (pth l a)=true):rtA (nu l a (hgP l x).on) (iid x)=ltP (tq l x) (pth l a):=by
 rw[<-Qv h e f j i];unfold rtA;cases nu l a (hgP l x).on <;> rfl
def lfP (L:List It) (on:I2) (x:It) (j:Nat):Bool:=match (lM L)[j]? with
 |none=>false
 |some a=>lfA (nu L a on) (iid x)
theorem G5 {on:I2} {j:Nat} (h:(lM L)[j]? =some a):lfP L on x j=lfA (nu L a on) (iid x):=by unfold lfP;rw[h]
def rtP (L:List It) (on:I2) (x:It) (j:Nat):Bool:=match (lM L)[j]? with
 |none=>false
 |some a=>rtA (nu L a on) (iid x)
theorem F7 {on:I2} {j:Nat} (h:(lM L)[j]? =some a):rtP L on x j=rtA (nu L a on) (iid x):=by unfold rtP;rw[h]
def PlS (L:List It) (x:It) (W:ae) (e:Ending) (w':ae):Prop:=∃p:Nat,e= .returned (Vi (p:Int))/\xH L x p/\Ext W w'
theorem LC.ag6 (h:LC F W y L G t ad) (f:L.length<=360000) {n:Nat} (hn:L.length=n):aO pg 182 #[ixv (xl y)] W λe w'=>e= .returned (Vi (n:Int))/\Ext W w':=by
 rw[<-hn,<-h.len];exact adW W _ _ h.ix (by rw[h.len];omega)
theorem LC.adg (h:LC F W y L G t ad) (i:L.length<=360000) {c k:Int} {q:Nat} (f:jY (kr L G) c k=some q):aO pg 141 #[ixv (xl y),idv c k] W λe w'=>e= .returned (.tuple #[Vi (q:Int),.bool true])/\Ext W w':=by
 have:=Fq W _ _ c k h.ix (by rw[h.len];omega);rwa[(JX f).1,(JX f).2] at this
theorem LC.Vx (h:LC F W y L G t ad) (hl:L.length<=360000) (x:It) (Y:kC L x=true) (Z:(hgP L x).right=false) (K:Nat) (d:Int) (vf:au) (r:Bool) (hc:NC W K x (vAd ad (hgP L x).on) r d vf) (z:jw L (hgP L x).on=true):
  aO pg 149 #[lsv y,Vp K] W (PlS L x W):=by
 obtain⟨on,J⟩:∃on,(hgP L x).on=on:=⟨_,rfl⟩;obtain⟨o1,Q⟩:=on;rw[J] at hc z;obtain⟨q,hq⟩:=yL (show BS (kr L G) o1 Q=true by rw[wW h.nd.kn];exact z);have f:=PE G hq;have b9:q<360000:=by have:=kJ f;rw[rD h.nd.kn] at this;omega
 obtain⟨xo,_,_,_,_,U,_,_,_,_,_,a5⟩:=h.nd.get z;have x0:Ext W ((W.alloc (kS y)).alloc (.cells #[Vp K] 185)):=((Ext.refl W).alloc _).alloc _;have bl:=(BxL.new W y).ext ((Ext.refl _).alloc (.cells #[Vp K] 185));have H:((W.alloc (kS y)).alloc (.cells #[Vp K] 185)).cell? ⟨W.heap.size+1,0,none⟩=some (Vp K):=σ
 have hs:=ac (λO (X:Ext W O) (b1:BxL O W.heap.size y) (b2:O.cell? ⟨W.heap.size+1,0,none⟩=some (Vp K))=>Ei O 185 #[.pointer (some ⟨W.heap.size,0,none⟩),.pointer (some ⟨W.heap.size+1,0,none⟩)] q (lfP L (o1,Q) x) (λargs w=>σ) ω
  (λw2 M j hj=>by
   obtain⟨a,u⟩:∃a,(lM L)[j]? =some a:=⟨_,ay (by have:=kJ f;omega)⟩;rw[G5 u];exact Vy (h.ext (X.trans M)) hl x W.heap.size (W.heap.size+1) K (o1,Q) d vf r (b1.ext M) j (M.keep b2) (hc.ext (X.trans M)) (.inr z) u)
  (λi j a7 hj hi=>by
   obtain⟨a,u⟩:∃a,(lM L)[i]? =some a:=⟨_,ay (by have:=kJ f;omega)⟩;obtain⟨b,hb⟩:∃b,(lM L)[j]? =some b:=⟨_,ay (by have:=kJ f;omega)⟩;rw[G5 u] at hi;rw[G5 hb];have a9:=xZ h.nd.kn u f ω;have a8:=xZ h.nd.kn hb f ω;have e1:=wT h.nd.kn Y Z (oh h.nd.kn u) (by rw[J];exact a9);have e2:=wT h.nd.kn Y Z (oh h.nd.kn hb) (by rw[J];exact a8);rw[J] at e1 e2;rw[e1] at hi;rw[e2];exact Js h.nd.kn x u hb a7 hi))
 have N:=ac (show∀k:Nat,(k<=q/\(∀t,t<k->lfP L (o1,Q) x t=false)/\(∀t,k<=t->t<q->lfP L (o1,Q) x t=true))->xH L x k from by
  rintro k ⟨h1,h2,h3⟩;refine QU h.nd.kn Y Z (q:=q) h1 (by rw[J];exact f) (λj a hj u=>?_) (λj a hj a3 u=>?_)
  ·have e1:=wT h.nd.kn Y Z (oh h.nd.kn u) (by rw[J];exact xZ h.nd.kn u f ω)
   rw[<-e1,J,<-G5 u];exact h2 j hj
  ·have e1:=wT h.nd.kn Y Z (oh h.nd.kn u) (by rw[J];exact xZ h.nd.kn u f a3)
   rw[<-e1,J,<-G5 u];exact h3 j hj a3)
 have a4:=ac (λw' (hw:Ext W w')=>(h.ext hw).adg hl hq);rw[pK h.nd.kn z] at hc;obtain⟨_,_,_,_,_,_,_,c7,_,_,_⟩:=hc.cells;obtain⟨d0,d1,_,_,_,_,_,_,_,_,_⟩:=a5.cells;rw[show xo.c=o1 from congrArg iw U] at d0;rw[show xo.k=Q from congrArg iY U] at d1;generalize ad (o1,Q)=po at*;replace c7:=x0.keep c7;replace d0:=x0.keep d0;replace d1:=x0.keep d1;obtain⟨b0,b1,b2,b3,b4,b5,b6,b7,b8⟩:=bl.cells;clear hc a5 U f z h Y Z hq;replace Sd:=ac H;go_enter func149,ntmps149
 go_wp2_with fail
 generalize(W.alloc (kS y)).alloc (.cells #[Vp K] 185)=O at*;obtain⟨pb,a2⟩:∃pb,W.heap.size=pb:=⟨_,rfl⟩;obtain⟨pn,a1⟩:∃pn,pb+1=pn:=⟨_,rfl⟩;rw[a2] at b0 b1 b2 b3 b4 b5 b6 b7 b8 bl hs H Sd⊢;rw[a1] at H Sd hs⊢;clear a1 a2;replace b0:=ai b0;replace b1:=ai b1;replace b2:=ai b2;replace b3:=ai b3;replace b4:=ai b4;replace b5:=ai b5;replace b6:=ai b6;replace b7:=ai b7;replace b8:=ai b8;replace H:=ai H;replace c7:=ai c7;replace d0:=ai d0;replace d1:=ai d1;replace bl:=ac bl;refine ax κ κ ?_
 repeat go_big_quiet_step((with_reducible exact Calls.jA (a4.out _ (x0.trans (Ext.jv _ _ _)))))
 refine bh ?_;intro _ a6;obtain⟨⟨dq,osq⟩,a0⟩:=a6;subst a0;have xr:=Ext.jv O dq osq;have X:=ac (x0.trans xr);have I:=ac (hs.out _ X.out (bl.out.ext xr) (xr.keep Sd.out));clear b0 b1 b2 b3 b4 b5 b6 b7 b8 H c7 d0 d1 x0 hs a4 bl Sd xr;generalize grow (eK O dq) osq=w2 at*
 go_wp2_with fail
 refine I.out.mono ?_;rintro e w3 ⟨k,rfl,hk,x3⟩;have hP:=ac (N.out k hk);replace X:=ac (X.out.trans x3);clear hk N x3 I;go_wp2;go_ret;exact⟨k,rfl,hP.out,X.out⟩
theorem LC.N7 (h:LC F W y L G t ad) (hl:L.length<=360000) (x:It) (K:kC L x=true) (Q:(hgP L x).right=true) (nn:Nat) (d:Int) (vf:au) (r:Bool) (hc:NC W nn x (vAd ad (hgP L x).on) r d vf)
  (z Z bf bn:Nat) (X:((hgP L x).on=(0,0)/\z=0)\/(∃q,z=q+1/\(lM L)[q]? =some (hgP L x).on)) (J:ae) (hE:Ext W J) (b1:BxL J Z y) (b2:J.cell? ⟨bf,0,none⟩=some (Vi (z:Int))) (b3:J.cell? ⟨bn,0,none⟩=some (Vp nn)) {N:Nat} (hN:N=L.length-z):
  aO pg 181 #[Vi (N:Int),.func (.func 183) #[] #[.pointer (some ⟨Z,0,none⟩),.pointer (some ⟨bf,0,none⟩),.pointer (some ⟨bn,0,none⟩)]] J λe w'=>(∃k:Nat,e= .returned (Vi (k:Int))/\(k<=360000/\xH L x (z+k)))/\Ext J w':=by
 subst hN;have O:=OZ K;obtain⟨on,I⟩:∃on,(hgP L x).on=on:=⟨_,rfl⟩;rw[I] at hc X O;have a1:=rD h.nd.kn;have a3:z<=L.length:=by
  rcases X with⟨_,e⟩|⟨q,e,hq⟩
  ·omega
  ·have:=kJ hq;omega
 have u:∀j a,(lM L)[z+j]? =some a->on=(0,0)\/ltP (pth L on) (pth L a)=true:=by
  intro j a f;rcases X with⟨e,_⟩|⟨q,e,hq⟩
  ·exact .inl e
  ·exact .inr (xZ h.nd.kn hq f ω)
 refine(Ei J 183 #[.pointer (some ⟨Z,0,none⟩),.pointer (some ⟨bf,0,none⟩),.pointer (some ⟨bn,0,none⟩)] (L.length-z) (λj=>rtP L on x (z+j)) (λargs w=>σ) ω
  (λw2 H j U=>by
   obtain⟨a,f⟩:∃a,(lM L)[z+j]? =some a:=⟨_,ay ω⟩;simp only[F7 f];exact Qx (h.ext (hE.trans H)) hl x Z bf bn nn on d vf r (b1.ext H) z j (H.keep b2) (H.keep b3) (hc.ext (hE.trans H)) O f)
  (λi j a2 U hi=>by
   obtain⟨a,f⟩:∃a,(lM L)[z+i]? =some a:=⟨_,ay ω⟩;obtain⟨b,Y⟩:∃b,(lM L)[z+j]? =some b:=⟨_,ay ω⟩;simp only[F7 f] at hi;simp only[F7 Y];have M:=uG h.nd.kn K Q (oh h.nd.kn f) (by rw[I];exact u _ _ f);have e2:=uG h.nd.kn K Q (oh h.nd.kn Y) (by rw[I];exact u _ _ Y);rw[I] at M e2;rw[M] at hi;rw[e2];exact Js h.nd.kn x f Y ω hi)).mono ?_
 rintro e w' ⟨k,rfl,⟨h1,h2,h3⟩,a0⟩;refine⟨⟨k,rfl,ω,?_⟩,a0⟩;refine NZ h.nd.kn K Q ω (by rw[I];exact X) (λj a U f=>?_) (λj a U f=>?_)
 ·have M:=uG h.nd.kn K Q (oh h.nd.kn f) (by rw[I];exact u _ _ f)
  rw[<-M,I,<-F7 f];exact h2 j U
 ·have M:=uG h.nd.kn K Q (oh h.nd.kn f) (by rw[I];exact u _ _ f)
  rw[<-M,I,<-F7 f];exact h3 j U (by have:=kJ f;omega)
theorem LC.Qw (h:LC F W y L G t ad) (hl:L.length<=360000) (x:It) (hx:kC L x=true) (hr:(hgP L x).right=true) (J:Nat) (d:Int) (vf:au) (r:Bool) (hc:NC W J x (vAd ad (hgP L x).on) r d vf):
  aO pg 148 #[lsv y,Vp J] W (PlS L x W):=by
 have a7:=OZ hx;obtain⟨on,uW⟩:∃on,(hgP L x).on=on:=⟨_,rfl⟩;obtain⟨o1,j⟩:=on;have hs:=ac (λf bx bf bn hf w1 hE b1 b2 b3 N hN=>h.N7 hl x hx hr J d vf r hc f bx bf bn hf w1 hE b1 b2 b3 (N:=N) hN);have d7:=ac (rD h.nd.kn);have a5:=ac (λw' (hw:Ext W w')=>(h.ext hw).ag6 hl rfl);rw[uW] at hc a7 hs;have x0:Ext W (((W.alloc (kS y)).alloc (.cells #[Vp J] 185)).alloc (.cells #[Vi 0] 3)):=(((Ext.refl W).alloc _).alloc _).alloc _;have bl:=((BxL.new W y).ext ((Ext.refl _).alloc (.cells #[Vp J] 185))).ext ((Ext.refl _).alloc (.cells #[Vi 0] 3));have i:(((W.alloc (kS y)).alloc (.cells #[Vp J] 185)).alloc (.cells #[Vi 0] 3)).cell? ⟨W.heap.size+1,0,none⟩=some (Vp J):=σ
 have H:(((W.alloc (kS y)).alloc (.cells #[Vp J] 185)).alloc (.cells #[Vi 0] 3)).cell? ⟨W.heap.size+1+1,0,none⟩=some (Vi 0):=σ
 have X:(((W.alloc (kS y)).alloc (.cells #[Vp J] 185)).alloc (.cells #[Vi 0] 3)).frozen? ⟨W.heap.size+1+1,0,none⟩=false:=σ
 obtain⟨po,u⟩:=qo ad (o1,j);have z:=hc.cells.c7;replace z:=x0.keep z;have a1:=ac (λ(U:jw L (o1,j)=true)=>by
  obtain⟨q,hq⟩:=yL (show BS (kr L G) o1 j=true by rw[wW h.nd.kn];exact U);have Q:=PE G hq;obtain⟨xo,_,_,_,_,d9,_,_,_,_,_,f2⟩:=h.nd.get U;obtain⟨d0,d1,_,_,_,_,_,_,_,_,_⟩:=f2.cells;rw[show xo.c=o1 from congrArg iw d9] at d0;rw[show xo.k=j from congrArg iY d9] at d1;exact(⟨q,Q,λw' (hw:Ext W w')=>(h.ext hw).adg hl hq,d0,d1,pK h.nd.kn U⟩:∃q:Nat,(lM L)[q]? =some (o1,j)/\(∀w',Ext W w'->aO pg 141 #[ixv (xl y),idv o1 j] w' λe w2=>e= .returned (.tuple #[Vi (q:Int),.bool true])/\Ext w' w2)/\W.cell? ⟨ad (o1,j),0,none⟩=some (Vu o1)/\W.cell? ⟨ad (o1,j),1,none⟩=some (Vu j)/\vAd ad (o1,j)=Vp (ad (o1,j))))
 have f3:∃b:Bool,(∀W,(binOp .neq 185 (.pointer po) (.pointer none)).run pg W= .ok (.bool b) W)/\((b=false/\(o1,j)=((0,0):I2))\/(b=true/\jw L (o1,j)=true)):=by
  rcases a7 with e|e
  ·refine⟨false,λW=>?_,.inl ⟨rfl,e⟩⟩
   rw[e,sQ] at u;rw[<-u];exact BF W
  ·refine⟨true,λW=>?_,.inr ⟨rfl,e⟩⟩
   rw[pK h.nd.kn e] at u;rw[<-u];exact Ep _ W
 obtain⟨b,a4,hb⟩:=f3;have f0:W.heap.size<=W.heap.size+1+1:=ω
 have O:W.heap.size≠W.heap.size+1+1:=ω
 have M:W.heap.size+1≠W.heap.size+1+1:=ω
 have a0:W.heap.size+1+1+1=(((W.alloc (kS y)).alloc (.cells #[Vp J] 185)).alloc (.cells #[Vi 0] 3)).heap.size:=ι
 rw[u] at z;have f7:=ac u;have d6:=(hc.cells.c7);have Z:=World.block_lt_of_cell? _ _ d6;simp only at Z;clear h hc hx hr a7 u d6;go_enter func148,ntmps148
 go_upto_if 12 with fail
 generalize((W.alloc (kS y)).alloc (.cells #[Vp J] 185)).alloc (.cells #[Vi 0] 3)=w1 at*;obtain⟨pb,d5⟩:∃pb,W.heap.size=pb:=⟨_,rfl⟩;obtain⟨pn,d3⟩:∃pn,pb+1=pn:=⟨_,rfl⟩;obtain⟨I,d4⟩:∃I,pn+1=I:=⟨_,rfl⟩;have f6:=ac (show W.heap.size<=I by omega);rw[d5] at bl i H X O M a0 Z⊢;rw[d3] at i H X O M a0⊢;rw[d4] at H X O M a0⊢;have g1:J≠I:=ω
 clear f0 d5 d3 d4 a0 Z;replace bl:=ac bl;replace hs:=ac (λf=>hs.out f pb I pn)
 go_cut [6] (λs wx=>∃f:Nat,f<=360000/\Hid (((o1,j)=((0,0):I2)/\f=0)\/(∃q,f=q+1/\(lM L)[q]? =some (o1,j)))/\wx.cell? ⟨I,0,none⟩=some (Vi (f:Int))/\Hid (BxL wx pb y)/\wx.cell? ⟨pn,0,none⟩=some (Vp J)/\Hid (Ext W wx))
 case first=>
  rcases hb with⟨rfl,hroot⟩|⟨rfl,U⟩
  ·replace x0:=ac x0
   have f8:=ac hroot;clear hroot hs a1
   go_wp2_with fail
   go_meet;exact⟨0,ω,ac (.inl ⟨f8.out,rfl⟩),H,bl,i,x0⟩
  ·obtain⟨q,Q,a2,d0,d1,a3⟩:=a1.out U
   have g0:q<360000:=by have:=kJ Q;have:=d7.out;omega
   rw[f7.out] at a3;injection a3 with a3;subst a3;replace d0:=x0.keep d0;replace d1:=x0.keep d1;obtain⟨b0,b1,b2,b3,b4,b5,b6,b7,b8⟩:=bl.out.cells;have Sd:=ac i;have b9:=ac H;have e8:=ac X;replace Q:=ac Q;replace a2:=ac a2;clear hs a1 U a4 H X;generalize ad (o1,j)=pd at*;replace b0:=ai b0;replace b1:=ai b1;replace b2:=ai b2;replace b3:=ai b3;replace b4:=ai b4;replace b5:=ai b5;replace b6:=ai b6;replace b7:=ai b7;replace b8:=ai b8;replace i:=ai i;replace z:=ai z;replace d0:=ai d0;replace d1:=ai d1
   go_wp2_with fail
   refine ax κ κ ?_
   repeat go_big_quiet_step((with_reducible exact Calls.jA (a2.out _ (x0.trans (Ext.jv _ _ _)))))
   refine bh ?_;intro _ e9;obtain⟨⟨dq,osq⟩,d2⟩:=e9;subst d2;have xr:=Ext.jv w1 dq osq;have hE:=ac (x0.trans xr);have f5:=xr.keep b9.out;have g4:=xr.thaw b9.out e8.out;have e6:=bl.out.ext xr;have e5:=xr.keep Sd.out;clear b0 b1 b2 b3 b4 b5 b6 b7 b8 i z d0 d1 x0 a2 bl Sd b9 e8 xr;generalize grow (eK w1 dq) osq=w2 at*;have a6:RX I w2 (w2.setCell ⟨I,0,none⟩ (Vi ((q:Int)+1))):=(RX.refl I w2).set 0 _ (.inr rfl);have e0:=ac (show(w2.setCell ⟨I,0,none⟩ (Vi ((q:Int)+1))).cell? ⟨I,0,none⟩=some (Vi ((q+1:Nat):Int))/\BxL (w2.setCell ⟨I,0,none⟩ (Vi ((q:Int)+1))) pb y/\(w2.setCell ⟨I,0,none⟩ (Vi ((q:Int)+1))).cell? ⟨pn,0,none⟩=some (Vp J)/\Ext W (w2.setCell ⟨I,0,none⟩ (Vi ((q:Int)+1))) from
        ⟨by simp[go_sem,f5],a6.blk e6 O,a6.cell e5 M,hE.out.setCell f6.out _⟩)
   clear a6 e6 e5
   go_wp2_with fail
   go_meet;obtain⟨e1,e2,e3,e4⟩:=e0.out;exact⟨q+1,ω,ac (.inr ⟨q,rfl,Q.out⟩),e1,ac e2,e3,ac e4⟩
 case rest=>
  obtain⟨f,g3,hf,cf,bl,cn,hE⟩:=hcut;clear x0 i H X hb a4 z a1;have f1:f<=L.length:=by
   rcases hf.out with⟨_,e⟩|⟨q,e,hq⟩
   ·omega
   ·have:=kJ hq;have:=d7.out;omega
  have a8:=ac (λw' (hw:Ext wc w')=>hs.out f hf.out w' (hE.out.trans hw) (bl.out.ext hw) (hw.keep cf) (hw.keep cn) (N:=L.length-f) rfl);have a9:=ac (λw' (hw:Ext wc w')=>a5.out w' (hE.out.trans hw));obtain⟨b0,b1,b2,b3,b4,b5,b6,b7,b8⟩:=bl.out.cells;have Y:cJ.wrap ((L.length:Int)-(f:Int))=((L.length-f:Nat):Int):=by rw[bP _ ω];omega
  obtain⟨N,hN⟩:∃N,L.length-f=N:=⟨_,rfl⟩;obtain⟨n,hn⟩:∃n,L.length=n:=⟨_,rfl⟩;rw[hN] at a8 Y;rw[hn] at a9 Y;replace Y:=ac Y;clear hs a5 hN hn f1 bl
  go_wp2_with fail
  refine mg 8 [rwI 3 (Vi (n:Int)),rw1 7 λz9 W=>∃k:Nat,z9=Vi (k:Int)/\(k<=360000/\xH L x (f+k))] ⟨λ_ _ _ _ _ _=>trivial,by rintro _ _ _ _ ⟨k,h0,h1,h2⟩ e;exact⟨k,h0,h1,h2⟩,trivial⟩ λρ hI=>?_
  refine .s 3 (λW hx y=>jD) ?_;refine .kv hI 0 (Vi (n:Int)) a9.out ?_;refine .s 3 (λW hx y=>by
   have f9:=Y.out;exact jD) ?_
  refine .k 1 (R:=λz9 W=>∃k:Nat,z9=Vi (k:Int)/\(k<=360000/\xH L x (f+k))) (λW hx=>(a8.out W hx).mono (by rintro e W1 ⟨⟨k,rfl,h1⟩,h2⟩;exact⟨_,rfl,⟨k,rfl,h1⟩,h2⟩)) ?_;refine .fin λW hR ⟨_,h7,_⟩=>?_
  obtain⟨q7,e7,h7⟩:=h7;rw[show ρ 7=_ from e7];obtain⟨g2,hP⟩:=h7;replace hP:=ac hP;have f4:=ac (hE.out.trans hR);clear a8 a9 b0 b1 b2 b3 b4 b5 b6 b7 b8 cf cn;go_wp2;go_ret;exact⟨f+q7,ι,hP.out,f4.out⟩
end
def HgL (W:ae) (q:Nat) (a b:Int) (r:Bool):Prop:=W.heap[q]? =some (.cells #[Vu a,Vu b,.bool r] 263 (0,0))
theorem IQ (c:Int) {B:Bool} (a:okB c=B) (w:ae):aO pg 113 #[.int .i32 c] w λe w'=>e= .returned (.bool B)/\Ext w w':=by
 subst a;go_enter func113,ntmps113;go_wp2
 all_goals go_ret
 all_goals refine⟨kE ?_,Ext.refl _⟩
 all_goals(rw[Bool.eq_iff_iff];simp[okB];try omega)
theorem LC.aeD {F:Nat->Prop} {W:ae} {y:Lv} {L:List It} {G:List I2} {t:HT} {ad:I2->Nat} (h:LC F W y L G t ad) {o1 a:Int} (f:RtL L (o1,a)):
  aO pg 90 #[.pointer y.p,idv o1 a] W λe w'=>e= .returned (vAd ad (o1,a))/\Ext W w':=by
 rcases f with e|e
 ·injection e with e1 e2
  subst e1;subst e2;exact h.RD (kH h.nd.kn _)
 ·rw[pK h.nd.kn e]
  exact h.ML e
theorem LC.newNode {F:Nat->Prop} {i:ae} {y:Lv} {L:List It} {G:List I2} {t:HT} {ad:I2->Nat} (h:LC F i y L G t ad) (hl:L.length<=360000) (x:It) (a0:kC L x=true):
  aO pg 114 #[itv x,.pointer y.p] i λe w'=>∃(q:Nat) (far:I2),e= .returned (Vp q)/\i.heap.size<=q/\NC w' q x (vAd ad (hgP L x).on) (hgP L x).right (((pth L (hgP L x).on).length+1:Nat):Int) (vAd ad far)/\(RtL L far/\∃r,pth L (hgP L x).on=pth L far++r)/\Ext i w':=by
 have M:=OZ a0;obtain⟨k1,k2,k3,k4⟩:=adQ h.nd.kn a0;have Q:=ac (λW (A:Option Addr) (n c:Nat) (hv:ItS W A (nbs L x)) (hn:(nbs L x).length=n) (hc:n<=c)=>Yx A n c (nbs L x) x W hv k1 k2 hn hc ω);rw[k3] at Q;obtain⟨o,ho⟩:∃o,hgP L x=o:=⟨_,rfl⟩;obtain⟨⟨o1,u⟩,Y⟩:=o;rw[ho] at M Q⊢;simp only at M;show aO _ _ _ _ λe w'=>∃(q:Nat) (far:I2),e= .returned (Vp q)/\i.heap.size<=q/\NC w' q x (vAd ad (o1,u)) Y (((pth L (o1,u)).length+1:Nat):Int) (vAd ad far)/\(RtL L far/\∃r,pth L (o1,u)=pth L far++r)/\Ext i w'
 change Hid (∀W (A:Option Addr) (n c:Nat),ItS W A (nbs L x)->(nbs L x).length=n->n<=c->aO pg 143 #[.slice A n c,itv x] W λe w'=>e= .returned (.agg #[.int .u32 o1,.int .u32 u,.bool Y])/\Ext W w') at Q;have a2:=ac (λW (j:Ext i W)=>(h.ext j).neighbours hl x a0);have U:=ac (λW (j:Ext i W)=>(h.ext j).aeD M);have d6:=oJ h.nd.kn (o1,u);obtain⟨O,a5⟩:∃O,(pth L (o1,u)).length=O:=⟨_,rfl⟩;have I:=ac (λW (j:Ext i W)=>Cj W (h.ext j).nd M O a5);have H:=ac (λW (j:Ext i W)=>ZP W (h.ext j).nd M ω);have e1:O<=360000:=ω
 rw[a5];obtain⟨po,b8⟩:=qo ad (o1,u);rw[b8] at U I H⊢;clear h ho k1 k2 k3 k4 a0 d6 a5 M b8;have x0:Ext i (i.alloc (rY x)):=(Ext.refl i).alloc _;have bi:=kI.newL i x;have d4:(i.alloc (rY x)).heap.size=i.heap.size+1:=ι
 go_enter func114,ntmps114
 go_wp2_with fail
 obtain⟨W1,a6⟩:∃W1,i.alloc (rY x)=W1:=⟨_,rfl⟩;obtain⟨pb,a4⟩:∃pb,i.heap.size=pb:=⟨_,rfl⟩;change kI (i.alloc (rY x)) _ x at bi;rw[a6] at x0 bi d4;rw[a4] at bi⊢;show Code.wp _ _ _ _ (i.alloc (rY x));rw[a6];have d5:=ac a4;clear a6 a4;replace a2:=ac (λW (j:Ext W1 W)=>a2.out W (x0.trans j));replace U:=ac (λW (j:Ext W1 W)=>U.out W (x0.trans j));replace I:=ac (λW (j:Ext W1 W)=>I.out W (x0.trans j));replace H:=ac (λW (j:Ext W1 W)=>H.out W (x0.trans j));obtain⟨b0,b1,b2,b3,b4,b5,b6⟩:=bi.cells;simp only[aW] at b0 b1 b2 b3 b4 b5 b6;refine mg 6 [rw1 2 λq W=>jS W1 W q (nbs L x),rwI 4 (.agg #[.int .u32 o1,.int .u32 u,.bool Y]),rw1 5 λz9 W=>∃q,z9= .pointer (some ⟨q,0,none⟩)/\(W1.heap.size<=q/\HgL W q 0 0 false)] ⟨λ_ _ _ _ h e=>jS.ext h e,λ_ _ _ _ _ _=>trivial,by rintro _ _ _ _ ⟨q,h1,h2,h3⟩ e;exact⟨q,h1,h2,e.blk h3⟩,trivial⟩ λρ hI=>?_
 refine .s 2 (λW J y=>jD) ?_;refine .k 0 (R:=λq W=>jS W1 W q (nbs L x)) (λW J=>(a2.out W J).mono (by rintro e W2 ⟨v,rfl,h1,h2⟩;exact⟨v,rfl,h1.down J,h2⟩)) ?_;refine .s 1 (λW J y=>jD) ?_;refine .v hI 1 [0] _ (λW J y f N hN=>?_) ?_
 ·obtain⟨o9,_⟩:=f
  obtain⟨A9,c9,e9,d9,d7⟩:=jS.open o9;have e9:ρ 2=_:=e9
  go_simp
  exact(Q.out W A9 _ c9 d7 rfl d9).mono λe W2 h=>⟨_,h.1,hN _ h.2⟩
 refine .o 2 [] (λW J y _ N hN=>?_) ?_
 ·go_simp
  exact hN _ _ (λ_ e=>by cases e) ⟨_,rfl,J.size,heap_alloc_new W _⟩ ((Ext.refl W).alloc _)
 refine .fin λW hR ⟨_,_,h5,_⟩=>?_
 obtain⟨a,e5,h5⟩:=h5;rw[show ρ 5=_ from e5];obtain⟨a3,z⟩:=h5;have b7:pb≠a:=by have:=d5.out;omega
 have d1:=bi.ext hR;have w0:(W.setCell ⟨a,0,none⟩ (Vu o1)).heap[a]? =some (.cells #[Vu o1,Vu 0,.bool false] 263 (0,0)):=al W a 0 _ _ _ z;have a8:((W.setCell ⟨a,0,none⟩ (Vu o1)).setCell ⟨a,1,none⟩ (Vu u)).heap[a]? =some (.cells #[Vu o1,Vu u,.bool false] 263 (0,0)):=al _ a 1 _ _ _ w0;have Z:(((W.setCell ⟨a,0,none⟩ (Vu o1)).setCell ⟨a,1,none⟩ (Vu u)).setCell ⟨a,2,none⟩ (.bool Y)).heap[a]? =some (.cells #[Vu o1,Vu u,.bool Y] 263 (0,0)):=al _ a 2 _ _ _ a8;have z0:=aj W a 0 _ _ _ z;have z1:=aj W a 1 _ _ _ z;have z2:=aj W a 2 _ _ _ z;have f0:=aw W a 0 _ _ z;have f1:=aw W a 1 _ _ z;have f2:=aw W a 2 _ _ z;have a9:RX a W (((W.setCell ⟨a,0,none⟩ (Vu o1)).setCell ⟨a,1,none⟩ (Vu u)).setCell ⟨a,2,none⟩ (.bool Y)):=(((RX.refl a W).set 0 _ (.inr rfl)).set 1 _ (.inr rfl)).set 2 _ (.inr rfl);have d2:=ac (a9.blk d1 b7);have a7:=ac (((hR.setCell (p:=⟨a,0,none⟩) a3 (Vu o1)).setCell (p:=⟨a,1,none⟩) a3 (Vu u)).setCell (p:=⟨a,2,none⟩) a3 (.bool Y));replace Z:=ac Z;clear a9 d1 w0 a8 z b7 a2 Q b0 b1 b2 b3 b4 b5 b6
 go_wp2_with fail
 generalize((W.setCell ⟨a,0,none⟩ (Vu o1)).setCell ⟨a,1,none⟩ (Vu u)).setCell ⟨a,2,none⟩ (.bool Y)=W2 at*;clear z0 z1 z2 f0 f1 f2;refine(U.out _ a7.out).mono ?_;rintro e W3 ⟨rfl,x3⟩;have X:=a7.out.trans x3;obtain⟨b0,b1,b2,b3,b4,b5,b6⟩:=(show kI W3 pb x from kI.ext (show kI W2 pb x from d2.out) x3).cells;simp only[aW] at b0 b1 b2 b3 b4 b5 b6;have cr:=x3.keep (aj W2 a 2 _ _ _ Z.out);replace I:=ac (λW (j:Ext W3 W)=>I.out W (X.trans j));replace H:=ac (λW (j:Ext W3 W)=>H.out W (X.trans j));replace X:=ac X;clear a7 d2 Z U x3 hR
 go_wp2_with fail
 refine mg 9 [rwI 5 (Vi (O:Int)),rw1 8 λz9 W=>∃f:I2,z9=vAd ad f/\(RtL L f/\∃r,pth L (o1,u)=pth L f++r)] ⟨λ_ _ _ _ _ _=>trivial,by rintro _ _ _ _ ⟨f,h0,h1,h2⟩ e;exact⟨f,h0,h1,h2⟩,trivial⟩ λρ hI=>?_
 refine .s 5 (λW J y=>jD) ?_;refine .kv hI 0 (Vi (O:Int)) (λW J=>(I.out W J).mono (by rintro e W2 ⟨rfl,rfl⟩;exact⟨rfl,Ext.refl _⟩)) ?_;refine .s 2 (λW J y=>by
  have e0:cJ.wrap ((O:Int)+1)=(O:Int)+1:=bP _ ω;exact jD) ?_
 refine .k 1 (R:=λz9 W=>∃f:I2,z9=vAd ad f/\(RtL L f/\∃r,pth L (o1,u)=pth L f++r)) (λW J=>(H.out W J).mono (by rintro e W2 ⟨⟨f,r,h1,h2,rfl⟩,h3⟩;exact⟨_,rfl,⟨f,rfl,h1,r,h2⟩,h3⟩)) ?_;refine .fin λW hR ⟨_,h8,_⟩=>?_
 obtain⟨q8,e8,h8⟩:=h8;rw[show ρ 8=_ from e8];obtain⟨pf,a1⟩:=qo ad q8;rw[a1];have d3:=ac (x0.trans (X.out.trans hR));have b9:=ac (show NC (W.alloc (.cells #[Vu x.c,Vu x.k,Vu x.lc,Vu x.lk,Vu x.rc,Vu x.rk,.int .i32 x.ch,.pointer po,.bool Y,Vi ((O:Int)+1),.pointer pf] 188)) W.heap.size x (.pointer po) Y ((O+1:Nat):Int) (vAd ad q8) from by
  rw[a1,show((O+1:Nat):Int)=(O:Int)+1 by omega];exact heap_alloc_new W _)
 have zF:=ac h8;replace a1:=ac a1;clear h8 hR b0 b1 b2 b3 b4 b5 b6 cr I H;go_wp2;go_ret;exact⟨_,q8,rfl,d3.out.size,b9.out,zF.out,d3.out.alloc _⟩
end
end Go.Proofs.YtncfhbpejchbfaaGreatDoor

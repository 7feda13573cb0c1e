/-
  Lemmas of this seat; no claim.
-/
import Derived.Shelf.Strings.BuilderRune
import Derived.Test.YtejbpijamdlgcaaGreatDoorPLf1
import Derived.Test.YtejbpijamdlgcaaGreatDoorPI1
import Derived.Test.YtejbpijamdlgcaaGreatDoorLayRn
import Derived.Test.YtejbpijamdlgcaaGreatDoorPA1
set_option linter.unusedVariables false
set_option linter.unusedSimpArgs false
set_option maxRecDepth 100000
set_option maxHeartbeats 16000000
open And renaming intro→bq
open Go renaming Calls→aX,Value→aI,World→aj,bodyPost_ret→aN,cell_of_row→ak,cell_regrown→av,frozen_of_row→aK,heap_alloc_new→aT,heap_setCell_same→aB,redrawn→iY,results→dK,wpQuiet_nil→bQ,wp_region_quiet_below→aL
open Go.Ending renaming returned→dz
open Go.IntKind renaming i64→dO
open Go.IntWalk renaming i64_in→cO
open Go.Lib renaming OthersKept→kH,byteCells_encodeRune→ny,byteCells→nK,encodeRune→bK,hid→ah
open Go.Proofs.Any renaming Builder_WriteRune_k→nL
open Go.RowKit renaming Below→kY
open Go.RowKit.Below renaming block→aJ
open Go.World renaming cell?_alloc_some→au
open List renaming append_nil→bZ,flatMap_cons→mJ,getElem?_eq_getElem→aO,length_cons→aH,length_nil→aR,mem_of_getElem?→aP
open Nat renaming le_trans→aM,zero_add→bH,zero_le→cK
open Prod renaming fst→mg,snd→nu
namespace Go.Proofs.YtejbpijamdlgcaaGreatDoor
section
open Go.ChangeShapes Go.WideShapes Go.ChangeAt Go.RowKit Go.Sort
attribute [local go_sem] au
section
abbrev xl (y:Lv):Xv:=⟨y.A,y.n,y.c,y.l,y.r,y.h,y.m,y.s,y.lo,y.hi⟩
structure LC (F:Nat->Prop) (W:aj) (y:Lv) (L:List It) (G:List I2) (t:HT) (ad:I2->Nat):Prop where
 ix:Ix F W (ixv (xl y)) (oQ L G)
 hv:HV F W ad t (.pointer y.p)
 nd:NdL F W ad L
 srt:Ej t
 mem:∀a,a∈hin t↔nZ L a=true
 gin:∀g∈G,nZ L g=true
 wf:∀x∈L,wfI x
 lt:∀b,F b->b<W.heap.size
 tl:(hin t).length=L.length
theorem LC.ext {F:Nat->Prop} {W W':aj} {y:Lv} {L:List It} {G:List I2} {t:HT} {ad:I2->Nat} (h:LC F W y L G t ad) (a:Ext W W'):LC F W' y L G t ad:=
 ⟨h.ix.ext a,h.hv.ext a,h.nd.ext a,h.srt,h.mem,h.gin,h.wf,λb e=>a.lt (h.lt b e),h.tl⟩
variable {F:Nat->Prop} {G:List I2} {L:List It} {W:aj} {a:I2} {ad:I2->Nat} {q:Nat} {t:HT} {y:Lv}
theorem LC.len (h:LC F W y L G t ad):(oQ L G).length=L.length:=KD h.nd.kn G
theorem LC.find (h:LC F W y L G t ad) (c k:Int):
  aX Tryz.prog 91 #[.pointer y.p,idv c k] W λe w'=>e= .returned (if nZ L (c,k)=true then Vp (ad (c,k)) else vK)/\Ext W w':=by
 have:=Yo t (.pointer y.p) c k W h.hv (h.nd.ids λa f=>(h.mem a).1 f) h.srt;unfold fdV at this;simp only[h.mem] at this;exact this
theorem LC.O5 (h:LC F W y L G t ad) {c k:Int} (f:nZ L (c,k)=true):
  aX Tryz.prog 91 #[.pointer y.p,idv c k] W λe w'=>e= .returned (Vp (ad (c,k)))/\Ext W w':=by
 have:=h.find c k;rwa[if_pos f] at this
theorem LC.Ut (h:LC F W y L G t ad) {c k:Int} (f:nZ L (c,k)=false):
  aX Tryz.prog 91 #[.pointer y.p,idv c k] W λe w'=>e= .returned vK/\Ext W w':=by
 have:=h.find c k;rwa[if_neg (by rw[f];decide)] at this
abbrev qx (y:Lv):Obj:= .cells #[.slice y.A y.n y.c,.pointer y.l,.pointer y.r,Vi y.h,Vi y.m,Vi y.s,Vq y.lo,Vq y.hi,.pointer y.p] 85
theorem LC.entry (h:LC F W y L G t ad) (f:L.length<=400000) (i:(qL L)[q]? =some a):
  aX Tryz.prog 160 #[ixv (xl y),Vi (q:Int)] W λe w'=>e= .returned (.tuple #[env (xu L G a),.nilIface])/\Ext W w':=
 abo W _ _ q _ h.ix (by rw[h.len];exact f) (abr G i)
theorem LC.adQ (h:LC F W y L G t ad) (f:L.length<=400000) {z:Int} (j: -2<=z/\z<=800000) (i:z<0\/(L.length:Int)<=z):
  aX Tryz.prog 160 #[ixv (xl y),Vi z] W λe w'=>e= .returned (.tuple #[env zE,qD 3])/\Ext W w':=
 Uz W _ _ z h.ix (by rw[h.len];exact f) j (by rw[h.len];exact i)
theorem VR (y:Lv) (z:Int) (x:En) (c:Int) (W:aj) (K:∀w',Ext W w'->aX Tryz.prog 160 #[ixv (xl y),Vi z] w' λe U=>e= .returned (.tuple #[env x,qD c])/\Ext w' U):
  aX Tryz.prog 121 #[lsv y,Vi z] W λe w'=>e= .returned (idv x.c x.k)/\Ext W w':=by
 replace K:=ah K;obtain⟨Q,J⟩:∃Q,qD c=Q:=⟨_,rfl⟩;rw[J] at K;clear J;go_enter Tryz.func121,Tryz.ntmps121
 go_wp2_with fail
 have x0:Ext W ((W.alloc (qx y)).alloc (.cells #[.int .u32 0,.int .u32 0] 55)):=((Ext.refl W).alloc _).alloc _;refine(K.out _ x0).mono ?_;rintro e i ⟨rfl,x1⟩;have f:yj ((W.alloc (qx y)).alloc (.cells #[.int .u32 0,.int .u32 0] 55)) (W.heap.size+1) 0 0:=by
  have:=yj.new (W.alloc (qx y)) 0 0;rwa[show(W.alloc (qx y)).heap.size=W.heap.size+1 by simp] at this
 replace f:=f.ext x1;have X:=ah (x0.trans x1);obtain⟨M,I⟩:∃M,W.heap.size+1=M:=⟨_,rfl⟩;rw[I] at f⊢;have H:=ah (show W.heap.size<=M by omega);clear x0 x1 K I;have b0:(i.alloc (.cells #[Vu x.c,Vu x.k,.int .i32 x.ch,.bool x.g] 147)).cell? ⟨i.heap.size,0,none⟩=some (Vu x.c):=σ
 have b1:(i.alloc (.cells #[Vu x.c,Vu x.k,.int .i32 x.ch,.bool x.g] 147)).cell? ⟨i.heap.size,1,none⟩=some (Vu x.k):=σ
 have N:=ah (X.out.alloc (.cells #[Vu x.c,Vu x.k,.int .i32 x.ch,.bool x.g] 147));have O:Ext i (i.alloc (.cells #[Vu x.c,Vu x.k,.int .i32 x.ch,.bool x.g] 147)):=(Ext.refl i).alloc _;replace f:=f.ext O;obtain⟨k0,Y,f0,Z⟩:=f.cells;obtain⟨u,j,_,_⟩:=(f.set x.c x.k).cells;clear O f;replace u:=ah u;replace j:=ah j;go_wp2;have u:=u.out;have j:=j.out;exact aN (v:=idv x.c x.k) (by simp[dK,Tryz.results121,go_sem,u,j]) rfl ⟨rfl,(N.out.setCell H.out _).setCell H.out _⟩
theorem LC.ahh (h:LC F W y L G t ad) (i:L.length<=400000) (j:(qL L)[q]? =some a):
  aX Tryz.prog 121 #[lsv y,Vi (q:Int)] W λe w'=>e= .returned (idv a.1 a.2)/\Ext W w':=
 VR y q (xu L G a) 0 W λw' f=>(h.ext f).entry i j
theorem LC.afK (h:LC F W y L G t ad) (i:L.length<=400000) {z:Int} (u: -2<=z/\z<=800000) (j:z<0\/(L.length:Int)<=z):
  aX Tryz.prog 121 #[lsv y,Vi z] W λe w'=>e= .returned (idv 0 0)/\Ext W w':=
 VR y z zE 3 W λw' f=>(h.ext f).adQ i u j
theorem LC.Ve (h:LC F W y L G t ad) (i:L.length<=400000) {p:Nat} (f:(om (oQ L G))[q]? =some p):
  aX Tryz.prog 122 #[lsv y,Vi (q:Int)] W λe w'=>e= .returned (Vi (p:Int))/\Ext W w':=by
 have j:=ah (λw' (u:Ext W w')=>aib w' _ _ q p (h.ix.ext u) (by rw[h.len];exact i) f);clear h f i;go_enter Tryz.func122,Tryz.ntmps122
 go_wp2_with fail
 have x0:Ext W (W.alloc (qx y)):=(Ext.refl W).alloc _;refine(j.out _ x0).mono ?_;rintro e H ⟨rfl,x1⟩;have z:=ah (x0.trans x1);clear x0 x1 j;go_wp2;go_ret;exact⟨rfl,z.out⟩
theorem LC.nodeAt (h:LC F W y L G t ad) (Y:L.length<=400000) (z:(qL L)[q]? =some a):
  aX Tryz.prog 227 #[lsv y,Vi (q:Int)] W λe w'=>e= .returned (Vp (ad a))/\Ext W w':=by
 have Z:=ah (λw' (i:Ext W w')=>(h.ext i).ahh Y z);have u:=ah (λw' (i:Ext W w')=>(h.ext i).O5 (c:=a.1) (k:=a.2) (tT h.nd.kn z));obtain⟨p,X⟩:∃p,ad a=p:=⟨_,rfl⟩;rw[X] at u⊢;clear h z Y X;go_enter Tryz.func227,Tryz.ntmps227
 go_wp2_with fail
 have x0:Ext W (W.alloc (qx y)):=(Ext.refl W).alloc _;have bl:=(BxL.new W y).cells;obtain⟨U,Q,O,N,M,K,J,I,H⟩:=bl;generalize W.alloc (qx y)=w1 at*;generalize W.heap.size=pb at*;replace U:=av U;replace Q:=av Q;replace O:=av O;replace N:=av N;replace M:=av M;replace K:=av K;replace J:=av J;replace I:=av I;replace H:=av H;refine aL κ κ ?_
 repeat go_big_quiet_step((first|with_reducible exact Calls.oh (Z.out _ (x0.trans (Ext.nX _ _ _)))|with_reducible exact Calls.oh (u.out _ (x0.trans (Ext.nX _ _ _)))))
 refine bQ ?_;intro _ j;obtain⟨⟨dq,osq⟩,f⟩:=j;subst f;have x2:=ah (x0.trans (Ext.nX w1 dq osq));clear U Q O N M K J I H x0 Z u;go_wp2;go_ret;exact⟨rfl,x2.out⟩
end
theorem zy {c k:Int} {B:Bool} (h:decide (c=0)=B) (w:aj):aX Tryz.prog 92 #[idv c k] w λe w'=>e= .returned (.bool B)/\Ext w w':=by
 have:=qM c k w;rwa[show(c==0)=B from h] at this
theorem LC.Md {F:Nat->Prop} {W:aj} {y:Lv} {L:List It} {G:List I2} {t:HT} {ad:I2->Nat} (h:LC F W y L G t ad) (c k:Int) {B:Bool} (q:(decide (c=0)||nZ L (c,k))=B):
  aX Tryz.prog 152 #[lsv y,idv c k] W λe w'=>e= .returned (.bool B)/\Ext W w':=by
 have x0:Ext W ((W.alloc (qx y)).alloc (.cells #[.int .u32 c,.int .u32 k] 55)):=((Ext.refl W).alloc _).alloc _;have H:=((BxL.new W y).ext ((Ext.refl _).alloc (.cells #[.int .u32 c,.int .u32 k] 55)));have u:=yj.new (W.alloc (qx y)) c k;rw[show(W.alloc (qx y)).heap.size=W.heap.size+1 by simp] at u;obtain⟨b,i⟩:∃b,decide (c=0)=b:=⟨_,rfl⟩;have j:=ah (λW=>zy (k:=k) i W);cases b with
 |true=>
  obtain rfl:true=B:=by rw[<-q,i];rfl
  clear q i h H u;go_enter Tryz.func152,Tryz.ntmps152
  go_wp2_with fail
  refine(j.out _).mono ?_;rintro e K ⟨rfl,x1⟩;have f:=ah (x0.trans x1);clear x0 x1 j;go_wp2;go_ret;exact⟨rfl,f.out⟩
 |false=>
  have a:nZ L (c,k)=B:=by rw[<-q,i];rfl
  clear q i;go_enter Tryz.func152,Tryz.ntmps152
  go_wp2_with fail
  refine(j.out _).mono ?_;rintro e K ⟨rfl,x1⟩;have f:=ah (x0.trans x1);obtain⟨k0,J,_,_⟩:=(u.ext x1).cells;have I:=(H.ext x1).cells.2.2.2.2.2.2.2.2;have z:=ah ((h.ext (x0.trans x1)).find c k);clear x0 x1 j H u h
  go_wp2_with fail
  refine z.out.mono ?_;rintro e M ⟨rfl,x2⟩;replace f:=ah (f.out.trans x2);cases B with
  |true=>
   rw[if_pos a];clear a z x2 k0 J I;go_wp2;go_ret;exact⟨rfl,f.out⟩
  |false=>
   rw[if_neg (by rw[a];decide)];clear a z x2 k0 J I;go_wp2;go_ret;exact⟨rfl,f.out⟩
theorem NdL.item {F:Nat->Prop} {W:aj} {ad:I2->Nat} {L:List It} (h:NdL F W ad L) {a:I2} (H:nZ L a=true):∃j r d f,NC W (ad a) (yU L a) j r d f:=by
 obtain⟨i,x,u,e,rfl⟩:=EX H;obtain⟨_,on,far,r,q,_,_,_,_,_,z⟩:=h.at' x (aP e);rw[Gl u e];exact⟨_,_,_,_,z⟩
theorem LC.item {F:Nat->Prop} {W:aj} {y:Lv} {L:List It} {G:List I2} {t:HT} {ad:I2->Nat} (h:LC F W y L G t ad) (c k:Int):
  aX Tryz.prog 53 #[lsv y,idv c k] W λe w'=>e= .returned (.tuple #[itv (yU L (c,k)),.bool (nZ L (c,k))])/\Ext W w':=by
 have x0:Ext W (((W.alloc (qx y)).alloc (.cells #[.int .u32 c,.int .u32 k] 55)).alloc (.cells #[.int .u32 0,.int .u32 0,.int .u32 0,.int .u32 0,.int .u32 0,.int .u32 0,.int .i32 0] 57)):=(((Ext.refl W).alloc _).alloc _).alloc _;have f:=pX.newL ((W.alloc (qx y)).alloc (.cells #[.int .u32 c,.int .u32 k] 55)) ⟨0,0,0,0,0,0,0⟩;rw[show((W.alloc (qx y)).alloc (.cells #[.int .u32 c,.int .u32 k] 55)).heap.size=W.heap.size+1+1 by simp] at f;have Q:=ah (λw' (hx:Ext W w')=>(h.ext hx).find c k);obtain⟨B,N⟩:∃B,nZ L (c,k)=B:=⟨_,rfl⟩;obtain⟨x,M⟩:∃x,yU L (c,k)=x:=⟨_,rfl⟩;rw[N] at Q⊢;rw[M];replace h:=ah h;replace M:=ah M;have a:W.heap.size<=W.heap.size+1+1:=ω
 go_enter Tryz.func53,Tryz.ntmps53
 go_wp2_with fail
 refine(Q.out _ x0).mono ?_;rintro e w1 ⟨rfl,x1⟩;replace f:=f.ext x1;have X:=ah (x0.trans x1);obtain⟨Y,J⟩:∃Y,W.heap.size+1+1=Y:=⟨_,rfl⟩;rw[J] at f a⊢;clear x0 x1 Q J;obtain⟨k0,k1,k2,k3,k4,k5,Z⟩:=f.cells;simp only[bH] at k0 k1 k2 k3 k4 k5 Z;have f0:=f.qF 0;have f1:=f.qF 1;have f2:=f.qF 2;have f3:=f.qF 3;have f4:=f.qF 4;have f5:=f.qF 5;have f6:=f.qF 6;cases B with
 |true=>
  rw[if_pos rfl];obtain⟨v1,r,d,v2,U⟩:=(h.out.ext X.out).nd.item N;rw[M.out] at U;obtain⟨I,H,z,u,q,j,i⟩:=(f.all x.c x.k x.lc x.lk x.rc x.rk x.ch).cells;simp only[bH] at I H z u q j i;obtain⟨c0,c1,c2,c3,c4,c5,c6,_,_,_,_⟩:=U.cells;generalize ad (c,k)=p at*;have O:=ah (bq I (bq H (bq z (bq u (bq q (bq j i))))));clear f I H z u q j i N U;go_wp2;obtain⟨I,H,z,u,q,j,i⟩:=O.out;exact aN (v:= .tuple #[itv x,.bool true]) (by simp[dK,Tryz.results53,go_sem,I,H,z,u,q,j,i]) rfl ⟨rfl,((((((X.out.setCell a _).setCell a _).setCell a _).setCell a _).setCell a _).setCell a _).setCell a _⟩
 |false=>
  rw[if_neg δ];obtain⟨I,H,z,u,q,j,i⟩:=(f.all 0 0 0 0 0 0 0).cells;simp only[bH] at I H z u q j i;have K:=M.out;rw[MS N] at K;subst K;have O:=ah (bq I (bq H (bq z (bq u (bq q (bq j i))))));clear f I H z u q j i N;go_wp2;obtain⟨I,H,z,u,q,j,i⟩:=O.out;exact aN (v:= .tuple #[itv ⟨0,0,0,0,0,0,0⟩,.bool false]) (by simp[dK,Tryz.results53,go_sem,I,H,z,u,q,j,i]) rfl ⟨rfl,((((((X.out.setCell a _).setCell a _).setCell a _).setCell a _).setCell a _).setCell a _).setCell a _⟩
abbrev Q8 (x:Xv):Obj:= .cells #[.slice x.A x.n x.c,.pointer x.l,.pointer x.r,Vi x.h,Vi x.m,Vi x.s,Vq x.lo,Vq x.hi] 82
end
section
open Go.ChangeShapes Go.WideShapes Go.ChangeAt Go.RowKit Go.Sort
attribute [local go_sem] au calm oK oG
variable {F:Nat->Prop} {G:List I2} {L:List It} {W:aj} {ad:I2->Nat} {t:HT} {y:Lv}
theorem EO (h:LC F W y L G t ad) (i:L.length<=400000) {q:Nat} (u:q<=L.length):
  aX Tryz.prog 121 #[lsv y,Vi (q:Int)] W λe w'=>e= .returned (idv (uY (oQ L G) q).1 (uY (oQ L G) q).2)/\Ext W w':=by
 by_cases f:q<(qL L).length
 ·obtain⟨a,j⟩:∃a,(qL L)[q]? =some a:=⟨_,aO f⟩
  rw[vW (abr G j)];exact h.ahh i j
 ·have:=wD h.nd.kn
  rw[XY (by rw[h.len];omega)];exact h.afK i ω (.inr ω)
theorem LC.shown (h:LC F W y L G t ad) (f:L.length<=400000) {s:Nat} (a:(om (oQ L G)).length=s):
  aX Tryz.prog 120 #[ixv (xl y)] W λe w'=>e= .returned (Vi (s:Int))/\Ext W w':=by
 rw[<-a];exact ZB W _ _ h.ix (by rw[h.len];exact f)
theorem LC.YG (h:LC F W y L G t ad) (hl:L.length<=400000) (z:Int) (O: -9223372036854775808<=z/\z<=9223372036854775807) (K:z<0\/((om (oQ L G)).length:Int)<z):
  aX Tryz.prog 79 #[lsv y,Vi z] W λe w'=>e= .returned (.tuple #[idv 0 0,idv 0 0,qD 3])/\Ext W w':=by
 obtain⟨s,Q⟩:∃s,(om (oQ L G)).length=s:=⟨_,rfl⟩;have J:=ah (λW' (hx:Ext W W')=>(h.ext hx).shown hl Q);have a1:s<=400000:=by rw[<-Q];have:=rO (oQ L G) 0;rw[h.len] at this;exact aM this hl
 rw[Q] at K;clear h Q;have x0:Ext W (((W.alloc (qx y)).alloc (.cells #[.int .u32 0,.int .u32 0] 55)).alloc (.cells #[.int .u32 0,.int .u32 0] 55)):=(((Ext.refl _).alloc _).alloc _).alloc _;have I:=(yj.new (W.alloc (qx y)) 0 0).ext ((Ext.refl _).alloc (.cells #[.int .u32 0,.int .u32 0] 55));have H:=yj.new ((W.alloc (qx y)).alloc (.cells #[.int .u32 0,.int .u32 0] 55)) 0 0;rw[show((W.alloc (qx y)).alloc (.cells #[.int .u32 0,.int .u32 0] 55)).heap.size=W.heap.size+1+1 by simp] at H;rw[show(W.alloc (qx y)).heap.size=W.heap.size+1 by simp] at I;have N:W.heap.size<=W.heap.size+1:=ω
 have M:W.heap.size<=W.heap.size+1+1:=ω
 have u:W.heap.size+1≠W.heap.size+1+1:=ω
 by_cases q:z<0
 ·have hd:decide (z<0)=true:=decide_eq_true q
  obtain⟨f,a,a0,Z⟩:=I.cells;obtain⟨j,i,Y,X⟩:=H.cells;have U:=ah x0;have O:=ah (bq f (bq a (bq j i)));clear f a j i I H x0 J K q;go_enter Tryz.func79,Tryz.ntmps79;go_wp2;obtain⟨f,a,j,i⟩:=O.out;exact aN (v:= .tuple #[idv 0 0,idv 0 0,qD 3]) (by simp[dK,Tryz.results79,go_sem,f,a,j,i,qD]) rfl ⟨rfl,U.out⟩
 ·have hd:decide (z<0)=false:=decide_eq_false q
  have a2:decide ((s:Int)<z)=true:=decide_eq_true ω;clear K q;go_enter Tryz.func79,Tryz.ntmps79
  go_wp2_with fail
  refine(J.out _ x0).mono ?_;rintro e w1 ⟨rfl,x1⟩;replace I:=I.ext x1;replace H:=H.ext x1;replace x0:=x0.trans x1;clear x1 J;obtain⟨p5,h5⟩:∃p,W.heap.size+1+1=p:=⟨_,rfl⟩;obtain⟨p4,h4⟩:∃p,W.heap.size+1=p:=⟨_,rfl⟩;rw[h5] at H M u⊢;rw[h4] at I N u⊢;clear h4 h5;obtain⟨_,_,a0,Z⟩:=I.cells;obtain⟨_,_,Y,X⟩:=H.cells;obtain⟨f,a,_,_⟩:=((I.set 0 0).other u (Vu 0) (Vu 0)).cells;obtain⟨j,i,_,_⟩:=((H.other (λe=>u e.symm) (Vu 0) (Vu 0)).set 0 0).cells;have U:=ah ((((x0.setCell N (p:=⟨p4,0,none⟩) (Vu 0)).setCell (p:=⟨p4,1,none⟩) N (Vu 0)).setCell (p:=⟨p5,0,none⟩) M (Vu 0)).setCell (p:=⟨p5,1,none⟩) M (Vu 0));have O:=ah (bq f (bq a (bq j i)));clear f a j i I H x0;go_wp2;obtain⟨f,a,j,i⟩:=O.out;exact aN (v:= .tuple #[idv 0 0,idv 0 0,qD 3]) (by simp[dK,Tryz.results79,go_sem,f,a,j,i,qD]) rfl ⟨rfl,U.out⟩
theorem LC.between (h:LC F W y L G t ad) (hl:L.length<=400000) (k:Nat) (hk:k<=(om (oQ L G)).length):
  aX Tryz.prog 79 #[lsv y,Vi (k:Int)] W λe w'=>e= .returned (.tuple #[idv (xW (oQ L G) k).1.1 (xW (oQ L G) k).1.2,idv (xW (oQ L G) k).2.1 (xW (oQ L G) k).2.2,.nilIface])/\Ext W w':=by
 obtain⟨s,hs⟩:∃s,(om (oQ L G)).length=s:=⟨_,rfl⟩;have U:=ah (λW' (I:Ext W W')=>(h.ext I).shown hl hs);have d5:s<=400000:=by rw[<-hs];have:=rO (oQ L G) 0;rw[h.len] at this;exact aM this hl
 have x0:Ext W (((W.alloc (qx y)).alloc (.cells #[.int .u32 0,.int .u32 0] 55)).alloc (.cells #[.int .u32 0,.int .u32 0] 55)):=(((Ext.refl _).alloc _).alloc _).alloc _;have q:=((BxL.new W y).ext ((Ext.refl _).alloc (.cells #[.int .u32 0,.int .u32 0] 55))).ext ((Ext.refl _).alloc (.cells #[.int .u32 0,.int .u32 0] 55));have i:=(yj.new (W.alloc (qx y)) 0 0).ext ((Ext.refl _).alloc (.cells #[.int .u32 0,.int .u32 0] 55));have f:=yj.new ((W.alloc (qx y)).alloc (.cells #[.int .u32 0,.int .u32 0] 55)) 0 0;rw[show((W.alloc (qx y)).alloc (.cells #[.int .u32 0,.int .u32 0] 55)).heap.size=W.heap.size+1+1 by simp] at f;rw[show(W.alloc (qx y)).heap.size=W.heap.size+1 by simp] at i;have H:W.heap.size<=W.heap.size+1:=ω
 have u:W.heap.size<=W.heap.size+1+1:=ω
 have j:W.heap.size+1≠W.heap.size+1+1:=ω
 have hd:decide ((k:Int)<0)=false:=decide_eq_false ω;have e2:¬((k:Int)<0):=ω
 have e1:decide ((s:Int)<(k:Int))=false:=decide_eq_false (by rw[<-hs];omega);have e0:decide (s<k)=false:=decide_eq_false (by rw[<-hs];omega);have d8:k<=400000:=by rw[hs] at hk;omega
 rcases Nat.eq_zero_or_pos k with h0|h0
 ·subst h0
  obtain⟨⟨c1,c2⟩,hc⟩:∃z:I2,uY (oQ L G) 0=z:=⟨_,rfl⟩;have a5:=ah (λW' (I:Ext W W')=>EO (h.ext I) hl (cK L.length));have hb:xW (oQ L G) 0=((0,0),uY (oQ L G) 0):=rfl;rw[hb];rw[hc] at a5⊢;clear h hs hk hc hb;go_enter Tryz.func79,Tryz.ntmps79
  go_wp2_with fail
  refine(U.out _ x0).mono ?_;rintro e w1 ⟨rfl,x1⟩;replace q:=q.ext x1;replace i:=i.ext x1;replace f:=f.ext x1;replace x0:=x0.trans x1;clear x1 U;obtain⟨p5,h5⟩:∃p,W.heap.size+1+1=p:=⟨_,rfl⟩;obtain⟨p4,h4⟩:∃p,W.heap.size+1=p:=⟨_,rfl⟩;rw[h5] at f u j⊢;rw[h4] at i H j⊢;clear h4 h5;obtain⟨k0,k1,k2,k3,k4,k5,k6,k7,k8⟩:=q.cells;have a:=ah (a5.out _ x0);replace i:=ah i;replace f:=ah f;replace x0:=ah x0;clear a5
  go_wp2_with fail
  refine a.out.mono ?_;rintro e w2 ⟨rfl,x2⟩;replace i:=i.out.ext x2;replace f:=f.out.ext x2;replace x0:=x0.out.trans x2;clear x2 a k0 k1 k2 k3 k4 k5 k6 k7 k8 q;obtain⟨_,_,d3,d2⟩:=i.cells;obtain⟨_,_,d1,b9⟩:=f.cells;obtain⟨N,M,_,_⟩:=((i.set 0 0).other j (Vu c1) (Vu c2)).cells;obtain⟨Q,O,_,_⟩:=((f.other (λe=>j e.symm) (Vu 0) (Vu 0)).set c1 c2).cells;have hE:=ah ((((x0.setCell H (p:=⟨p4,0,none⟩) (Vu 0)).setCell (p:=⟨p4,1,none⟩) H (Vu 0)).setCell (p:=⟨p5,0,none⟩) u (Vu c1)).setCell (p:=⟨p5,1,none⟩) u (Vu c2));have hz:=ah (bq N (bq M (bq Q O)));clear N M Q O i f x0;go_wp2;obtain⟨N,M,Q,O⟩:=hz.out;exact aN (v:= .tuple #[idv 0 0,idv c1 c2,.nilIface]) (by simp[dK,Tryz.results79,go_sem,N,M,Q,O]) rfl ⟨rfl,hE.out⟩
 ·obtain⟨p,hp⟩:∃p,(om (oQ L G))[k-1]? =some p:=⟨_,aO ω⟩
  have a7:=LM hp;rw[h.len] at a7;rw[(aee h0 hp).1];have a4:=ah (λW' (I:Ext W W')=>(h.ext I).Ve hl hp);have X:=ah (λW' (I:Ext W W')=>EO (h.ext I) hl (show p<=L.length by omega));have J:=ah (λW' (I:Ext W W')=>EO (h.ext I) hl (show p+1<=L.length by omega));generalize uY (oQ L G) p=ra at*;generalize uY (oQ L G) (p+1)=rb at*;obtain⟨a1,a2⟩:=ra;obtain⟨c1,c2⟩:=rb;have d6:(p:Int)<=400000:=ω
  rw[show((k-1:Nat):Int)=(k:Int)-1 by omega] at a4;rw[show((p+1:Nat):Int)=(p:Int)+1 by omega] at J;have d9:((k:Int)=0)=False:=by simp;omega
  clear h hs hk hp a7;go_enter Tryz.func79,Tryz.ntmps79
  go_wp2_with fail
  refine(U.out _ x0).mono ?_;rintro e w1 ⟨rfl,x1⟩;replace q:=q.ext x1;replace i:=i.ext x1;replace f:=f.ext x1;replace x0:=x0.trans x1;clear x1 U;obtain⟨pl,h3⟩:∃p,W.heap.size=p:=⟨_,rfl⟩;obtain⟨p5,h5⟩:∃p,W.heap.size+1+1=p:=⟨_,rfl⟩;obtain⟨p4,h4⟩:∃p,W.heap.size+1=p:=⟨_,rfl⟩;rw[h5] at f u j⊢;rw[h4] at i H j⊢;have d7:=ah h3;rw[h3] at q⊢;clear h3 h4 h5;obtain⟨b0,b1,b2,b3,Z,Y,b6,b7,b8⟩:=q.cells;have a:=ah (a4.out _ x0);replace q:=ah q;replace i:=ah i;replace f:=ah f;replace x0:=ah x0;clear a4
  go_wp2_with fail
  refine a.out.mono ?_;rintro e w2 ⟨rfl,x2⟩;replace i:=ah (i.out.ext x2);replace f:=ah (f.out.ext x2);replace q:=q.out.ext x2;replace x0:=ah (x0.out.trans x2);clear x2 a b0 b1 b2 b3 Z Y b6 b7 b8;obtain⟨b0,b1,b2,b3,Z,Y,b6,b7,b8⟩:=q.cells;have a9:=i;have a8:=f;clear i f;have i:=Z;have f:=Y;clear Z Y q;replace X:=ah (λW' (e:Ext w2 W')=>X.out W' (x0.out.trans e));replace J:=ah (λW' (e:Ext w2 W')=>J.out W' (x0.out.trans e));have a6:(binOp .sub 3 (Vi (p:Int)) (Vi 0))=(binOp .sub 3 (Vi (p:Int)) (Vi 0)):=rfl;clear a6
  go_wp2_with fail
  refine qX 7 [rwI 2 (idv a1 a2),rwI 6 (idv c1 c2)] ⟨λ_ _ _ _ _ _=>trivial,λ_ _ _ _ _ _=>trivial,trivial⟩ λρ hI=>?_
  refine .s 2 (λW I y=>oz) ?_;refine .kv hI 0 (idv a1 a2) X.out ?_;refine .s 3 (λW I y=>by
   have d4:dO.wrap ((p:Int)+1)=(p:Int)+1:=cO _ ω;exact oz) ?_
  refine .kv hI 1 (idv c1 c2) J.out ?_;refine .fin λW hR _=>?_
  have a3:=a9.out.ext hR;have a0:=a8.out.ext hR;obtain⟨_,_,d3,d2⟩:=a3.cells;obtain⟨_,_,d1,b9⟩:=a0.cells;obtain⟨N,M,_,_⟩:=((a3.set a1 a2).other j (Vu c1) (Vu c2)).cells;obtain⟨Q,O,_,_⟩:=((a0.other (λe=>j e.symm) (Vu a1) (Vu a2)).set c1 c2).cells;have x0:=x0.out.trans hR;have hE:=ah ((((x0.setCell H (p:=⟨p4,0,none⟩) (Vu a1)).setCell (p:=⟨p4,1,none⟩) H (Vu a2)).setCell (p:=⟨p5,0,none⟩) u (Vu c1)).setCell (p:=⟨p5,1,none⟩) u (Vu c2));have hz:=ah (bq N (bq M (bq Q O)));clear N M Q O a3 a0 x0 X J;go_wp2;obtain⟨N,M,Q,O⟩:=hz.out;exact aN (v:= .tuple #[idv a1 a2,idv c1 c2,.nilIface]) (by simp[dK,Tryz.results79,go_sem,N,M,Q,O]) rfl ⟨rfl,hE.out⟩
theorem Pq {p:Prop} (h:p:=by
 clear hno;go_wp2;exact aN (v:= .tuple #[.slice none 0 0,qD 3]) (by simp[dK,Tryz.results87,go_sem,qD]) rfl ⟨none,0,rfl,x0.out⟩):p:=h
theorem LC.acN (h:LC F W y L G t ad) (j:L.length<=400000) (a m:Int) (U: -9223372036854775808<=a/\a<=9223372036854775807) (Q: -9223372036854775808<=m/\m<=9223372036854775807)
  (hno:a<0\/m<0\/((om (oQ L G)).length:Int)<a\/((om (oQ L G)).length:Int)-a<m):
  aX Tryz.prog 87 #[lsv y,Vi a,Vi m] W λe w'=>∃A c,e= .returned (.tuple #[.slice A 0 c,qD 3])/\Ext W w':=by
 obtain⟨s,i⟩:∃s,(om (oQ L G)).length=s:=⟨_,rfl⟩;have f:=ah (λW' (H:Ext W W')=>(h.ext H).shown j i);have I:s<=400000:=by rw[<-i];have:=rO (oQ L G) 0;rw[h.len] at this;exact aM this j
 rw[i] at hno;clear h i;have x0:Ext W (W.alloc (qx y)):=(Ext.refl _).alloc _;go_enter Tryz.func87,Tryz.ntmps87
 go_wp2_with fail
 refine(f.out _ x0).mono ?_;rintro e O ⟨rfl,x1⟩;replace x0:=ah (x0.trans x1);clear x1 f;by_cases z:a<0
 ·have N:decide (a<0)=true:=decide_eq_true z
  exact Pq
 ·have N:decide (a<0)=false:=decide_eq_false z
  by_cases u:m<0
  ·have M:decide (m<0)=true:=decide_eq_true u
   exact Pq
  ·have M:decide (m<0)=false:=decide_eq_false u
   by_cases q:(s:Int)<a
   ·have K:decide ((s:Int)<a)=true:=decide_eq_true q
    exact Pq
   ·have K:decide ((s:Int)<a)=false:=decide_eq_false q
    have X:decide ((s:Int)-a<m)=true:=decide_eq_true ω;have J:wrap64 ((s:Int)-a)=(s:Int)-a:=ae9 ω ω;exact Pq
theorem Xc (c:Int) (W:aj) (j:0<=c) (q:c<=40000000):(Instr.makeSlice 51 (.int .i64 0) (.int .i64 c)).run Tryz.prog W= .ok (.slice (some ⟨W.heap.size,0,none⟩) 0 c.toNat) (W.alloc (.cells (Br (.agg #[.int .u32 0,.int .u32 0]) (c.toNat*2)) 55)):=by
 obtain⟨i,hi,f,e,a⟩:=info_parts aeN;exact Bn Tryz.underlying51 hi f e a c W j ω ω
theorem Ii.room {w:aj} (c:Nat) (e:c<=40000000) (a:Ext w W):Ii w (W.alloc (.cells (Br (.agg #[.int .u32 0,.int .u32 0]) (c*2)) 55)) (.slice (some ⟨W.heap.size,0,none⟩) 0 c) []:=
 ⟨by simp[flat],.inr ⟨W.heap.size,c,_,rfl,a.size,aT W _,cK _,by unfold maxLen;omega,xJ _ _,by simp[flat]⟩⟩
theorem LC.acO (h:LC F W y L G t ad) (hl:L.length<=400000) (a m:Nat) (a9:a+m<=(om (oQ L G)).length):
  aX Tryz.prog 87 #[lsv y,Vi (a:Int),Vi (m:Int)] W λe w'=>∃A c,e= .returned (.tuple #[.slice A (uX (oQ L G) a m).length c,.nilIface])/\OdS w' A (uX (oQ L G) a m)/\Ext W w':=by
 obtain⟨s,U⟩:∃s,(om (oQ L G)).length=s:=⟨_,rfl⟩;have a0:=ah (λW' (u:Ext W W')=>(h.ext u).shown hl U);have d9:s<=400000:=by rw[<-U];have:=rO (oQ L G) 0;rw[h.len] at this;exact aM this hl
 rw[U] at a9;replace U:=ah U;have a3:=ah h.len;have e2:=ah h.nd.kn;have a8:=ah (λW' (u:Ext W W') (q p:Nat) (hq:(om (oQ L G))[q]? =some p)=>(h.ext u).Ve hl hq);have a7:=ah (λW' (u:Ext W W') (p:Nat) (X:p<=L.length)=>EO (h.ext u) hl X);clear h;have x0:Ext W (W.alloc (qx y)):=(Ext.refl _).alloc _;have Q:=BxL.new W y;have d1:decide ((a:Int)<0)=false:=decide_eq_false ω;have d2:decide ((m:Int)<0)=false:=decide_eq_false ω;have d3:decide ((s:Int)<(a:Int))=false:=decide_eq_false ω;have d5:decide (s<a)=false:=decide_eq_false ω;have d4:decide ((s:Int)-(a:Int)<(m:Int))=false:=decide_eq_false ω;have e0:(m:Int)<=400000:=ω
 have e3:(a:Int)<=400000:=ω
 go_enter Tryz.func87,Tryz.ntmps87
 go_wp2_with fail
 refine(a0.out _ x0).mono ?_;rintro e J ⟨rfl,x1⟩;replace Q:=ah (Q.ext x1);replace x0:=ah (x0.trans x1);obtain⟨pl,h3⟩:∃p,W.heap.size=p:=⟨_,rfl⟩;rw[h3] at Q⊢;clear x1 a0 h3;have z:=Xc (m:Int) J ω ω;rw[Int.toNat_natCast] at z;have H:=ah (Ii.room (w:=J) m ω (Ext.refl J));have Y:=ah ((Ext.refl J).alloc (.cells (Br (.agg #[.int .u32 0,.int .u32 0]) (m*2)) 55));go_wp2;clear z
 go_loopw [9,36] (λv i W=>∃(j:Nat),j<=m/\i=Vi (j:Int)/\Hid (Ii J W v (uX (oQ L G) a j))/\Hid (Ext J W)) (λ_ i _=>m-(intOf i).toNat)
 case atStart=>exact⟨0,cK _,rfl,ah (by unfold uX;rw[List.take_zero];exact H.out),Y⟩
 case round=>
  clear H Y;obtain⟨j,hj,rfl,H,f⟩:=hrel;by_cases e1:j<m
  ·obtain⟨p,X⟩:∃p,(om (oQ L G))[a+j]? =some p:=⟨_,aO (by rw[U.out];omega)⟩
   have a1:=LM X;obtain⟨x,u⟩:∃x,(oQ L G)[p]? =some x:=⟨_,aO a1⟩;rw[a3.out] at a1;have Z:=ah (XW X u);have O:=ah (λW' (hw:Ext wr W')=>a8.out W' (x0.out.trans (f.out.trans hw)) _ _ X);have I:=ah (λW' (hw:Ext wr W')=>a7.out W' (x0.out.trans (f.out.trans hw)) p ω);rw[vW u] at I;obtain⟨c,k,ch,g⟩:=x;simp only at I Z;rw[show((a+j:Nat):Int)=(a:Int)+(j:Int) by omega] at O;have a5:=aaI (oQ L G) a j;have a4:(uX (oQ L G) a j).length<=400000:=ω
   have d7:(j:Int)<(m:Int):=ω
   replace Q:=Q.out.ext f.out;obtain⟨b0,b1,b2,b3,b4,b5,b6,b7,b8⟩:=Q.cells;obtain⟨no,a2⟩:∃no,(uX (oQ L G) a j).length=no:=⟨_,rfl⟩;obtain⟨Ao,co,rfl,_,_⟩:=H.out.open;have a6:=ah a4;rw[a2] at H a4⊢;clear a2;clear X u Q a5 d1 d2 d3 d5 d4
   go_wp2_with fail
   refine qX 9 [rwI 6 (Vi p),rwI 7 (idv c k),rw1 8 λz9 W=>∃q,z9= .slice (some ⟨q,0,none⟩) 1 1/\OdS W (some ⟨q,0,none⟩) [(c,k)]] ⟨λ_ _ _ _ _ _=>trivial,λ_ _ _ _ _ _=>trivial,by rintro _ _ _ _ ⟨q,h0,h1⟩ e;exact⟨q,h0,h1.ext e⟩,trivial⟩ λρ hI=>?_
   refine .s 6 (λW u y=>by
        have d8:dO.wrap ((a:Int)+(j:Int))=((a:Int)+(j:Int)):=cO _ ω;exact oz) ?_
   refine .kv hI 0 (Vi p) O.out ?_;refine .kv hI 1 (idv c k) I.out ?_;refine .o 2 [] (λW u y _ N hN=>?_) ?_
   ·go_simp
    exact hN _ _ (λ_ e=>by cases e) ⟨_,rfl,OdS.newAt (c,k) rfl⟩ ((Ext.refl W).alloc _)
   refine .fin λW hR ⟨_,_,h8,_⟩=>?_
   obtain⟨q8,e8,h8⟩:=h8;rw[show ρ 8=_ from e8];refine HZ (w0:=J) rfl (.tmp 39) (.tmp 47) rfl _ (uX (oQ L G) a j) rfl (H.out.ext hR) (f.out.trans hR) _ 1 1 [(c,k)] rfl rfl h8 (by simp only[aH,aR];have:=a6.out;omega) ?_;intro v3 w3 o3 x3 b9 d6;clear O I b0 b1 b2 b3 b4 b5 b6 b7 b8 b9 d6 h8;replace o3:=ah o3;replace x3:=ah x3;go_wp2
   go_roundw
   case rel=>exact⟨j+1,ω,ν,ah (by rw[Z.out];exact o3.out),x3⟩
   case measure=>simp[intOf];omega
  ·have hz:=ah (show j=m by omega)
   rw[hz.out] at H;obtain⟨Ao,co,rfl,_,M⟩:=H.out.open;have hE:=ah (x0.out.trans f.out);replace M:=ah M;clear H;go_wp2;exact aN (v:= .tuple #[.slice Ao (uX (oQ L G) a m).length co,.nilIface]) (by simp[dK,Tryz.results87,go_sem]) rfl ⟨_,_,rfl,M.out,hE.out⟩
end
section
open Go.ChangeShapes Go.WideShapes Go.ChangeAt Go.RowKit Go.Sort
attribute [local go_sem] au
theorem Ix.mono {F G:Nat->Prop} {W:aj} {v:aI} {l:List En} (h:Ix F W v l) (a:∀b,F b->G b) (e:∀b,G b->b<W.heap.size):Ix G W v l:=by
 obtain⟨t,x,K,I,H,z,u,q,j,i,f,J⟩:=h;exact⟨t,x,K,I,H,z,u,q,j,i,f.mono a,e⟩
variable {F:Nat->Prop} {W:aj} {l:List En}
theorem Ix.below {v:aI} (h:Ix F W v l):∀b,F b->b<W.heap.size:=by
 obtain⟨t,x,I,H,z,u,q,j,i,f,e,a⟩:=h;exact a
theorem Ix.shape {v:aI} (h:Ix F W v l):∃x,v=ixv x:=by
 obtain⟨t,x,a,_⟩:=h;exact⟨x,a⟩
abbrev lvx (x:Xv) (p:Option Addr):Lv:=⟨x.A,x.n,x.c,x.l,x.r,x.h,x.m,x.s,x.lo,x.hi,p⟩
theorem BZ {c k:Int} (h:ET l c k=true):∃q,pI l c k=some q:=by
 cases a:pI l c k with
 |none=>rw[Di.1 a] at h;cases h
 |some q=>exact⟨q,rfl⟩
theorem LC.ah2 {y:Lv} {L:List It} {G:List I2} {t:HT} {ad:I2->Nat} (h:LC F W y L G t ad) (hl:L.length<=360000) (c k:Int) (j:nZ L (c,k)=false):
  aX Tryz.prog 115 #[lsv y,idv c k] W λe w'=>∃z:Lv,e= .returned (.tuple #[lsv z,qD 1])/\Ext W w':=by
 have x0:Ext W (((W.alloc (qx y)).alloc (.cells #[.int .u32 c,.int .u32 k] 55)).alloc (qx zLv)):=(((Ext.refl W).alloc _).alloc _).alloc _;have f:=BxL.new ((W.alloc (qx y)).alloc (.cells #[.int .u32 c,.int .u32 k] 55)) zLv;rw[show((W.alloc (qx y)).alloc (.cells #[.int .u32 c,.int .u32 k] 55)).heap.size=W.heap.size+1+1 by simp] at f;have q:=ah (λw' (Y:Ext W w')=>Ya w' _ _ c k (h.ext Y).ix (by rw[h.len];omega) (Di.2 (by rw[xk h.nd.kn];exact j)));have a:W.heap.size<=W.heap.size+1+1:=ω
 rw[show qD 1= .iface 75 (Vi 1) from rfl] at q;clear h;go_enter Tryz.func115,Tryz.ntmps115
 go_wp2_with fail
 refine(q.out _ x0).mono ?_;rintro e w1 ⟨rfl,x1⟩;obtain⟨u,i⟩:∃u,W.heap.size+1+1=u:=⟨_,rfl⟩;rw[i] at f a⊢;replace f:=(f.ext x1).ext ((Ext.refl _).alloc (Q8 ⟨none,0,0,none,none,0,0,0,0,0⟩));have Z:=ah ((x0.trans x1).alloc (Q8 ⟨none,0,0,none,none,0,0,0,0,0⟩));clear x0 x1 q i;obtain⟨k0,k1,k2,k3,k4,k5,k6,k7,k8⟩:=f.cells;have f0:=f.thaw 0;have f1:=f.thaw 1;have f2:=f.thaw 2;have f3:=f.thaw 3;have f4:=f.thaw 4;have f5:=f.thaw 5;have f6:=f.thaw 6;have f7:=f.thaw 7;have f8:=f.thaw 8;have X:=ah (f.put zLv).cells;clear f;go_wp2;obtain⟨U,Q,O,N,M,K,J,I,H⟩:=X.out;exact aN (v:= .tuple #[lsv zLv,qD 1]) (by simp[dK,Tryz.results115,go_sem,U,Q,O,N,M,K,J,I,H,qD]) rfl ⟨zLv,rfl,((((((((Z.out.setCell a _).setCell a _).setCell a _).setCell a _).setCell a _).setCell a _).setCell a _).setCell a _).setCell a _⟩
theorem Ix.frame {F:Nat->Prop} {W W':aj} {v:aI} {l:List En} (h:Ix F W v l) (i:∀b,F b->W'.heap[b]? =W.heap[b]?):Ix F W' v l:=by
 obtain⟨t,x,f,a,K,J,I,H,z,u,q,e⟩:=h;refine⟨t,x,f,a,K,J,I,H,z,u,q.frame i,λb j=>?_⟩;have f:=e b j;have a:=i b j;rw[Array.getElem?_eq_getElem f] at a;exact(Array.getElem?_eq_some_iff.1 a).1
theorem LC.frame {F:Nat->Prop} {W W':aj} {y:Lv} {L:List It} {G:List I2} {t:HT} {ad:I2->Nat} (h:LC F W y L G t ad) (a:∀b,F b->W'.heap[b]? =W.heap[b]?):LC F W' y L G t ad:=
 ⟨h.ix.frame a,h.hv.frame a,h.nd.frame a,h.srt,h.mem,h.gin,h.wf,(h.ix.frame a).below,h.tl⟩
theorem LC.del {y:Lv} {L:List It} {G:List I2} {t:HT} {ad:I2->Nat} (h:LC F W y L G t ad) (hl:L.length<=360000) (c k:Int) (K:nZ L (c,k)=true):
  aX Tryz.prog 115 #[lsv y,idv c k] W λe w'=>∃O z,e= .returned (.tuple #[lsv z,.nilIface])/\LC O w' z L (G++[(c,k)]) t ad/\(∀b,O b->F b\/W.heap.size<=b)/\Ext W w':=by
 have x0:Ext W (((W.alloc (qx y)).alloc (.cells #[.int .u32 c,.int .u32 k] 55)).alloc (qx zLv)):=(((Ext.refl W).alloc _).alloc _).alloc _;have j:=BxL.new ((W.alloc (qx y)).alloc (.cells #[.int .u32 c,.int .u32 k] 55)) zLv;rw[show((W.alloc (qx y)).alloc (.cells #[.int .u32 c,.int .u32 k] 55)).heap.size=W.heap.size+1+1 by simp] at j;have bl:=((BxL.new W y).ext ((Ext.refl _).alloc (.cells #[.int .u32 c,.int .u32 k] 55))).ext ((Ext.refl _).alloc (qx zLv));obtain⟨q,hq⟩:=BZ (show ET (oQ L G) c k=true by rw[xk h.nd.kn];exact K);have hf:=ah (λw' (hx:Ext W w')=>adx w' _ _ c k q (h.ext hx).ix (by rw[h.len];omega) (Yr h.nd.kn G) hq);have i:W.heap.size<=W.heap.size+1+1:=ω
 have I:(((W.alloc (qx y)).alloc (.cells #[.int .u32 c,.int .u32 k] 55)).alloc (qx zLv)).heap.size=W.heap.size+1+1+1:=ι
 replace h:=ah h;replace I:=ah I;clear hq;go_enter Tryz.func115,Tryz.ntmps115
 go_wp2_with fail
 refine(hf.out _ x0).mono ?_;rintro e u ⟨O,v',rfl,N,H,x1⟩;obtain⟨x,rfl⟩:=N.shape;rw[I.out] at H;obtain⟨J,Q⟩:∃J,W.heap.size+1+1=J:=⟨_,rfl⟩;rw[Q] at j i H⊢;have M:Ext u (u.alloc (Q8 x)):=(Ext.refl _).alloc _;replace j:=(j.ext x1).ext M;replace bl:=(bl.ext x1).ext M;have bi:=Bx.new u x 82;have hE:=x0.trans x1;have f:=h.out.ext hE;have U:∀b,F b\/O b->b≠J:=by
  rintro b (a|a) e
  ·have:=h.out.lt b a;omega
  ·rcases H b a with a|a
   ·have:=h.out.lt b a;omega
   ·omega
 have Y:=ah (show LC (λb=>F b\/O b) (vR (u.alloc (Q8 x)) J (lvx x y.p)) (lvx x y.p) L (G++[(c,k)]) t ad/\(∀b,(λb=>F b\/O b) b->F b\/W.heap.size<=b)/\Ext W (vR (u.alloc (Q8 x)) J (lvx x y.p)) from by
  refine⟨LC.frame (W:=u) ?_ ?_,?_,?_⟩
  ·refine⟨?_,f.hv.mono λb a=> .inl a,f.nd.mono λb a=> .inl a,f.srt,f.mem,?_,f.wf,?_,f.tl⟩
   ·rw[<-abq]
    exact N.mono (λb a=> .inr a) (λb a=>a.elim (λa=>f.lt b a) (λa=>N.below b a))
   ·intro g X
    rcases List.mem_append.1 X with X|X
    ·exact f.gin g X
    ·rw[List.mem_singleton.1 X];exact K
   ·exact λb a=>a.elim (λa=>f.lt b a) (λa=>N.below b a)
  ·intro b a
   have Z:b<u.heap.size:=a.elim (λa=>f.lt b a) (λa=>N.below b a);have h1:=aJ M b Z;have h2:=(show(u.alloc (Q8 x)).grownBy (vR (u.alloc (Q8 x)) J (lvx x y.p)) (some J) from sH _ _ _).block b (M.lt Z) (λe=>U b a (by injection e));exact h2.trans h1
  ·rintro b (a|a)
   ·exact .inl a
   ·rcases H b a with a|a
    ·exact .inl a
    ·exact .inr ω
  ·exact((((((((((hE.trans M).setCell i _).setCell i _).setCell i _).setCell i _).setCell i _).setCell i _).setCell i _).setCell i _).setCell i _))
 replace hE:=ah hE;have a0:J<u.heap.size:=by have:=x1.size;rw[I.out] at this;omega
 clear x0 x1 hf Q N H f U M;obtain⟨k0,k1,k2,k3,k4,k5,k6,k7,k8⟩:=j.cells;have f0:=j.thaw 0;have f1:=j.thaw 1;have f2:=j.thaw 2;have f3:=j.thaw 3;have f4:=j.thaw 4;have f5:=j.thaw 5;have f6:=j.thaw 6;have f7:=j.thaw 7;have f8:=j.thaw 8;obtain⟨b0,b1,b2,b3,b4,b5,b6,b7,b8⟩:=bl.cells;obtain⟨i0,i1,i2,i3,i4,i5,i6,i7⟩:=bi;have hz:=ah (j.put (lvx x y.p)).cells;clear j bl
 go_upto_if 16 with fail
 generalize u.alloc (Q8 x)=w2 at*;go_wp2;obtain⟨z0,z1,z2,z3,z4,z5,z6,z7,z8⟩:=hz.out;exact aN (v:= .tuple #[lsv (lvx x y.p),.nilIface]) (by simp[dK,Tryz.results115,go_sem,z0,z1,z2,z3,z4,z5,z6,z7,z8]) rfl ⟨_,_,rfl,Y.out⟩
end
section
open Go.Shelf
def renWr:Go.Shelf.Ren:=⟨λ|168=>62|240=>97|242=>98|276=>133|278=>134|n=>n,
 λ|0=>0|3=>3|4=>4|5=>5|9=>9|20=>20|21=>21|37=>32|46=>203|51=>24|70=>142|72=>144|75=>29|80=>58|164=>171|n=>n,λ|n=>n⟩
theorem laysWr:Go.Proofs.Lays.n168 Tryz.prog renWr:={
 mixed:=κ
 f168:=Tryz.func62.trans (congrArg some κ)
 f240:=Tryz.func97.trans (congrArg some κ)
 f242:=Tryz.func98.trans (congrArg some κ)
 f276:=Tryz.func133.trans (congrArg some κ)
 f278:=Tryz.func134.trans (congrArg some κ)
 t0:=Tryz.underlying0
 a0:=Tryz.isAgg0
 z0:=Tryz.sizeOf0
 v0:=Tryz.zeroValue0
 t3:=Tryz.underlying3
 a3:=Tryz.isAgg3
 z3:=Tryz.sizeOf3
 v3:=Tryz.zeroValue3
 t4:=Tryz.underlying4
 a4:=Tryz.isAgg4
 z4:=Tryz.sizeOf4
 v4:=Tryz.zeroValue4
 t5:=Tryz.underlying5
 a5:=Tryz.isAgg5
 z5:=Tryz.sizeOf5
 v5:=Tryz.zeroValue5
 t9:=Tryz.underlying9
 a9:=Tryz.isAgg9
 z9:=Tryz.sizeOf9
 v9:=Tryz.zeroValue9
 t20:=Tryz.underlying20
 a20:=Tryz.isAgg20
 z20:=Tryz.sizeOf20
 v20:=Tryz.zeroValue20
 t21:=Tryz.underlying21
 a21:=Tryz.isAgg21
 z21:=Tryz.sizeOf21
 v21:=Tryz.zeroValue21
 t37:=Tryz.underlying32
 a37:=Tryz.isAgg32
 z37:=Tryz.sizeOf32
 v37:=Tryz.zeroValue32
 t46:=Tryz.underlying203
 a46:=Tryz.isAgg203
 z46:=Tryz.sizeOf203
 v46:=Tryz.zeroValue203
 t51:=Tryz.underlying24
 a51:=Tryz.isAgg24
 z51:=Tryz.sizeOf24
 v51:=Tryz.zeroValue24
 t70:=Tryz.underlying142
 a70:=Tryz.isAgg142
 z70:=Tryz.sizeOf142
 v70:=Tryz.zeroValue142
 t72:=Tryz.underlying144
 a72:=Tryz.isAgg144
 z72:=Tryz.sizeOf144
 v72:=Tryz.zeroValue144
 t75:=Tryz.underlying29
 a75:=Tryz.isAgg29
 z75:=Tryz.sizeOf29
 v75:=Tryz.zeroValue29
 t164:=Tryz.underlying171
 a164:=Tryz.isAgg171
 z164:=Tryz.sizeOf171
 v164:=Tryz.zeroValue171 }
theorem extraWr:Builder.Extra Tryz.prog renWr where
 sizeBuilder:=κ
 liesBuilder:=κ
 t5:=Tryz.underlying5
 a5:=Tryz.isAgg5
 z5:=Tryz.sizeOf5
 v5:=Tryz.zeroValue5
 infoByte:=κ
 cellsByte:=κ
 sizeByte:=κ
 neB5:=δ
theorem extraStr:Builder.Extra Tryz.prog Tryz.laysString_ren where
 sizeBuilder:=κ
 liesBuilder:=κ
 t5:=Tryz.underlying5
 a5:=Tryz.isAgg5
 z5:=Tryz.sizeOf5
 v5:=Tryz.zeroValue5
 infoByte:=κ
 cellsByte:=κ
 sizeByte:=κ
 neB5:=δ
def Bld (B b:Nat) (l:List UInt8) (w:aj):Prop:=Lib.IsBuilderF 144 5 B b (nK l) w
theorem writeRune_any (B b:Nat) (l:List UInt8) (r:Int) (f: -2147483648<=r) (a:r<=2147483647) (w:aj) (h:Bld B b l w) (j:l.length<=40000000) (i:B<=w.heap.size):
  aX Tryz.prog 62 #[.pointer (some ⟨b,0,none⟩),.int .i32 r] w λe w'=>e= .returned (.tuple #[.int .i64 (Lib.runeCells r).length,.nilIface])/\Bld B b (l++bK r) w'/\kY B w w':=by
 refine(nL laysWr extraWr B b (nK l) r f a w h (by rw[Lib.byteCells_length];omega) i).mono ?_;rintro e w' ⟨z,u,q,_⟩;refine⟨z,?_,q⟩;unfold Bld;rw[Lib.byteCells_append,ny];exact .inr u
theorem writeRuneO_any (B b:Nat) (l:List UInt8) (r:Int) (f: -2147483648<=r) (a:r<=2147483647) (w:aj) (h:Bld B b l w) (j:l.length<=40000000) (i:B<=w.heap.size):
  aX Tryz.prog 62 #[.pointer (some ⟨b,0,none⟩),.int .i32 r] w λe w'=>e= .returned (.tuple #[.int .i64 (Lib.runeCells r).length,.nilIface])/\Bld B b (l++bK r) w'/\kY B w w'/\kH 5 (some b) w w':=by
 refine(nL laysWr extraWr B b (nK l) r f a w h (by rw[Lib.byteCells_length];omega) i).mono ?_;rintro e w' ⟨H,z,u,q⟩;refine⟨H,?_,u,q⟩;unfold Bld;rw[Lib.byteCells_append,ny];exact .inr z
theorem string_any (B b:Nat) (l:List UInt8) (w:aj) (h:Bld B b l w) (a:B<=w.heap.size):
  aX Tryz.prog 63 #[.pointer (some ⟨b,0,none⟩)] w λe w'=>e= .returned (.string ⟨l.toArray⟩)/\Bld B b l w'/\kY B w w':=by
 refine(Any.Builder_String_any_k Tryz.laysString extraStr B b l w h a).mono ?_;rintro e w' ⟨j,i,f,_⟩;exact⟨j,i,f⟩
theorem runeCount_any (s:ByteArray) (w:aj) (f:s.size<9223372036854775807):aX Tryz.prog 81 #[.string s] w λe w'=>e= .returned (.int .i64 (Lib.runeCount s))/\Ext w w':=by
 refine(Any.utf8_RuneCountInString Tryz.laysCount s w f).mono ?_;rintro e w' ⟨i,a,rfl⟩;exact⟨i,(Ext.refl _).alloc _⟩
theorem validStr_any (s:ByteArray) (w:aj) (a:s.size<=9223372036854775807) (f:Tabs w):aX Tryz.prog 78 #[.string s] w λe w'=>e= .returned (.bool (Lib.validD s.data.toList))/\Ext w w':=
 Any.utf8_ValidString Tryz.laysValid s w a f
end
section
open Go.ChangeShapes Go.WideShapes Go.ChangeAt Go.RowKit Go.Sort
attribute [local go_sem] au
variable {B b:Nat} {W w:aj}
theorem Nn {l:List UInt8} (h:Bld B b l w) (o:Obj):Bld B b l (w.alloc o):=Lib.IsBuilderF.alloc h o
theorem aeg (w:aj):Bld w.heap.size w.heap.size [] (w.alloc (.cells #[.pointer none,.slice none 0 0] 144)):=Lib.IsBuilderF.of (Lib.fresh_isBuilder 144 5 w)
theorem Np {T e:TypeId} {p:aI} {bs:List aI} {W':aj} (h:Lib.BuilderAtF T e B b p bs W) (a:kY W.heap.size W W'):Lib.BuilderAtF T e B b p bs W':=by
 have j:=h.lt;obtain⟨u,v,hv,f,i⟩:=h;exact⟨u,v,(a.block b j).trans hv,f.kept (row:=none) ⟨a.os,a.tape,a.output,a.size,λk q _=>a.block k q⟩ (Classical.em _),i⟩
theorem aeh {l:List UInt8} {w':aj} (h:Bld B b l w) (a:Ext w w'):Bld B b l w':=h.elim (λx=> .inl (Np x a)) (λx=> .inr (Np x a))
theorem WS (l m:List UInt8):(⟨l.toArray⟩:ByteArray)++⟨m.toArray⟩=⟨(l++m).toArray⟩:=by
 apply ByteArray.ext;simp
theorem Xb (a:List Int):runesBytes a=⟨(a.flatMap bK).toArray⟩:=by
 have key:∀(a:List Int) (m:List UInt8),a.foldl (λr n=>r++Utf8.encode n) (⟨m.toArray⟩:ByteArray)=⟨(m++a.flatMap bK).toArray⟩:=by
  intro a
  induction a with
  |nil=>intro m;simp
  |cons c a ih=>
   intro m;rw[List.foldl_cons,agq,WS,ih,mJ,List.append_assoc]
 have:=key a [];rw[List.nil_append] at this;exact this
def bE (l:List En):List UInt8:=(GH l).flatMap bK
theorem aej {l:List En} {k:Nat} {x:En} (h:l[k]? =some x):bE (l.take (k+1))=bE (l.take k)++if x.g then [] else bK x.ch:=by
 unfold bE GH;rw[List.take_add_one,h];cases a:x.g <;> simp[a]
theorem Yt (c:Int):(bK c).length<=4:=by
 have:=Ec [⟨0,0,0,0,0,0,c⟩];simpa[sK] using this
theorem agA (l:List En):(bE l).length<=4*l.length:=by
 unfold bE;have e:=Yz l;have key:∀a:List Int,(a.flatMap bK).length<=4*a.length:=by
  intro a
  induction a with
  |nil=>simp
  |cons c a ih=>rw[mJ,List.length_append,aH];have:=Yt c;omega
 have:=key (GH l);omega
theorem qI.others {W':aj} {v:aI} {l:List En} (h:qI w W v l) (f:kH 5 (some b) W W') (a:v.ownBlock≠some b):qI w W' v l:=by
 unfold qI oW at h⊢;rcases h with⟨h1,h2|⟨g,cap,cur,h2,h3,h4,h5⟩⟩
 ·exact⟨h1,.inl h2⟩
 ·refine⟨h1,.inr ⟨g,cap,cur,h2,h3,?_,h5⟩⟩
  refine f g _ h4 (λe=>a ?_) (λc i e=>?_)
  ·rw[h2];exact e
  ·injection e with _ e _;exact absurd e δ
theorem LC.chs {F:Nat->Prop} {y:Lv} {L:List It} {G:List I2} {t:HT} {ad:I2->Nat} (h:LC F W y L G t ad):∀x∈oQ L G,-2147483648<=x.ch/\x.ch<=2147483647:=by
 intro x e;obtain⟨a,q,rfl⟩:=List.mem_map.1 e;obtain⟨i,x,j,e,_⟩:=EX (((sU h.nd.kn).all a).1 q);have f:=h.wf x (aP e);show-2147483648<=chI L a/\chI L a<=2147483647;rw[ab2 j e];unfold wfI at f;omega
theorem acD (y:Lv) (l:List En) (W:aj) (hb:l.length<=400000) (M:∀x∈l,-2147483648<=x.ch/\x.ch<=2147483647)
  (f:∀w',Ext W w'->aX Tryz.prog 61 #[ixv (xl y)] w' λe Y=>∃v,e= .returned v/\qI w' Y v l/\Ext w' Y):
  aX Tryz.prog 40 #[lsv y] W λe w'=>e= .returned (.string (textE l))/\Ext W w':=by
 replace f:=ah f;replace M:=ah M;obtain⟨n,Q⟩:∃n,l.length=n:=⟨_,rfl⟩;rw[Q] at hb;replace Q:=ah Q;have u:Ext W (W.alloc (qx y)):=(Ext.refl W).alloc _;have bn:=aeg (W.alloc (qx y));have q:Ext (W.alloc (qx y)) ((W.alloc (qx y)).alloc (.cells #[.pointer none,.slice none 0 0] 144)):=(Ext.refl _).alloc _;have O:(W.alloc (qx y)).heap.size=W.heap.size+1:=ι
 have K:W.heap.size+1<((W.alloc (qx y)).alloc (.cells #[.pointer none,.slice none 0 0] 144)).heap.size:=ι
 replace u:=ah u;replace q:=ah q;replace bn:=ah bn;go_enter Tryz.func40,Tryz.ntmps40
 go_wp2_with fail
 have a:=ah (f.out _ (u.out.trans q.out));clear f;generalize W.alloc (qx y)=j at*;generalize j.alloc (.cells #[.pointer none,.slice none 0 0] 144)=W1 at*;rw[<-O] at K⊢;replace O:=ah O;refine a.out.mono ?_;rintro e Y ⟨v,rfl,o,x2⟩;have a1:v.ownBlock≠some j.heap.size:=λe=>by have:=(o.lt _ e).1;omega
 obtain⟨A,c,rfl,hc,hE⟩:=o.open;have ho:=ah (λW (hk:kH 5 (some j.heap.size) Y W)=>(show EnS W A l by
  obtain⟨A',c',e,_,h⟩:=(o.others hk a1).open;injection e with e;rw[e];exact h))
 rw[Q.out];have a3:=ah (aeh bn.out x2);have Z:=ah (q.out.trans x2);have N:=x2.lt K;clear bn q K a o hE a1 x2;go_wp2
 go_loopw [10] (λi W=>∃(k:Nat),k<=n/\i=Vi k/\Hid (Bld j.heap.size j.heap.size (bE (l.take k)) W)/\Hid (Ext j W)/\j.heap.size<W.heap.size/\Hid (kH 5 (some j.heap.size) Y W)) (λi _=>n-(intOf i).toNat)
 case atStart=>exact⟨0,cK _,rfl,a3,Z,N,ah (Lib.OthersKept.refl _ _ _)⟩
 case round=>
  clear a3 Z N;obtain⟨k,hk,rfl,hB,hx,N,hO⟩:=hrel;by_cases a5:k<n
  ·obtain⟨b,o,x,rfl,hp,d⟩:=(ho.out wr hO.out).at (k:=k) (by rw[Q.out];exact a5)
   obtain⟨c0,c1,c2,c3⟩:=d;have U:=ah (aej hp);have a2:=agA (l.take k);rw[List.length_take] at a2;have H:=M.out x (aP hp);have a9:(0:Int)<=(k:Int):=ω
   have a8:(k:Int)<(n:Int):=ω
   have a:=ah (λ(o:Obj)=>writeRuneO_any j.heap.size j.heap.size (bE (l.take k)) x.ch H.1 H.2 (wr.alloc o) (Nn hB.out o) ω (by simp;omega));replace H:=ah H;clear hp a2;cases hg:x.g with
   |true=>
    rw[hg] at c3 U;rw[if_pos rfl,bZ] at U;have a7:=ah (λo=>(Nn hB.out o));have I:=ah (λo=>(hO.out.alloc o));have z:=ah (λo=>hx.out.alloc o);clear hg a;go_wp2
    go_roundw
    case rel=>exact⟨k+1,ω,ν,ah (by rw[U.out];exact a7.out _),z.out _,by simp;omega,I.out _⟩
    case measure=>simp[intOf];omega
   |false=>
    rw[hg] at c3 U;rw[if_neg δ] at U;have I:=ah (λo=>(hO.out.alloc o));have z:=ah (λo=>hx.out.alloc o);clear hg
    go_wp2_with fail
    refine(a.out _).mono ?_;rintro e w3 ⟨rfl,h2,X,h4⟩;replace h2:=ah h2;have J:=ah (Below.trans (z.out _) X);have a6:=ah ((I.out _).trans h4);have a4:j.heap.size<w3.heap.size:=by have:=X.size;simp at this;omega
    clear X h4 a z I;go_wp2
    go_roundw
    case rel=>exact⟨k+1,ω,ν,ah (by rw[U.out];exact h2.out),J,a4,a6⟩
    case measure=>simp[intOf];omega
  ·obtain rfl:k=n:=ω
   rw[show l.take k=l from List.take_of_length_le (by rw[Q.out];exact Nat.le_refl _)] at hB;have a0:=ah (string_any j.heap.size j.heap.size (bE l) wr hB.out ω);have hr:=ah (show textE l=⟨(bE l).toArray⟩ from Xb _);clear hB
   go_wp2_with fail
   refine a0.out.mono ?_;rintro e w3 ⟨rfl,_,X⟩;have J:=ah (u.out.trans (Below.trans hx.out X));clear X a0;go_wp2;go_ret;exact⟨by rw[hr.out];rfl,J.out⟩
theorem LC.text {F:Nat->Prop} {y:Lv} {L:List It} {G:List I2} {t:HT} {ad:I2->Nat} (h:LC F W y L G t ad) (a:L.length<=400000):
  aX Tryz.prog 40 #[lsv y] W λe w'=>e= .returned (.string (textE (oQ L G)))/\Ext W w':=
 acD y _ W (by rw[h.len];exact a) h.chs λw' f=>aem w' _ _ (h.ext f).ix (by rw[h.len];exact a)
end
section
open Go.ChangeShapes Go.WideShapes Go.ChangeAt Go.RowKit Go.Sort
attribute [local go_sem] au
attribute [local go_sem ↓] aaK
def lfR (x:It):I2:=if x.lc=0 then(0,0) else ilf x
variable {L:List It}
theorem afC {x:It} (a:pQ L x=true):RtL L (lfR x):=by
 obtain⟨_,_,e,_⟩:=oD a;unfold lfR;by_cases h:x.lc=0
 ·rw[if_pos h];exact .inl rfl
 ·rw[if_neg h];exact .inr (e.resolve_left h)
theorem LC.agk {F:Nat->Prop} {W:aj} {y:Lv} {G:List I2} {t:HT} {ad:I2->Nat} (h:LC F W y L G t ad) {x:It} (i:pQ L x=true):
  aX Tryz.prog 91 #[.pointer y.p,idv x.lc x.lk] W λe w'=>e= .returned (vAd ad (lfR x))/\Ext W w':=by
 obtain⟨_,_,f,_⟩:=oD i;unfold lfR;by_cases a:x.lc=0
 ·rw[if_pos a,xG]
  exact h.Ut (by rw[a];exact pW h.nd.kn _)
 ·rw[if_neg a,uM h.nd.kn (f.resolve_left a)]
  exact h.O5 (f.resolve_left a)
abbrev wS (x:It):Obj:= .cells #[.int .u32 x.c,.int .u32 x.k,.int .u32 x.lc,.int .u32 x.lk,.int .u32 x.rc,.int .u32 x.rk,.int .i32 x.ch] 57
theorem LC.neighbours {F:Nat->Prop} {W:aj} {y:Lv} {G:List I2} {t:HT} {ad:I2->Nat} (h:LC F W y L G t ad) (hl:L.length<=360000) (x:It) (hx:pQ L x=true):
  aX Tryz.prog 181 #[itv x,.pointer y.p] W λe w'=>∃v,e= .returned v/\oZ W w' v (nbs L x)/\Ext W w':=by
 obtain⟨N1,M⟩:∃N1,(if x.lc=0 then [] else [bare (ilf x) (0,0)]:List It)=N1:=⟨_,rfl⟩;obtain⟨N2,K⟩:∃N2,(if x.rc=0\/irt x=ilf x then [] else [bare (irt x) (if(su L (irt x) (lfR x)).isSome then ilf x else(0,0))]:List It)=N2:=⟨_,rfl⟩;have b1:nbs L x=N1++N2:=by rw[<-M,<-K];rfl
 rw[b1];clear b1;have x0:Ext W (W.alloc (wS x)):=(Ext.refl W).alloc _;have f:=pX.newL W x;replace h:=ah h;replace K:=ah K;go_enter Tryz.func181,Tryz.ntmps181
 go_upto_if 10 with fail
 obtain⟨b,hb⟩:∃b,decide (x.lc=0)=b:=⟨_,rfl⟩;refine(zy hb _).mono ?_;rintro e w1 ⟨rfl,x1⟩;replace f:=f.ext x1;replace x0:=ah (x0.trans x1);obtain⟨pb,a4⟩:∃pb,W.heap.size=pb:=⟨_,rfl⟩;rw[a4] at f⊢;replace a4:=ah a4;obtain⟨k0,J,q,j,H,z,I⟩:=f.cells;simp only[bH] at k0 J q j H z I;clear x1
 go_upto_if 10 with fail
 go_cut [5] (λs wx=>∃v,s=v/\Hid (oZ W wx v N1)/\Hid (pX wx pb x)/\Hid (Ext W wx))
 case first=>
  cases b with
  |true=>
   rw[if_pos (by simpa using hb)] at M;subst M;clear k0 J q j H z I;replace f:=ah f
   go_wp2_with fail
   go_meet;exact⟨_,rfl,ah (oZ.nil _ _),f,x0⟩
  |false=>
   rw[if_neg (by simpa using hb)] at M;subst M;have b9:=ah f;clear f
   go_wp2_with(at_builtin;go_loud (refine qj (w0:=W) rfl (.tmp 11) (.tmp 15) rfl _ [] rfl (oZ.nil _ _) (x0.out.alloc _) _ 1 1 [bare (ilf x) (0,0)] rfl rfl (ItS.new _ (bare (ilf x) (0,0))) ι ?_;intro v3 w3 o3 x3 g3 b3))
   go_meet;exact⟨_,rfl,ah o3,ah ((b9.out.ext ((Ext.refl _).alloc _)).grown g3 (λe=>by cases(show some pb=none from e))),ah x3⟩
 case rest=>
  obtain⟨v,rfl,ho,b2,a0⟩:=hcut;clear x0 f k0 J q j H z I hb;have f:=b2.out;obtain⟨k0,J,q,j,H,z,I⟩:=f.cells;simp only[bH] at k0 J q j H z I;clear b2;replace f:=ah f;obtain⟨r,hr⟩:∃r,decide (x.rc=0)=r:=⟨_,rfl⟩;cases r with
  |true=>
   have hN:=K.out;rw[if_pos (.inl (by simpa using hr))] at hN;subst hN
   go_wp2_with fail
   refine(zy hr _).mono ?_;rintro e Q ⟨rfl,x2⟩;have a:=ah (ho.out.ext x2);have hE:=ah (a0.out.trans x2);clear x2 k0 J q j H z I hr;go_wp2;go_ret;exact⟨_,rfl,by rw[bZ];exact a.out,hE.out⟩
  |false=>
   have a1:x.rc≠0:=by simpa using hr
   obtain⟨B,hB⟩:∃B,EN x.rc x.rk x.lc x.lk=B:=⟨_,rfl⟩;cases B with
   |true=>
    have hN:=K.out;have e1:irt x=ilf x:=by
     unfold EN at hB;have:=of_decide_eq_true hB;exact Prod.ext this.1 this.2
    rw[if_pos (.inr e1)] at hN;subst hN;clear e1
    go_wp2_with fail
    refine(zy hr _).mono ?_;rintro e Q ⟨rfl,x2⟩;have a:=ah (ho.out.ext x2);have hE:=ah (a0.out.trans x2);obtain⟨k0,J,q,j,H,z,I⟩:=(f.out.ext x2).cells;simp only[bH] at k0 J q j H z I;clear x2 hr a1;go_wp2;go_ret;exact⟨_,rfl,by rw[bZ];exact a.out,hE.out⟩
   |false=>
    have hN:=K.out;have e1:¬irt x=ilf x:=by
     unfold EN at hB;intro e;exact of_decide_eq_false hB ⟨congrArg mg e,congrArg nu e⟩
    rw[if_neg (λe=>e.elim a1 e1)] at hN;have a3:=(oD hx).2.2.2.resolve_left a1;have Y:=ah (λw' (hw:Ext W w')=>(h.out.ext hw).O5 (c:=x.rc) (k:=x.rk) a3);have X:=ah (λw' (hw:Ext W w')=>(h.out.ext hw).agk hx);have u:=ah (λw' (hw:Ext W w')=>D6 w' (h.out.ext hw).nd a3 (afC hx) ω);clear e1 a1 a3;obtain⟨pf,b0⟩:=vw ad (lfR x);rw[b0] at X u;clear b0;change Hid (∀w',Ext W w'->aX Tryz.prog 91 #[.pointer y.p,idv x.rc x.rk] w' λe Q=>e= .returned (Vp (ad (irt x)))/\Ext w' Q) at Y;generalize ad (irt x)=pr at*;obtain⟨R,hR⟩:∃R,su L (irt x) (lfR x)=R:=⟨_,rfl⟩;rw[hR] at u hN;clear hR
    go_wp2_with fail
    refine(zy hr _).mono ?_;rintro e Q ⟨rfl,x2⟩;have a:=ah (ho.out.ext x2);have hE:=ah (a0.out.trans x2);replace f:=f.out.ext x2;obtain⟨k0,J,q,j,H,z,I⟩:=f.cells;simp only[bH] at k0 J q j H z I;replace f:=ah f;have Z:=pX.newL Q (bare (irt x) (0,0));have O:Ext Q (Q.alloc (wS (bare (irt x) (0,0)))):=(Ext.refl _).alloc _;clear x2 hr ho a0;rw[show(bare (irt x) (0,0))=⟨x.rc,x.rk,0,0,0,0,0⟩ from rfl] at Z O;have a9:W.heap.size<=Q.heap.size:=hE.out.size;have b4:u5.ownBlock≠some Q.heap.size:=λe=>by have:=(a.out.lt _ e).2;omega
    have d1:N1.length<=1:=by rw[<-M];split <;> simp
    go_wp2_with fail
    have i:=ah (hE.out.trans O);replace a:=ah (a.out.ext O);replace k0:=O.keep k0;replace J:=O.keep J;replace q:=O.keep q;replace j:=O.keep j;replace H:=O.keep H;replace z:=O.keep z;replace I:=O.keep I;clear O;generalize Q.alloc (wS ⟨x.rc,x.rk,0,0,0,0,0⟩)=w3 at*;generalize Q.heap.size=N at*;have a8:=q;have a7:=j;replace q:=av q;replace j:=av j;replace H:=av H;replace z:=av z;clear k0 J I;cases R with
    |none=>
     rw[show hgV ad none=vK from rfl] at u;subst hN;refine aL κ κ ?_
     repeat go_big_quiet_step((first|with_reducible exact Calls.oh (Y.out _ (i.out.trans (Ext.nX _ _ _)))|with_reducible exact Calls.oh (X.out _ (i.out.trans (Ext.nX _ _ _)))|with_reducible exact Calls.wZ (u.out _ (i.out.trans (Ext.nX _ _ _)))))
     refine bQ ?_;intro _ a2;obtain⟨⟨dq,osq⟩,U⟩:=a2;subst U;have xr:=Ext.nX w3 dq osq;have a6:=ah (i.out.trans xr);have a5:=ah (a.out.ext xr);replace Z:=Z.ext xr;replace q:=q dq osq;replace j:=j dq osq;clear a8 a7 H z xr i a Y X u f;generalize grow (iY w3 dq) osq=w4 at*;obtain⟨n0,n1,n2,n3,n4,n5,n6⟩:=Z.cells;simp only[bH] at n0 n1 n2 n3 n4 n5 n6;clear Z
     go_wp2_with(at_builtin;go_loud (refine qj (w0:=W) rfl (.tmp 44) (.tmp 46) rfl _ N1 rfl (a5.out.ext ((Ext.refl _).alloc _)) (a6.out.alloc _) _ 1 1 [bare (irt x) (0,0)] rfl rfl (ItS.new _ (bare (irt x) (0,0))) (by simp only[aH,aR];omega) ?_;intro v5 w5 o5 x5 g5 b5))
     go_ret;exact⟨_,rfl,o5,x5⟩
    |some c=>
     rw[show hgV ad (some c)=Vp (ad c) from rfl] at u;subst hN;generalize ad c=pc at*;refine aL κ κ ?_
     repeat go_big_quiet_step((first|with_reducible exact Calls.oh (Y.out _ (i.out.trans (Ext.nX _ _ _)))|with_reducible exact Calls.oh (X.out _ (i.out.trans (Ext.nX _ _ _)))|with_reducible exact Calls.wZ (u.out _ (i.out.trans (Ext.nX _ _ _)))))
     refine bQ ?_;intro _ a2;obtain⟨⟨dq,osq⟩,U⟩:=a2;subst U;have xr:=Ext.nX w3 dq osq;have a6:=ah (i.out.trans xr);have a5:=ah (a.out.ext xr);replace Z:=Z.ext xr;replace q:=q dq osq;replace j:=j dq osq;clear a8 a7 H z xr i a Y X u f;generalize grow (iY w3 dq) osq=w4 at*;have f2:=Z.qF 2;have f3:=Z.qF 3;obtain⟨n0,n1,n2,n3,n4,n5,n6⟩:=Z.cells;simp only[bH] at n0 n1 n2 n3 n4 n5 n6;clear Z;have b6:=ah (a5.out.kept (show w4.grownBy ((w4.setCell ⟨N,2,none⟩ (Vu x.lc)).setCell ⟨N,3,none⟩ (Vu x.lk)) (some N) from((RX.refl N w4).set 2 _ (.inr rfl)).set 3 _ (.inr rfl)) (.inr b4));have b7:=ah (show ItS (((w4.setCell ⟨N,2,none⟩ (Vu x.lc)).setCell ⟨N,3,none⟩ (Vu x.lk)).alloc (.cells #[Vu x.rc,Vu x.rk,Vu x.lc,Vu x.lk,Vu 0,Vu 0,.int .i32 0] 57)) (some ⟨w4.heap.size,0,none⟩) [bare (irt x) (ilf x)] from by
        have h5:=ItS.new ((w4.setCell ⟨N,2,none⟩ (Vu x.lc)).setCell ⟨N,3,none⟩ (Vu x.lk)) (bare (irt x) (ilf x));rwa[show((w4.setCell ⟨N,2,none⟩ (Vu x.lc)).setCell ⟨N,3,none⟩ (Vu x.lk)).heap.size=w4.heap.size by simp[World.setCell]] at h5)
     have b8:=ah ((a6.out.setCell (p:=⟨N,2,none⟩) a9 (Vu x.lc)).setCell (p:=⟨N,3,none⟩) a9 (Vu x.lk))
     go_wp2_with(at_builtin;go_loud (refine qj (w0:=W) rfl (.tmp 44) (.tmp 46) rfl _ N1 rfl (b6.out.ext ((Ext.refl _).alloc _)) (b8.out.alloc _) _ 1 1 [bare (irt x) (ilf x)] rfl rfl b7.out (by simp only[aH,aR];omega) ?_;intro v5 w5 o5 x5 g5 b5))
     go_ret;exact⟨_,rfl,o5,x5⟩
end
section
open Go.ChangeShapes Go.WideShapes Go.ChangeAt Go.RowKit Go.Sort
attribute [local go_sem] au calm oK oG
section
variable {F:Nat->Prop} {G:List I2} {L:List It} {W:aj} {a:I2} {ad:I2->Nat} {t:HT} {x:It} {y:Lv}
theorem Rj (q:pQ L x=true):RtL L (hgP L x).on:=by
 obtain⟨_,_,j,i⟩:=oD q;by_cases f:x.rc=0
 ·rw[BR f]
  by_cases e:x.lc=0
  ·rw[if_pos e];exact .inl rfl
  ·rw[if_neg e];exact .inr (j.resolve_left e)
 ·by_cases e:x.lc=0
  ·rw[OT f e];exact .inr (i.resolve_left f)
  ·rw[Gt f e]
   split
   ·exact .inr (i.resolve_left f)
   ·exact .inr (j.resolve_left e)
theorem ac9 (a:I2):ltI a a=false:=by
 cases h:ltI a a with
 |false=>rfl
 |true=>have:=rP h;rw[h] at this;cases this
theorem abK (a b c d:Int):(rE a b c d= -1/\ltI (c,d) (a,b)=false)\/(rE a b c d=0/\ltI (c,d) (a,b)=false)\/(rE a b c d=1/\ltI (c,d) (a,b)=true):=by
 rcases aeb a b c d with⟨h1,h2⟩|⟨h1,rfl,rfl⟩|⟨h1,h2⟩
 ·exact .inl ⟨h1,rP h2⟩
 ·exact .inr (.inl ⟨h1,ac9 _⟩)
 ·exact .inr (.inr ⟨h1,h2⟩)
def rtA (r:Option I2) (b:I2):Bool:=match r with
 |none=>true
 |some c=>ltI b c
def lfA (r:Option I2) (b:I2):Bool:=match r with
 |none=>false
 |some c=>ltI b c
theorem GD {p:Prop} (h:p:=by
 clear hcm ho
 go_wp2_with fail
 refine aL κ κ ?_
 repeat go_big_quiet_step((with_reducible exact Calls.oh (hcc.out _)))
 refine bQ ?_;intro _ hw';obtain⟨⟨dq,osq⟩,hw''⟩:=hw';subst hw'';have xE:=ah (xr.out.trans (Ext.nX w1 dq osq));go_wp2;go_ret;exact⟨hres.out,xE.out⟩):p:=h
theorem abZ {p:Prop} (h:p:=by
 obtain rfl:vK=V:=hV.out;clear hV hRi hL
 go_wp2_with fail
 refine aL κ κ ?_
 repeat go_big_quiet_step((fail))
 refine bQ ?_;intro _ hw';obtain⟨⟨dq,osq⟩,hw''⟩:=hw';subst hw'';have xE:=ah (xr.out.trans (Ext.nX w1 dq osq));go_wp2;go_ret;exact⟨rfl,xE.out⟩):p:=h
theorem Ti (h:LC F W y L G t ad) (hl:L.length<=360000) (x:It) (bx bf bn nn:Nat) (on:I2) (d:Int) (vf:aI) (r:Bool) (N:BxL W bx y) (z k:Nat) (H:W.cell? ⟨bf,0,none⟩=some (Vi (z:Int))) (j:W.cell? ⟨bn,0,none⟩=some (Vp nn))
  (Z:NC W nn x (vAd ad on) r d vf) (K:RtL L on) {a:I2} (O:(qL L)[z+k]? =some a):
  aX Tryz.prog 226 (#[Vi (k:Int)]++ #[.pointer (some ⟨bx,0,none⟩),.pointer (some ⟨bf,0,none⟩),.pointer (some ⟨bn,0,none⟩)]) W λe w'=>e= .returned (.bool (rtA (su L a on) (iid x)))/\Ext W w':=by
 have a3:z+k<=360000:=by have:=qC O;rw[wD h.nd.kn] at this;omega
 have i:=ah (λw' (Y:Ext W w')=>(h.ext Y).nodeAt ω O);have f:=ah (λw' (Y:Ext W w')=>D6 w' (h.ext Y).nd (tT h.nd.kn O) K ω);obtain⟨R,I⟩:∃R,su L a on=R:=⟨_,rfl⟩;have hRi:∀c,R=some c->nZ L c=true:=λc e=>by
  rcases IB L a on with⟨s,c',r,e1,e2⟩|⟨_,e2⟩
  ·rw[e2] at I
   rw[<-I] at e;injection e with e;subst e;exact(wC h.nd.kn (tT h.nd.kn O) e1).1
  ·rw[e2] at I
   rw[<-I] at e;cases e
 rw[I] at f⊢;replace hRi:=ah hRi;replace h:=ah h;obtain⟨a0,Q⟩:=vw ad on;rw[Q] at Z f;clear I Q K O;obtain⟨V,hV⟩:∃V,hgV ad R=V:=⟨_,rfl⟩;rw[hV] at f;replace hV:=ah hV;obtain⟨pa,J⟩:∃pa,ad a=pa:=⟨_,rfl⟩;rw[J] at i f;clear J;rw[show((z+k:Nat):Int)=(z:Int)+(k:Int) by omega] at i;have X:dO.wrap ((z:Int)+(k:Int))=(z:Int)+(k:Int):=cO _ ω;have a4:(z:Int)<=360000:=ω
 have a2:(k:Int)<=360000:=ω
 obtain⟨c0,c1,_,_,_,_,_,c7,_,_,_⟩:=Z.cells;obtain⟨b0,b1,b2,b3,b4,b5,b6,b7,b8⟩:=N.cells;have xd:Ext W W:=Ext.refl W;show aX Tryz.prog _ #[Vi (k:Int),.pointer (some ⟨bx,0,none⟩),.pointer (some ⟨bf,0,none⟩),.pointer (some ⟨bn,0,none⟩)] W _;have u:=c0;have q:=c1;have U:=j;clear Z N X;replace H:=av H;replace j:=av j;replace c7:=av c7;replace b0:=av b0;replace b1:=av b1;replace b2:=av b2;replace b3:=av b3;replace b4:=av b4;replace b5:=av b5;replace b6:=av b6;replace b7:=av b7;replace b8:=av b8;clear c0 c1;go_enter Tryz.func226,Tryz.ntmps226
 go_wp2_with fail
 refine aL κ κ ?_
 repeat go_big_quiet_step((first|with_reducible exact Calls.oh (i.out _ (Ext.nX _ _ _))|with_reducible exact Calls.wZ (f.out _ (Ext.nX _ _ _))))
 refine bQ ?_;intro _ hw';obtain⟨⟨dq,osq⟩,hw''⟩:=hw';subst hw'';have xr:=Ext.nX W dq osq;replace u:=xr.keep u;replace q:=xr.keep q;replace U:=xr.keep U;have hL:=ah (h.out.ext xr);clear b0 b1 b2 b3 b4 b5 b6 b7 b8 H j c7 i f xd;replace xr:=ah xr;generalize grow (iY W dq) osq=w1 at*;cases R with
 |none=>
  exact abZ
 |some c=>
  obtain⟨c1,c2⟩:=c;obtain⟨x2,a1,O6,r2,q2,Uf,_,_,_,_,_,M⟩:=hL.out.nd.get (hRi.out _ rfl);obtain⟨d0,d1,_,_,_,_,_,_,_,_,_⟩:=M.cells;rw[show x2.c=c1 from congrArg mg Uf] at d0;rw[show x2.k=c2 from congrArg nu Uf] at d1;obtain rfl:Vp (ad (c1,c2))=V:=hV.out;generalize ad (c1,c2)=pc at*;replace d0:=av d0;replace d1:=av d1;replace u:=av u;replace q:=av q;replace U:=av U;clear hV hRi hL M Uf;rcases abK c1 c2 x.c x.k with⟨hcm,ho⟩|⟨hcm,ho⟩|⟨hcm,ho⟩
  ·have hcc:=ah (λw'=>vG hcm w')
   have hres:=ah (show dz (.bool false)=dz (.bool (rtA (some (c1,c2)) (iid x))) from by rw[show rtA (some (c1,c2)) (iid x)=ltI (x.c,x.k) (c1,c2) from rfl,ho]);exact GD
  ·have hcc:=ah (λw'=>vG hcm w')
   have hres:=ah (show dz (.bool false)=dz (.bool (rtA (some (c1,c2)) (iid x))) from by rw[show rtA (some (c1,c2)) (iid x)=ltI (x.c,x.k) (c1,c2) from rfl,ho]);exact GD
  ·have hcc:=ah (λw'=>vG hcm w')
   have hres:=ah (show dz (.bool true)=dz (.bool (rtA (some (c1,c2)) (iid x))) from by rw[show rtA (some (c1,c2)) (iid x)=ltI (x.c,x.k) (c1,c2) from rfl,ho]);exact GD
theorem XG (h:LC F W y L G t ad) (hl:L.length<=360000) (x:It) (Y Z nn:Nat) (on:I2) (d:Int) (vf:aI) (r:Bool) (K:BxL W Y y) (k:Nat) (i:W.cell? ⟨Z,0,none⟩=some (Vp nn))
  (U:NC W nn x (vAd ad on) r d vf) (I:RtL L on) {a:I2} (M:(qL L)[k]? =some a):
  aX Tryz.prog 228 (#[Vi (k:Int)]++ #[.pointer (some ⟨Y,0,none⟩),.pointer (some ⟨Z,0,none⟩)]) W λe w'=>e= .returned (.bool (lfA (su L a on) (iid x)))/\Ext W w':=by
 have a3:k<=360000:=by have:=qC M;rw[wD h.nd.kn] at this;omega
 have u:=ah (λw' (Q:Ext W w')=>(h.ext Q).nodeAt ω M);have f:=ah (λw' (Q:Ext W w')=>D6 w' (h.ext Q).nd (tT h.nd.kn M) I ω);obtain⟨R,z⟩:∃R,su L a on=R:=⟨_,rfl⟩;have hRi:∀c,R=some c->nZ L c=true:=λc e=>by
  rcases IB L a on with⟨s,c',r,e1,e2⟩|⟨_,e2⟩
  ·rw[e2] at z
   rw[<-z] at e;injection e with e;subst e;exact(wC h.nd.kn (tT h.nd.kn M) e1).1
  ·rw[e2] at z
   rw[<-z] at e;cases e
 rw[z] at f⊢;replace hRi:=ah hRi;replace h:=ah h;obtain⟨a0,N⟩:=vw ad on;rw[N] at U f;clear z N I M;obtain⟨V,hV⟩:∃V,hgV ad R=V:=⟨_,rfl⟩;rw[hV] at f;replace hV:=ah hV;obtain⟨pa,H⟩:∃pa,ad a=pa:=⟨_,rfl⟩;rw[H] at u f;clear H;have a2:(k:Int)<=360000:=ω
 obtain⟨c0,c1,_,_,_,_,_,c7,_,_,_⟩:=U.cells;obtain⟨b0,b1,b2,b3,b4,b5,b6,b7,b8⟩:=K.cells;have xd:Ext W W:=Ext.refl W;show aX Tryz.prog _ #[Vi (k:Int),.pointer (some ⟨Y,0,none⟩),.pointer (some ⟨Z,0,none⟩)] W _;have q:=c0;have j:=c1;have O:=i;clear U K;replace i:=av i;replace c7:=av c7;replace b0:=av b0;replace b1:=av b1;replace b2:=av b2;replace b3:=av b3;replace b4:=av b4;replace b5:=av b5;replace b6:=av b6;replace b7:=av b7;replace b8:=av b8;clear c0 c1;go_enter Tryz.func228,Tryz.ntmps228
 go_wp2_with fail
 refine aL κ κ ?_
 repeat go_big_quiet_step((first|with_reducible exact Calls.oh (u.out _ (Ext.nX _ _ _))|with_reducible exact Calls.wZ (f.out _ (Ext.nX _ _ _))))
 refine bQ ?_;intro _ hw';obtain⟨⟨dq,osq⟩,hw''⟩:=hw';subst hw'';have xr:=Ext.nX W dq osq;replace q:=xr.keep q;replace j:=xr.keep j;replace O:=xr.keep O;have hL:=ah (h.out.ext xr);clear b0 b1 b2 b3 b4 b5 b6 b7 b8 i c7 u f xd;replace xr:=ah xr;generalize grow (iY W dq) osq=w1 at*;cases R with
 |none=>
  exact abZ
 |some c=>
  obtain⟨c1,c2⟩:=c;obtain⟨x2,a1,O6,r2,q2,Uf,_,_,_,_,_,J⟩:=hL.out.nd.get (hRi.out _ rfl);obtain⟨d0,X,_,_,_,_,_,_,_,_,_⟩:=J.cells;rw[show x2.c=c1 from congrArg mg Uf] at d0;rw[show x2.k=c2 from congrArg nu Uf] at X;obtain rfl:Vp (ad (c1,c2))=V:=hV.out;generalize ad (c1,c2)=pc at*;replace d0:=av d0;replace X:=av X;replace q:=av q;replace j:=av j;replace O:=av O;clear hV hRi hL J Uf;rcases abK c1 c2 x.c x.k with⟨hcm,ho⟩|⟨hcm,ho⟩|⟨hcm,ho⟩
  ·have hcc:=ah (λw'=>vG hcm w')
   have hres:=ah (show dz (.bool false)=dz (.bool (lfA (some (c1,c2)) (iid x))) from by rw[show lfA (some (c1,c2)) (iid x)=ltI (x.c,x.k) (c1,c2) from rfl,ho]);exact GD
  ·have hcc:=ah (λw'=>vG hcm w')
   have hres:=ah (show dz (.bool false)=dz (.bool (lfA (some (c1,c2)) (iid x))) from by rw[show lfA (some (c1,c2)) (iid x)=ltI (x.c,x.k) (c1,c2) from rfl,ho]);exact GD
  ·have hcc:=ah (λw'=>vG hcm w')
   have hres:=ah (show dz (.bool true)=dz (.bool (lfA (some (c1,c2)) (iid x))) from by rw[show lfA (some (c1,c2)) (iid x)=ltI (x.c,x.k) (c1,c2) from rfl,ho]);exact GD
theorem Af {l:List It} (h:og l=true) (e:pQ l x=true) (f:(hgP l x).right=false) (j:nZ l a=true) (i:ltP (pth l a) (pth l (hgP l x).on)=true):lfA (su l a (hgP l x).on) (iid x)=ltP (xL l x) (pth l a):=by
 rw[<-XE h e f j i];unfold lfA;cases su l a (hgP l x).on <;> rfl
theorem yG {l:List It} (h:og l=true) (e:pQ l x=true) (f:(hgP l x).right=true) (j:nZ l a=true) (i:(hgP l x).on=(0,0)\/ltP (pth l (hgP l x).on) (pth l a)=true):rtA (su l a (hgP l x).on) (iid x)=ltP (xL l x) (pth l a):=by
 rw[<-Td h e f j i];unfold rtA;cases su l a (hgP l x).on <;> rfl
def lfP (L:List It) (on:I2) (x:It) (j:Nat):Bool:=match (qL L)[j]? with
 |none=>false
 |some a=>lfA (su L a on) (iid x)
theorem JQ {on:I2} {j:Nat} (h:(qL L)[j]? =some a):lfP L on x j=lfA (su L a on) (iid x):=by unfold lfP;rw[h]
def rtP (L:List It) (on:I2) (x:It) (j:Nat):Bool:=match (qL L)[j]? with
 |none=>false
 |some a=>rtA (su L a on) (iid x)
theorem Jh {on:I2} {j:Nat} (h:(qL L)[j]? =some a):rtP L on x j=rtA (su L a on) (iid x):=by unfold rtP;rw[h]
def PlS (L:List It) (x:It) (W:aj) (e:Ending) (w':aj):Prop:=∃p:Nat,e= .returned (Vi (p:Int))/\AU L x p/\Ext W w'
theorem LC.aiM (h:LC F W y L G t ad) (i:L.length<=360000) {n:Nat} (f:L.length=n):aX Tryz.prog 225 #[ixv (xl y)] W λe w'=>e= .returned (Vi (n:Int))/\Ext W w':=by
 rw[<-f,<-h.len];exact afE W _ _ h.ix (by rw[h.len];omega)
theorem LC.ae0 (h:LC F W y L G t ad) (i:L.length<=360000) {c k:Int} {q:Nat} (f:pI (oQ L G) c k=some q):aX Tryz.prog 178 #[ixv (xl y),idv c k] W λe w'=>e= .returned (.tuple #[Vi (q:Int),.bool true])/\Ext W w':=by
 have:=IC W _ _ c k h.ix (by rw[h.len];omega);rwa[(M6 f).1,(M6 f).2] at this
theorem LC.XF (h:LC F W y L G t ad) (hl:L.length<=360000) (x:It) (Y:pQ L x=true) (Z:(hgP L x).right=false) (K:Nat) (d:Int) (vf:aI) (r:Bool) (hc:NC W K x (vAd ad (hgP L x).on) r d vf) (z:nZ L (hgP L x).on=true):
  aX Tryz.prog 186 #[lsv y,Vp K] W (PlS L x W):=by
 obtain⟨on,J⟩:∃on,(hgP L x).on=on:=⟨_,rfl⟩;obtain⟨o1,Q⟩:=on;rw[J] at hc z;obtain⟨q,hq⟩:=BZ (show ET (oQ L G) o1 Q=true by rw[xk h.nd.kn];exact z);have f:=RN G hq;have b9:q<360000:=by have:=qC f;rw[wD h.nd.kn] at this;omega
 obtain⟨xo,_,_,_,_,U,_,_,_,_,_,a5⟩:=h.nd.get z;have x0:Ext W ((W.alloc (qx y)).alloc (.cells #[Vp K] 189)):=((Ext.refl W).alloc _).alloc _;have bl:=(BxL.new W y).ext ((Ext.refl _).alloc (.cells #[Vp K] 189));have H:((W.alloc (qx y)).alloc (.cells #[Vp K] 189)).cell? ⟨W.heap.size+1,0,none⟩=some (Vp K):=σ
 have hs:=ah (λO (X:Ext W O) (b1:BxL O W.heap.size y) (b2:O.cell? ⟨W.heap.size+1,0,none⟩=some (Vp K))=>GY O 228 #[.pointer (some ⟨W.heap.size,0,none⟩),.pointer (some ⟨W.heap.size+1,0,none⟩)] q (lfP L (o1,Q) x) (λargs w=>σ) ω
  (λw2 M j hj=>by
   obtain⟨a,u⟩:∃a,(qL L)[j]? =some a:=⟨_,aO (by have:=qC f;omega)⟩;rw[JQ u];exact XG (h.ext (X.trans M)) hl x W.heap.size (W.heap.size+1) K (o1,Q) d vf r (b1.ext M) j (M.keep b2) (hc.ext (X.trans M)) (.inr z) u)
  (λi j a7 hj hi=>by
   obtain⟨a,u⟩:∃a,(qL L)[i]? =some a:=⟨_,aO (by have:=qC f;omega)⟩;obtain⟨b,hb⟩:∃b,(qL L)[j]? =some b:=⟨_,aO (by have:=qC f;omega)⟩;rw[JQ u] at hi;rw[JQ hb];have a9:=BD h.nd.kn u f ω;have a8:=BD h.nd.kn hb f ω;have e1:=Af h.nd.kn Y Z (tT h.nd.kn u) (by rw[J];exact a9);have e2:=Af h.nd.kn Y Z (tT h.nd.kn hb) (by rw[J];exact a8);rw[J] at e1 e2;rw[e1] at hi;rw[e2];exact L6 h.nd.kn x u hb a7 hi))
 have N:=ah (show∀k:Nat,(k<=q/\(∀t,t<k->lfP L (o1,Q) x t=false)/\(∀t,k<=t->t<q->lfP L (o1,Q) x t=true))->AU L x k from by
  rintro k ⟨h1,h2,h3⟩;refine TS h.nd.kn Y Z (q:=q) h1 (by rw[J];exact f) (λj a hj u=>?_) (λj a hj a3 u=>?_)
  ·have e1:=Af h.nd.kn Y Z (tT h.nd.kn u) (by rw[J];exact BD h.nd.kn u f ω)
   rw[<-e1,J,<-JQ u];exact h2 j hj
  ·have e1:=Af h.nd.kn Y Z (tT h.nd.kn u) (by rw[J];exact BD h.nd.kn u f a3)
   rw[<-e1,J,<-JQ u];exact h3 j hj a3)
 have a4:=ah (λw' (hw:Ext W w')=>(h.ext hw).ae0 hl hq);rw[uM h.nd.kn z] at hc;obtain⟨_,_,_,_,_,_,_,c7,_,_,_⟩:=hc.cells;obtain⟨d0,d1,_,_,_,_,_,_,_,_,_⟩:=a5.cells;rw[show xo.c=o1 from congrArg mg U] at d0;rw[show xo.k=Q from congrArg nu U] at d1;generalize ad (o1,Q)=po at*;replace c7:=x0.keep c7;replace d0:=x0.keep d0;replace d1:=x0.keep d1;obtain⟨b0,b1,b2,b3,b4,b5,b6,b7,b8⟩:=bl.cells;clear hc a5 U f z h Y Z hq;replace UU:=ah H;go_enter Tryz.func186,Tryz.ntmps186
 go_wp2_with fail
 generalize(W.alloc (qx y)).alloc (.cells #[Vp K] 189)=O at*;obtain⟨pb,a2⟩:∃pb,W.heap.size=pb:=⟨_,rfl⟩;obtain⟨pn,a1⟩:∃pn,pb+1=pn:=⟨_,rfl⟩;rw[a2] at b0 b1 b2 b3 b4 b5 b6 b7 b8 bl hs H UU⊢;rw[a1] at H UU hs⊢;clear a1 a2;replace b0:=av b0;replace b1:=av b1;replace b2:=av b2;replace b3:=av b3;replace b4:=av b4;replace b5:=av b5;replace b6:=av b6;replace b7:=av b7;replace b8:=av b8;replace H:=av H;replace c7:=av c7;replace d0:=av d0;replace d1:=av d1;replace bl:=ah bl;refine aL κ κ ?_
 repeat go_big_quiet_step((with_reducible exact Calls.oh (a4.out _ (x0.trans (Ext.nX _ _ _)))))
 refine bQ ?_;intro _ a6;obtain⟨⟨dq,osq⟩,a0⟩:=a6;subst a0;have xr:=Ext.nX O dq osq;have X:=ah (x0.trans xr);have I:=ah (hs.out _ X.out (bl.out.ext xr) (xr.keep UU.out));clear b0 b1 b2 b3 b4 b5 b6 b7 b8 H c7 d0 d1 x0 hs a4 bl UU xr;generalize grow (iY O dq) osq=w2 at*
 go_wp2_with fail
 refine I.out.mono ?_;rintro e w3 ⟨k,rfl,hk,x3⟩;have hP:=ah (N.out k hk);replace X:=ah (X.out.trans x3);clear hk N x3 I;go_wp2;go_ret;exact⟨k,rfl,hP.out,X.out⟩
theorem LC.Qr (h:LC F W y L G t ad) (hl:L.length<=360000) (x:It) (K:pQ L x=true) (Q:(hgP L x).right=true) (nn:Nat) (d:Int) (vf:aI) (r:Bool) (hc:NC W nn x (vAd ad (hgP L x).on) r d vf)
  (z Z bf bn:Nat) (X:((hgP L x).on=(0,0)/\z=0)\/(∃q,z=q+1/\(qL L)[q]? =some (hgP L x).on)) (J:aj) (hE:Ext W J) (b1:BxL J Z y) (b2:J.cell? ⟨bf,0,none⟩=some (Vi (z:Int))) (b3:J.cell? ⟨bn,0,none⟩=some (Vp nn)) {N:Nat} (hN:N=L.length-z):
  aX Tryz.prog 224 #[Vi (N:Int),.func (.func 226) #[] #[.pointer (some ⟨Z,0,none⟩),.pointer (some ⟨bf,0,none⟩),.pointer (some ⟨bn,0,none⟩)]] J λe w'=>(∃k:Nat,e= .returned (Vi (k:Int))/\(k<=360000/\AU L x (z+k)))/\Ext J w':=by
 subst hN;have O:=Rj K;obtain⟨on,I⟩:∃on,(hgP L x).on=on:=⟨_,rfl⟩;rw[I] at hc X O;have a1:=wD h.nd.kn;have a3:z<=L.length:=by
  rcases X with⟨_,e⟩|⟨q,e,hq⟩
  ·omega
  ·have:=qC hq;omega
 have u:∀j a,(qL L)[z+j]? =some a->on=(0,0)\/ltP (pth L on) (pth L a)=true:=by
  intro j a f;rcases X with⟨e,_⟩|⟨q,e,hq⟩
  ·exact .inl e
  ·exact .inr (BD h.nd.kn hq f ω)
 refine(GY J 226 #[.pointer (some ⟨Z,0,none⟩),.pointer (some ⟨bf,0,none⟩),.pointer (some ⟨bn,0,none⟩)] (L.length-z) (λj=>rtP L on x (z+j)) (λargs w=>σ) ω
  (λw2 H j U=>by
   obtain⟨a,f⟩:∃a,(qL L)[z+j]? =some a:=⟨_,aO ω⟩;simp only[Jh f];exact Ti (h.ext (hE.trans H)) hl x Z bf bn nn on d vf r (b1.ext H) z j (H.keep b2) (H.keep b3) (hc.ext (hE.trans H)) O f)
  (λi j a2 U hi=>by
   obtain⟨a,f⟩:∃a,(qL L)[z+i]? =some a:=⟨_,aO ω⟩;obtain⟨b,Y⟩:∃b,(qL L)[z+j]? =some b:=⟨_,aO ω⟩;simp only[Jh f] at hi;simp only[Jh Y];have M:=yG h.nd.kn K Q (tT h.nd.kn f) (by rw[I];exact u _ _ f);have e2:=yG h.nd.kn K Q (tT h.nd.kn Y) (by rw[I];exact u _ _ Y);rw[I] at M e2;rw[M] at hi;rw[e2];exact L6 h.nd.kn x f Y ω hi)).mono ?_
 rintro e w' ⟨k,rfl,⟨h1,h2,h3⟩,a0⟩;refine⟨⟨k,rfl,ω,?_⟩,a0⟩;refine Qq h.nd.kn K Q ω (by rw[I];exact X) (λj a U f=>?_) (λj a U f=>?_)
 ·have M:=yG h.nd.kn K Q (tT h.nd.kn f) (by rw[I];exact u _ _ f)
  rw[<-M,I,<-Jh f];exact h2 j U
 ·have M:=yG h.nd.kn K Q (tT h.nd.kn f) (by rw[I];exact u _ _ f)
  rw[<-M,I,<-Jh f];exact h3 j U (by have:=qC f;omega)
theorem LC.Tf (h:LC F W y L G t ad) (hl:L.length<=360000) (x:It) (hx:pQ L x=true) (hr:(hgP L x).right=true) (J:Nat) (d:Int) (vf:aI) (r:Bool) (hc:NC W J x (vAd ad (hgP L x).on) r d vf):
  aX Tryz.prog 185 #[lsv y,Vp J] W (PlS L x W):=by
 have a7:=Rj hx;obtain⟨on,yX⟩:∃on,(hgP L x).on=on:=⟨_,rfl⟩;obtain⟨o1,j⟩:=on;have hs:=ah (λf bx bf bn hf w1 hE b1 b2 b3 N hN=>h.Qr hl x hx hr J d vf r hc f bx bf bn hf w1 hE b1 b2 b3 (N:=N) hN);have d7:=ah (wD h.nd.kn);have a5:=ah (λw' (hw:Ext W w')=>(h.ext hw).aiM hl rfl);rw[yX] at hc a7 hs;have x0:Ext W (((W.alloc (qx y)).alloc (.cells #[Vp J] 189)).alloc (.cells #[Vi 0] 3)):=(((Ext.refl W).alloc _).alloc _).alloc _;have bl:=((BxL.new W y).ext ((Ext.refl _).alloc (.cells #[Vp J] 189))).ext ((Ext.refl _).alloc (.cells #[Vi 0] 3));have i:(((W.alloc (qx y)).alloc (.cells #[Vp J] 189)).alloc (.cells #[Vi 0] 3)).cell? ⟨W.heap.size+1,0,none⟩=some (Vp J):=σ
 have H:(((W.alloc (qx y)).alloc (.cells #[Vp J] 189)).alloc (.cells #[Vi 0] 3)).cell? ⟨W.heap.size+1+1,0,none⟩=some (Vi 0):=σ
 have X:(((W.alloc (qx y)).alloc (.cells #[Vp J] 189)).alloc (.cells #[Vi 0] 3)).frozen? ⟨W.heap.size+1+1,0,none⟩=false:=σ
 obtain⟨po,u⟩:=vw ad (o1,j);have z:=hc.cells.c7;replace z:=x0.keep z;have a1:=ah (λ(U:nZ L (o1,j)=true)=>by
  obtain⟨q,hq⟩:=BZ (show ET (oQ L G) o1 j=true by rw[xk h.nd.kn];exact U);have Q:=RN G hq;obtain⟨xo,_,_,_,_,d8,_,_,_,_,_,f1⟩:=h.nd.get U;obtain⟨d0,d1,_,_,_,_,_,_,_,_,_⟩:=f1.cells;rw[show xo.c=o1 from congrArg mg d8] at d0;rw[show xo.k=j from congrArg nu d8] at d1;exact(⟨q,Q,λw' (hw:Ext W w')=>(h.ext hw).ae0 hl hq,d0,d1,uM h.nd.kn U⟩:∃q:Nat,(qL L)[q]? =some (o1,j)/\(∀w',Ext W w'->aX Tryz.prog 178 #[ixv (xl y),idv o1 j] w' λe w2=>e= .returned (.tuple #[Vi (q:Int),.bool true])/\Ext w' w2)/\W.cell? ⟨ad (o1,j),0,none⟩=some (Vu o1)/\W.cell? ⟨ad (o1,j),1,none⟩=some (Vu j)/\vAd ad (o1,j)=Vp (ad (o1,j))))
 have f2:∃b:Bool,(∀W,(binOp .neq 189 (.pointer po) (.pointer none)).run Tryz.prog W= .ok (.bool b) W)/\((b=false/\(o1,j)=((0,0):I2))\/(b=true/\nZ L (o1,j)=true)):=by
  rcases a7 with e|e
  ·refine⟨false,λW=>?_,.inl ⟨rfl,e⟩⟩
   rw[e,xG] at u;rw[<-u];exact ED W
  ·refine⟨true,λW=>?_,.inr ⟨rfl,e⟩⟩
   rw[uM h.nd.kn e] at u;rw[<-u];exact G6 _ W
 obtain⟨b,a4,hb⟩:=f2;have e9:W.heap.size<=W.heap.size+1+1:=ω
 have O:W.heap.size≠W.heap.size+1+1:=ω
 have M:W.heap.size+1≠W.heap.size+1+1:=ω
 have a0:W.heap.size+1+1+1=(((W.alloc (qx y)).alloc (.cells #[Vp J] 189)).alloc (.cells #[Vi 0] 3)).heap.size:=ι
 rw[u] at z;have f6:=ah u;have d6:=(hc.cells.c7);have Z:=World.block_lt_of_cell? _ _ d6;simp only at Z;clear h hc hx hr a7 u d6;go_enter Tryz.func185,Tryz.ntmps185
 go_upto_if 12 with fail
 generalize((W.alloc (qx y)).alloc (.cells #[Vp J] 189)).alloc (.cells #[Vi 0] 3)=w1 at*;obtain⟨pb,d5⟩:∃pb,W.heap.size=pb:=⟨_,rfl⟩;obtain⟨pn,d3⟩:∃pn,pb+1=pn:=⟨_,rfl⟩;obtain⟨I,d4⟩:∃I,pn+1=I:=⟨_,rfl⟩;have f5:=ah (show W.heap.size<=I by omega);rw[d5] at bl i H X O M a0 Z⊢;rw[d3] at i H X O M a0⊢;rw[d4] at H X O M a0⊢;have g0:J≠I:=ω
 clear e9 d5 d3 d4 a0 Z;replace bl:=ah bl;replace hs:=ah (λf=>hs.out f pb I pn)
 go_cut [6] (λs wx=>∃f:Nat,f<=360000/\Hid (((o1,j)=((0,0):I2)/\f=0)\/(∃q,f=q+1/\(qL L)[q]? =some (o1,j)))/\wx.cell? ⟨I,0,none⟩=some (Vi (f:Int))/\Hid (BxL wx pb y)/\wx.cell? ⟨pn,0,none⟩=some (Vp J)/\Hid (Ext W wx))
 case first=>
  rcases hb with⟨rfl,hroot⟩|⟨rfl,U⟩
  ·replace x0:=ah x0
   have f7:=ah hroot;clear hroot hs a1
   go_wp2_with fail
   go_meet;exact⟨0,ω,ah (.inl ⟨f7.out,rfl⟩),H,bl,i,x0⟩
  ·obtain⟨q,Q,a2,d0,d1,a3⟩:=a1.out U
   have f9:q<360000:=by have:=qC Q;have:=d7.out;omega
   rw[f6.out] at a3;injection a3 with a3;subst a3;replace d0:=x0.keep d0;replace d1:=x0.keep d1;obtain⟨b0,b1,b2,b3,b4,b5,b6,b7,b8⟩:=bl.out.cells;have UU:=ah i;have b9:=ah H;have e6:=ah X;replace Q:=ah Q;replace a2:=ah a2;clear hs a1 U a4 H X;generalize ad (o1,j)=pd at*;replace b0:=av b0;replace b1:=av b1;replace b2:=av b2;replace b3:=av b3;replace b4:=av b4;replace b5:=av b5;replace b6:=av b6;replace b7:=av b7;replace b8:=av b8;replace i:=av i;replace z:=av z;replace d0:=av d0;replace d1:=av d1
   go_wp2_with fail
   refine aL κ κ ?_
   repeat go_big_quiet_step((with_reducible exact Calls.oh (a2.out _ (x0.trans (Ext.nX _ _ _)))))
   refine bQ ?_;intro _ e8;obtain⟨⟨dq,osq⟩,d2⟩:=e8;subst d2;have xr:=Ext.nX w1 dq osq;have hE:=ah (x0.trans xr);have f4:=xr.keep b9.out;have g3:=xr.thaw b9.out e6.out;have e5:=bl.out.ext xr;have e0:=xr.keep UU.out;clear b0 b1 b2 b3 b4 b5 b6 b7 b8 i z d0 d1 x0 a2 bl UU b9 e6 xr;generalize grow (iY w1 dq) osq=w2 at*;have a6:RX I w2 (w2.setCell ⟨I,0,none⟩ (Vi ((q:Int)+1))):=(RX.refl I w2).set 0 _ (.inr rfl);have d9:=ah (show(w2.setCell ⟨I,0,none⟩ (Vi ((q:Int)+1))).cell? ⟨I,0,none⟩=some (Vi ((q+1:Nat):Int))/\BxL (w2.setCell ⟨I,0,none⟩ (Vi ((q:Int)+1))) pb y/\(w2.setCell ⟨I,0,none⟩ (Vi ((q:Int)+1))).cell? ⟨pn,0,none⟩=some (Vp J)/\Ext W (w2.setCell ⟨I,0,none⟩ (Vi ((q:Int)+1))) from
        ⟨by simp[go_sem,f4],a6.blk e5 O,a6.cell e0 M,hE.out.setCell f5.out _⟩)
   clear a6 e5 e0
   go_wp2_with fail
   go_meet;obtain⟨e1,e2,e3,e4⟩:=d9.out;exact⟨q+1,ω,ah (.inr ⟨q,rfl,Q.out⟩),e1,ah e2,e3,ah e4⟩
 case rest=>
  obtain⟨f,g2,hf,cf,bl,cn,hE⟩:=hcut;clear x0 i H X hb a4 z a1;have f0:f<=L.length:=by
   rcases hf.out with⟨_,e⟩|⟨q,e,hq⟩
   ·omega
   ·have:=qC hq;have:=d7.out;omega
  have a8:=ah (λw' (hw:Ext wc w')=>hs.out f hf.out w' (hE.out.trans hw) (bl.out.ext hw) (hw.keep cf) (hw.keep cn) (N:=L.length-f) rfl);have a9:=ah (λw' (hw:Ext wc w')=>a5.out w' (hE.out.trans hw));obtain⟨b0,b1,b2,b3,b4,b5,b6,b7,b8⟩:=bl.out.cells;have Y:dO.wrap ((L.length:Int)-(f:Int))=((L.length-f:Nat):Int):=by rw[cO _ ω];omega
  obtain⟨N,hN⟩:∃N,L.length-f=N:=⟨_,rfl⟩;obtain⟨n,hn⟩:∃n,L.length=n:=⟨_,rfl⟩;rw[hN] at a8 Y;rw[hn] at a9 Y;replace Y:=ah Y;clear hs a5 hN hn f0 bl
  go_wp2_with fail
  refine qX 8 [rwI 3 (Vi (n:Int)),rw1 7 λz9 W=>∃k:Nat,z9=Vi (k:Int)/\(k<=360000/\AU L x (f+k))] ⟨λ_ _ _ _ _ _=>trivial,by rintro _ _ _ _ ⟨k,h0,h1,h2⟩ e;exact⟨k,h0,h1,h2⟩,trivial⟩ λρ hI=>?_
  refine .s 3 (λW hx y=>oz) ?_;refine .kv hI 0 (Vi (n:Int)) a9.out ?_;refine .s 3 (λW hx y=>by
   have f8:=Y.out;exact oz) ?_
  refine .k 1 (R:=λz9 W=>∃k:Nat,z9=Vi (k:Int)/\(k<=360000/\AU L x (f+k))) (λW hx=>(a8.out W hx).mono (by rintro e W1 ⟨⟨k,rfl,h1⟩,h2⟩;exact⟨_,rfl,⟨k,rfl,h1⟩,h2⟩)) ?_;refine .fin λW hR ⟨_,h7,_⟩=>?_
  obtain⟨q7,e7,h7⟩:=h7;rw[show ρ 7=_ from e7];obtain⟨g1,hP⟩:=h7;replace hP:=ah hP;have f3:=ah (hE.out.trans hR);clear a8 a9 b0 b1 b2 b3 b4 b5 b6 b7 b8 cf cn;go_wp2;go_ret;exact⟨f+q7,ι,hP.out,f3.out⟩
end
def HgL (W:aj) (q:Nat) (a b:Int) (r:Bool):Prop:=W.heap[q]? =some (.cells #[Vu a,Vu b,.bool r] 134 (0,0))
theorem La (c:Int) {B:Bool} (a:okB c=B) (w:aj):aX Tryz.prog 153 #[.int .i32 c] w λe w'=>e= .returned (.bool B)/\Ext w w':=by
 subst a;go_enter Tryz.func153,Tryz.ntmps153;go_wp2
 all_goals go_ret
 all_goals refine⟨pR ?_,Ext.refl _⟩
 all_goals(rw[Bool.eq_iff_iff];simp[okB];try omega)
theorem LC.agj {F:Nat->Prop} {W:aj} {y:Lv} {L:List It} {G:List I2} {t:HT} {ad:I2->Nat} (h:LC F W y L G t ad) {o1 a:Int} (f:RtL L (o1,a)):
  aX Tryz.prog 91 #[.pointer y.p,idv o1 a] W λe w'=>e= .returned (vAd ad (o1,a))/\Ext W w':=by
 rcases f with e|e
 ·injection e with e1 e2
  subst e1;subst e2;exact h.Ut (pW h.nd.kn _)
 ·rw[uM h.nd.kn e]
  exact h.O5 e
theorem LC.newNode {F:Nat->Prop} {i:aj} {y:Lv} {L:List It} {G:List I2} {t:HT} {ad:I2->Nat} (h:LC F i y L G t ad) (hl:L.length<=360000) (x:It) (a0:pQ L x=true):
  aX Tryz.prog 154 #[itv x,.pointer y.p] i λe w'=>∃(q:Nat) (far:I2),e= .returned (Vp q)/\i.heap.size<=q/\NC w' q x (vAd ad (hgP L x).on) (hgP L x).right (((pth L (hgP L x).on).length+1:Nat):Int) (vAd ad far)/\(RtL L far/\∃r,pth L (hgP L x).on=pth L far++r)/\Ext i w':=by
 have M:=Rj a0;obtain⟨k1,k2,k3,k4⟩:=afy h.nd.kn a0;have Q:=ah (λW (A:Option Addr) (n c:Nat) (hv:ItS W A (nbs L x)) (hn:(nbs L x).length=n) (hc:n<=c)=>ZT A n c (nbs L x) x W hv k1 k2 hn hc ω);rw[k3] at Q;obtain⟨o,ho⟩:∃o,hgP L x=o:=⟨_,rfl⟩;obtain⟨⟨o1,u⟩,Y⟩:=o;rw[ho] at M Q⊢;simp only at M;show aX _ _ _ _ λe w'=>∃(q:Nat) (far:I2),e= .returned (Vp q)/\i.heap.size<=q/\NC w' q x (vAd ad (o1,u)) Y (((pth L (o1,u)).length+1:Nat):Int) (vAd ad far)/\(RtL L far/\∃r,pth L (o1,u)=pth L far++r)/\Ext i w'
 change Hid (∀W (A:Option Addr) (n c:Nat),ItS W A (nbs L x)->(nbs L x).length=n->n<=c->aX Tryz.prog 180 #[.slice A n c,itv x] W λe w'=>e= .returned (.agg #[.int .u32 o1,.int .u32 u,.bool Y])/\Ext W w') at Q;have a2:=ah (λW (j:Ext i W)=>(h.ext j).neighbours hl x a0);have U:=ah (λW (j:Ext i W)=>(h.ext j).agj M);have d6:=uj h.nd.kn (o1,u);obtain⟨O,a5⟩:∃O,(pth L (o1,u)).length=O:=⟨_,rfl⟩;have I:=ah (λW (j:Ext i W)=>Fb W (h.ext j).nd M O a5);have H:=ah (λW (j:Ext i W)=>abm W (h.ext j).nd M ω);have e0:O<=360000:=ω
 rw[a5];obtain⟨po,b8⟩:=vw ad (o1,u);rw[b8] at U I H⊢;clear h ho k1 k2 k3 k4 a0 d6 a5 M b8;have x0:Ext i (i.alloc (wS x)):=(Ext.refl i).alloc _;have bi:=pX.newL i x;have d4:(i.alloc (wS x)).heap.size=i.heap.size+1:=ι
 go_enter Tryz.func154,Tryz.ntmps154
 go_wp2_with fail
 obtain⟨W1,a6⟩:∃W1,i.alloc (wS x)=W1:=⟨_,rfl⟩;obtain⟨pb,a4⟩:∃pb,i.heap.size=pb:=⟨_,rfl⟩;change pX (i.alloc (wS x)) _ x at bi;rw[a6] at x0 bi d4;rw[a4] at bi⊢;show Code.wp _ _ _ _ (i.alloc (wS x));rw[a6];have d5:=ah a4;clear a6 a4;replace a2:=ah (λW (j:Ext W1 W)=>a2.out W (x0.trans j));replace U:=ah (λW (j:Ext W1 W)=>U.out W (x0.trans j));replace I:=ah (λW (j:Ext W1 W)=>I.out W (x0.trans j));replace H:=ah (λW (j:Ext W1 W)=>H.out W (x0.trans j));obtain⟨b0,b1,b2,b3,b4,b5,b6⟩:=bi.cells;simp only[bH] at b0 b1 b2 b3 b4 b5 b6;refine qX 6 [rw1 2 λq W=>oZ W1 W q (nbs L x),rwI 4 (.agg #[.int .u32 o1,.int .u32 u,.bool Y]),rw1 5 λz9 W=>∃q,z9= .pointer (some ⟨q,0,none⟩)/\(W1.heap.size<=q/\HgL W q 0 0 false)] ⟨λ_ _ _ _ h e=>oZ.ext h e,λ_ _ _ _ _ _=>trivial,by rintro _ _ _ _ ⟨q,h1,h2,h3⟩ e;exact⟨q,h1,h2,e.blk h3⟩,trivial⟩ λρ hI=>?_
 refine .s 2 (λW J y=>oz) ?_;refine .k 0 (R:=λq W=>oZ W1 W q (nbs L x)) (λW J=>(a2.out W J).mono (by rintro e W2 ⟨v,rfl,h1,h2⟩;exact⟨v,rfl,h1.down J,h2⟩)) ?_;refine .s 1 (λW J y=>oz) ?_;refine .v hI 1 [0] _ (λW J y f N hN=>?_) ?_
 ·obtain⟨o9,_⟩:=f
  obtain⟨A9,c9,e9,d8,d7⟩:=oZ.open o9;have e9:ρ 2=_:=e9
  go_simp
  exact(Q.out W A9 _ c9 d7 rfl d8).mono λe W2 h=>⟨_,h.1,hN _ h.2⟩
 refine .o 2 [] (λW J y _ N hN=>?_) ?_
 ·go_simp
  exact hN _ _ (λ_ e=>by cases e) ⟨_,rfl,J.size,aT W _⟩ ((Ext.refl W).alloc _)
 refine .fin λW hR ⟨_,_,h5,_⟩=>?_
 obtain⟨a,e5,h5⟩:=h5;rw[show ρ 5=_ from e5];obtain⟨a3,z⟩:=h5;have b7:pb≠a:=by have:=d5.out;omega
 have d1:=bi.ext hR;have w0:(W.setCell ⟨a,0,none⟩ (Vu o1)).heap[a]? =some (.cells #[Vu o1,Vu 0,.bool false] 134 (0,0)):=aB W a 0 _ _ _ z;have a8:((W.setCell ⟨a,0,none⟩ (Vu o1)).setCell ⟨a,1,none⟩ (Vu u)).heap[a]? =some (.cells #[Vu o1,Vu u,.bool false] 134 (0,0)):=aB _ a 1 _ _ _ w0;have Z:(((W.setCell ⟨a,0,none⟩ (Vu o1)).setCell ⟨a,1,none⟩ (Vu u)).setCell ⟨a,2,none⟩ (.bool Y)).heap[a]? =some (.cells #[Vu o1,Vu u,.bool Y] 134 (0,0)):=aB _ a 2 _ _ _ a8;have z0:=ak W a 0 _ _ _ z;have z1:=ak W a 1 _ _ _ z;have z2:=ak W a 2 _ _ _ z;have f0:=aK W a 0 _ _ z;have f1:=aK W a 1 _ _ z;have f2:=aK W a 2 _ _ z;have a9:RX a W (((W.setCell ⟨a,0,none⟩ (Vu o1)).setCell ⟨a,1,none⟩ (Vu u)).setCell ⟨a,2,none⟩ (.bool Y)):=(((RX.refl a W).set 0 _ (.inr rfl)).set 1 _ (.inr rfl)).set 2 _ (.inr rfl);have d2:=ah (a9.blk d1 b7);have a7:=ah (((hR.setCell (p:=⟨a,0,none⟩) a3 (Vu o1)).setCell (p:=⟨a,1,none⟩) a3 (Vu u)).setCell (p:=⟨a,2,none⟩) a3 (.bool Y));replace Z:=ah Z;clear a9 d1 w0 a8 z b7 a2 Q b0 b1 b2 b3 b4 b5 b6
 go_wp2_with fail
 generalize((W.setCell ⟨a,0,none⟩ (Vu o1)).setCell ⟨a,1,none⟩ (Vu u)).setCell ⟨a,2,none⟩ (.bool Y)=W2 at*;clear z0 z1 z2 f0 f1 f2;refine(U.out _ a7.out).mono ?_;rintro e W3 ⟨rfl,x3⟩;have X:=a7.out.trans x3;obtain⟨b0,b1,b2,b3,b4,b5,b6⟩:=(show pX W3 pb x from pX.ext (show pX W2 pb x from d2.out) x3).cells;simp only[bH] at b0 b1 b2 b3 b4 b5 b6;have cr:=x3.keep (ak W2 a 2 _ _ _ Z.out);replace I:=ah (λW (j:Ext W3 W)=>I.out W (X.trans j));replace H:=ah (λW (j:Ext W3 W)=>H.out W (X.trans j));replace X:=ah X;clear a7 d2 Z U x3 hR
 go_wp2_with fail
 refine qX 9 [rwI 5 (Vi (O:Int)),rw1 8 λz9 W=>∃f:I2,z9=vAd ad f/\(RtL L f/\∃r,pth L (o1,u)=pth L f++r)] ⟨λ_ _ _ _ _ _=>trivial,by rintro _ _ _ _ ⟨f,h0,h1,h2⟩ e;exact⟨f,h0,h1,h2⟩,trivial⟩ λρ hI=>?_
 refine .s 5 (λW J y=>oz) ?_;refine .kv hI 0 (Vi (O:Int)) (λW J=>(I.out W J).mono (by rintro e W2 ⟨rfl,rfl⟩;exact⟨rfl,Ext.refl _⟩)) ?_;refine .s 2 (λW J y=>by
  have d9:dO.wrap ((O:Int)+1)=(O:Int)+1:=cO _ ω;exact oz) ?_
 refine .k 1 (R:=λz9 W=>∃f:I2,z9=vAd ad f/\(RtL L f/\∃r,pth L (o1,u)=pth L f++r)) (λW J=>(H.out W J).mono (by rintro e W2 ⟨⟨f,r,h1,h2,rfl⟩,h3⟩;exact⟨_,rfl,⟨f,rfl,h1,r,h2⟩,h3⟩)) ?_;refine .fin λW hR ⟨_,h8,_⟩=>?_
 obtain⟨q8,e8,h8⟩:=h8;rw[show ρ 8=_ from e8];obtain⟨pf,a1⟩:=vw ad q8;rw[a1];have d3:=ah (x0.trans (X.out.trans hR));have b9:=ah (show NC (W.alloc (.cells #[Vu x.c,Vu x.k,Vu x.lc,Vu x.lk,Vu x.rc,Vu x.rk,.int .i32 x.ch,.pointer po,.bool Y,Vi ((O:Int)+1),.pointer pf] 192)) W.heap.size x (.pointer po) Y ((O+1:Nat):Int) (vAd ad q8) from by
  rw[a1,show((O+1:Nat):Int)=(O:Int)+1 by omega];exact aT W _)
 have Dm:=ah h8;replace a1:=ah a1;clear h8 hR b0 b1 b2 b3 b4 b5 b6 cr I H;go_wp2;go_ret;exact⟨_,q8,rfl,d3.out.size,b9.out,Dm.out,d3.out.alloc _⟩
end
end Go.Proofs.YtejbpijamdlgcaaGreatDoor

/-
  Lemmas of this seat; no claim.
-/
import Derived.Shelf.SlSortCmp.NoneTotal
import Derived.Test.YtncfhbpejchbfaaGreatDoorPP1
import Derived.Test.YtncfhbpejchbfaaGreatDoorLayIt
set_option linter.unusedVariables false
set_option linter.unusedSimpArgs false
set_option maxRecDepth 100000
set_option maxHeartbeats 40000000
open Array renaming getElem?_eq_getElem→dl,getElem?_eq_none→fI,getElem?_eq_some_iff→an,getElem?_modify→cL,getElem?_toList→aP
open Function renaming comp→fv
open Go renaming Calls→aO,Value→au,World→ae,bodyPost_ret→aB,heap_alloc_new→aI,madeCells→ff,results_none→gR
open Go.Act renaming put→fE
open Go.Exit renaming inBlock→fM
open Go.Lib renaming hid→ac
open Go.RowKit.Below renaming block→av
open Go.Sort renaming alloc_eq_grow→eH,heapBuild→jl,ltInt→aZ,partition→jm,reverseLoop→jk,scanDown→jc,siftDown→dT
open Go.World renaming cell?_alloc_some→ah,cell?→fV
open Go.World.ownsRow renaming lt→bQ
open Int renaming toNat_natCast→bJ
open List renaming append_assoc→aK,append_nil→bB,cons_append→aJ,ext_getElem?→iK,getD_eq_getElem?_getD→cQ,getElem?_eq_getElem→ay,getElem?_eq_none→cU,getElem?_eq_some_iff→aq,getElem?_map→bF,getElem?_take→cj,length_append→ag,length_cons→ar,length_nil→aG,length_singleton→cy,length_take→bv,map_append→dX,map_congr_left→bY,map_cons→bA,map_map→du,mem_append→aA,mem_cons→aE,mem_map→cG,mem_of_getElem?→aD,nodup_cons→dZ,perm_append_comm→eI,perm_middle→dP,range→fQ,replicate→dr,take_add_one→bG,take_of_length_le→aU
open List.Pairwise renaming nil→eR
open List.Perm renaming trans→gU
open Nat renaming le_refl→am,zero_add→aW,zero_le→bN
open Go.Proofs.Tryz
open Go.Proofs.Tryz renaming prog→pg
namespace Go.Proofs.YtncfhbpejchbfaaGreatDoor
section
open Go.ChangeShapes Go.WideShapes Go.ChangeAt Go.RowKit Go.Sort Go.Maps
attribute [local go_sem] ah
theorem wY {W W':ae} {b o:Nat} {v:au} (e:W'.heap[b]? =W.heap[b]?) (h:W.cell? ⟨b,o,none⟩=some v):W'.cell? ⟨b,o,none⟩=some v:=by
 simp only[fV] at h⊢;rw[e];exact h
theorem aby {p:List (I2×List Int)} {a:I2} {m:Int} (h:m∈lkP p a):∃t∈p,m∈t.2:=by
 induction p with
 |nil=>cases h
 |cons s r ih=>
  rw[lkP] at h
  split at h
  ·exact⟨s,ι,h⟩
  ·obtain⟨t,f,e⟩:=ih h
   exact⟨t,by simp[f],e⟩
def ae2 (w0 f:ae) (T:Nat) (A:Option Addr) (n cap:Nat) (z V:List I2) (Xs:List It) (bs:List Bool) (C:List It) (u:TkV) (l:List Int) (q:List (I2×List Int)×List Int) (M:Nat) (i:au) (wr:ae):Prop:=
 ∃(j:Nat) (a:TkV) (e:List Int),j<=M/\i= .int .i64 (j:Nat)/\Hid (TkS w0 wr T A n cap z V Xs bs C e a)/\Hid (nV f u wr a)/\Hid ((plW a.Wt,e)=nL V Xs (l.take j) q)/\Hid (e.length+nW (plW a.Wt)+(M-j)<=400000)
theorem kY.blocks {w0 W W':ae} {v:au} {l:List Int} (h:kY w0 W v l) (e:∀b,b<W.heap.size->v.ownBlock=some b->W'.heap[b]? =W.heap[b]?):kY w0 W' v l:=by
 refine⟨h.1,?_⟩;rcases h.2 with u|⟨q,cap,i,j,a,f,r⟩
 ·exact .inl u
 ·exact .inr ⟨q,cap,i,j,a,(e q (an.1 f).1 (by rw[j];rfl)).trans f,r⟩
theorem XT (w0 W:ae) (T:Nat) (A:Option Addr) (n cap:Nat) (V0 V:List I2) (Xs:List It) (bs:List Bool) (C:List It) (hs:List Int) (g:TkV) (i:Nat) (x:It)
  (h:TkS w0 W T A n cap V0 V Xs bs C hs g) (hn:V0.length=n) (hm:jB 0 V0=true) (hb:n<=400000) (l9:jB 0 V=true) (hx:Xs[i]? =some x) (f1:jq V x.c<=x.k) (d4:bs.length=Xs.length) (hN:Xs.length<=400000) (hC:C.length<400000)
  (b8:∀y∈Xs,wfI y/\okW y) (z:hs.length+nW (plW g.Wt)<=400000) (O:∀t∈plW g.Wt,∀m∈t.2,0<=m/\m<(Xs.length:Int)):
  aO pg 105 #[.pointer (some ⟨T,0,none⟩),.int .i64 i] W λe W'=>e= .returned (.tuple #[])/\∃g' a7,TkS w0 W' T A n cap V0 (setOf V x.c (x.k+1)) Xs (bs.set i true) (C++[x]) a7 g'/\
   (plW g'.Wt,a7)=nL (setOf V x.c (x.k+1)) Xs (lkP (plW g.Wt) (x.c,x.k)) (qc (plW g.Wt) (x.c,x.k),hs):=by
 obtain⟨N,K⟩:∃N,Xs.length=N:=⟨_,rfl⟩;have m2:i<N:=by rw[<-K];exact(aq.1 hx).1
 have e7:=(b8 x (aD hx)).2;obtain⟨gx,cX,I⟩:∃gx cX,g.vX= .slice (some ⟨gx,0,none⟩) N cX:=by
  rcases h.its.2 with⟨_,h0⟩|⟨gx,cX,cur,e,_⟩
  ·rw[h0] at K;omega
  ·exact⟨gx,cX,by rw[e,K]⟩
 have k2:gx<W.heap.size:=(jS.lt h.its gx (by rw[I];rfl)).2;have k3:g.tg gx= .x:=h.gX gx (by rw[I];rfl);have f7:=h.its;rw[I] at f7;obtain⟨Ax,n8,e1,_,f8⟩:=f7.open;injection e1 with e1 eN eC;rw[<-e1] at f8;clear eN eC;obtain⟨b',o',x',e2,b7,m3⟩:=f8.at (k:=i) (by rw[K];exact m2);injection e2 with e2;injection e2 with e2 e3 _;subst e2;subst e3;rw[hx] at b7;injection b7 with b7;subst b7;obtain⟨c0,c1,c2,c3,c4,c5,c6⟩:=m3;simp only[aW] at c0 c1 c2 c3 c4 c5 c6;obtain⟨U,cC,a3,j0⟩:∃U cC,g.vC= .slice (some ⟨U,0,none⟩) bs.length cC/\∀W':ae,W'.heap[U]? =W.heap[U]? ->W'.cell? ⟨U,i,none⟩=some (.bool (bs.getD i false))/\W'.frozen? ⟨U,i,none⟩=false:=by
  rcases h.came.2 with⟨_,h0⟩|⟨U,cC,cur,e,_,hgb,_,_,_,hcur⟩
  ·rw[h0] at d4;omega
  ·refine⟨U,cC,e,λW' eW=>?_⟩
   rw[hgb] at eW;have h1:(cur.toList.take (bs.length*1))[i]? =some (.bool (bs.getD i false)):=by
        rw[hcur,bF,cQ,ay ω];rfl
   rw[cj,if_pos ω,aP] at h1;constructor
   ·simp[fV,eW,h1]
   ·simp[World.frozen?,eW]
 have t2:W.cell? ⟨T,2,none⟩=some (.slice (some ⟨gx,0,none⟩) N cX):=by rw[<-I];exact h.tb.cell rfl
 have n5:(0:Int)<=(i:Int):=ω
 have n4:(i:Int)<(N:Int):=ω
 obtain⟨g1,h1,k7,j8,g6,g5,m8,m6,m7,a1⟩:=h.box (.cells #[Vu x.c,Vu x.k] 38);have d3:(W.alloc (.cells #[Vu x.c,Vu x.k] 38)).cell? ⟨T,3,none⟩=some (.slice (some ⟨U,0,none⟩) N cC):=by rw[<-K,<-d4,<-a3,<-g5];exact h1.tb.cell rfl
 obtain⟨k9,k8⟩:=j0 (W.alloc (.cells #[Vu x.c,Vu x.k] 38)) (av (w':=W.alloc (.cells #[Vu x.c,Vu x.k] 38)) ((Ext.refl W).alloc _) U (bQ h.came U (by rw[a3];rfl)).2);obtain⟨h2,a2⟩:=h1.acp i (g5.trans a3);have a8:=ug.ask (g:=g1) (q:=W.heap.size) (a:=x.c) (b:=x.k) (aI W _) a2 k7;have b5:=a1.trans a2;have O1:=(b5.2 gx k2 k3).1;have u0:=wY O1 c0;have u1:=wY O1 c1;have u2:=wY O1 c2;have u3:=wY O1 c3;have u4:=wY O1 c4;have u5:=wY O1 c5;have u6:=wY O1 c6;have v4:((W.alloc (.cells #[Vu x.c,Vu x.k] 38)).setCell ⟨U,i,none⟩ (.bool true)).cell? ⟨T,4,none⟩=some g1.vo:=h2.tb.cell rfl;have v2:((W.alloc (.cells #[Vu x.c,Vu x.k] 38)).setCell ⟨U,i,none⟩ (.bool true)).cell? ⟨T,2,none⟩=some (.slice (some ⟨gx,0,none⟩) N cX):=by rw[<-I,<-g6];exact h2.tb.cell rfl
 obtain⟨vo,X⟩:∃vo,g1.vo=vo:=⟨_,rfl⟩;rw[X] at v4;replace h:=ac h;replace h1:=ac h1;replace h2:=ac h2;replace K:=ac K;replace d4:=ac d4;replace I:=ac I;replace a3:=ac a3;replace hx:=ac hx;replace hn:=ac hn;have f9:plW g1.Wt=plW g.Wt:=by rw[j8]
 replace f9:=ac f9;clear O1 j0 j8 g5 m8 m6 m7 a1 a2 f7 e1 f8 k2 k3;replace g6:=ac g6;replace X:=ac X;replace b5:=ac b5;replace a8:=ac a8;replace z:=ac z;replace O:=ac O;replace b8:=ac b8;replace e7:=ac e7;replace f1:=ac f1;go_enter func105,ntmps105
 go_upto_region 2 with fail
 generalize(W.alloc (.cells #[Vu x.c,Vu x.k] 38)).setCell ⟨U,i,none⟩ (.bool true)=W2 at*;generalize W.heap.size=pa at*;clear d3 k9 k8 t2 c0 c1 c2 c3 c4 c5 c6;have b6:Ext W2 (W2.alloc (.cells #[Vu x.c,Vu x.k,Vu x.lc,Vu x.lk,Vu x.rc,Vu x.rk,.int .i32 x.ch] 106)).drew:=((Ext.refl W2).alloc _).drew;have f:=h2.out.ext b6;have k4:=b5.out.trans (nV.ext g1 b6);have hz:ItS (W2.alloc (.cells #[Vu x.c,Vu x.k,Vu x.lc,Vu x.lk,Vu x.rc,Vu x.rk,.int .i32 x.ch] 106)).drew (some ⟨W2.heap.size,0,none⟩) [x]:=Row.ext (xs:=flat encI [x]) (Row.new W2 #[Vu x.c,Vu x.k,Vu x.lc,Vu x.lk,Vu x.rc,Vu x.rk,.int .i32 x.ch] 106) ((Ext.refl _).drew);have Y:=f.come;rw[X.out] at Y;obtain⟨v3,W3,e4,f0,g3,b3⟩:=agJ w0 _ 67 vo C Y f.low.size _ 1 1 [x] rfl hz (by simp only[ar,aG];omega);obtain⟨A3,c3,e3,_,_⟩:=f0.open;obtain⟨L3,j6⟩:∃L3,(C++[x]).length=L3:=⟨_,rfl⟩;rw[j6] at e3;clear j6;subst e3;have e0:=g3;have g0:=b3;rw[<-X.out] at e0 g0;obtain⟨g4,h4,g2,j9,a4,j3⟩:=f.ach f0 e0 g0;obtain⟨nn,D,n2,hM,hV⟩:=f.kn;have d5:=j3 nn D hM;have f5:=f.tb.of ((pU e0).block T f.tb.lt (λe=>by have:=f.go T e;rw[f.gT] at this;cases this));have w4:W3.cell? ⟨T,4,none⟩=some vo:=by rw[<-X.out];exact f5.cell rfl
 have k6:=f5.thaw 4;have k5:=ac (k4.trans a4);have b9:=ac (ug.ask a8.out.1 ((nV.ext g1 b6).trans a4) a8.out.2);replace h4:=ac h4;replace d5:=ac d5;replace hV:=ac hV;replace g2:=ac g2;have m9:=ac (show plW g4.Wt=plW g.Wt by rw[j9,f9.out]);clear j3 hM f5 g3 e0 b3 g0 f0 Y hz f b6 k4 a4 j9
 go_cut [22] (λ_ wx=>wx=W3.setCell ⟨T,4,none⟩ (.slice A3 L3 c3))
 case first=>
  go_region_law (refine UD rfl (.tmp 26) (.tmp 34) rfl (by simp[Act.eval,fE]) (by simp[Act.eval,fE]) e4 ?_)
  all_goals(go_wp2_with fail;go_meet;exact rfl)
 case rest=>
  subst hcut;clear e4 w4 k6 u0 u1 u2 u3 u4 u5 u6 v4 v2;generalize W3.setCell ⟨T,4,none⟩ (.slice A3 L3 c3)=W4 at*;obtain⟨bS,J⟩:∃bS,g4.bS=bS:=⟨_,rfl⟩;have s0:W4.cell? ⟨T,0,none⟩=some (.slice A n cap):=h4.out.tb.cell rfl;have s1:W4.cell? ⟨T,1,none⟩=some (.map (some bS)):=by rw[<-J];exact h4.out.tb.cell rfl
  obtain⟨k0,k1,_,_⟩:=b9.out.1.cells;have j5:MapU W4.drew bS nn D:=by
   rw[<-J,g2.out];exact d5.out.ext ((Ext.refl _).drew)
  have H:=e7.out;have b1:=ac (ZG A n cap bS nn D V0 V x.c x.k W4.drew j5 hV.out l9 ω H.1 H.2.1 H.2.2.1 H.2.2.2 f1.out);replace J:=ac J;clear j5 H d5
  go_upto_region 3 with fail
  go_cut [38] (λ_ wx=>∃D',Hid (TSb (λb=>b=bS) W4.drew wx)/\Hid (MapU wx bS (nn+1) D')/\Hid (EW D' V0 (setOf V x.c (x.k+1))))
  case first=>
   go_region_with(go_at_call 137;refine b1.out.mono ?_;rintro e w5 ⟨rfl,d9,D',d7,d6⟩)
   all_goals(go_wp2_with fail;go_meet;exact⟨D',ac d9,ac d7,ac d6⟩)
  case rest=>
   obtain⟨D',d9,d7,d6⟩:=hcut;have j7:=h4.out.ext ((Ext.refl W4).drew);obtain⟨h5,a5⟩:=j7.gone (by rw[J.out];exact d9.out) (by rw[J.out];exact d7.out) d6.out (by rw[ag,cy];omega);have h3:=(nV.ext g4 ((Ext.refl W4).drew)).trans a5;have i3:=ac (ug.ask b9.out.1 h3 b9.out.2);have n1:=ac (k5.out.trans h3);clear d9 d7 d6 j7 a5 h3 b9 a8 k5 b5 b1 s0 s1 k0 k1 J hV;generalize wc=W5 at*;obtain⟨V',b4⟩:∃V',setOf V x.c (x.k+1)=V':=⟨_,rfl⟩;rw[b4] at h5;replace b4:=ac b4;obtain⟨bW,b2⟩:∃bW,g4.bW=bW:=⟨_,rfl⟩;have s6:W5.cell? ⟨T,6,none⟩=some (.map (some bW)):=by rw[<-b2];exact h5.tb.cell rfl
   obtain⟨k0,k1,_,_⟩:=i3.out.1.cells;obtain⟨v,hv,Y,e5⟩:=h5.waits (x.c,x.k);have OX:(Instr.lookup 158 (.map (some bW)) (.agg #[.int .u32 x.c,.int .u32 x.k]) false).run pg W5.drew= .ok v W5.drew:=by
        rw[<-hv,<-b2];exact(h5.wm.ext ((Ext.refl W5).drew)).plain.look underlying158 (x.c,x.k) (.slice none 0 0) κ
   have h6:=h5.ext ((Ext.refl W5).drew.drew);obtain⟨w7,Q,j4,g7⟩:=h6.wm.drop (by unfold mE;rw[du];exact h6.keys) underlying158 (x.c,x.k) 0;obtain⟨g9,h9,a0,a9,i0,j1⟩:=h6.dropped (x.c,x.k) j4 g7;rw[b2] at Q
   dsimp only at Q
   have VY:kY w0 w7 v (lkP (plW g4.Wt) (x.c,x.k)):=Y.blocks (λb hb e=>j1 b hb (e5 b e));have g8:∀b,v.ownBlock=some b->g9.tg b= .x:=λb e=>i0 b (e5 b e)
   rw[m9.out] at a0 VY;replace h9:=ac h9;replace a0:=ac a0;replace VY:=ac VY;replace g8:=ac g8;replace b2:=ac b2;replace h5:=ac h5;clear h6 j4 g7 j1 i0 a9 Y e5 hv
   go_upto_region 4 with fail
   go_cut [5] (λs wx=>s=v/\wx=W5.drew)
   case first=>
        go_region
        all_goals(go_wp2_with fail;go_meet;exact⟨rfl,rfl⟩)
   case rest=>
        obtain⟨rfl,rfl⟩:=hcut
        go_upto_region 5 with fail
        go_cut [50] (λ_ wx=>wx=w7)
        case first=>
         go_region_law (refine XZ rfl (.tmp 53) (.tmp 54) rfl (by simp[Act.eval,fE]) (by simp[Act.eval,fE]) Q ?_)
         all_goals(go_wp2_with fail;go_meet;exact rfl)
        case rest=>
         subst hcut;obtain⟨l,hl⟩:∃l,lkP (plW g.Wt) (x.c,x.k)=l:=⟨_,rfl⟩;obtain⟨p0,b0⟩:∃p0,qc (plW g.Wt) (x.c,x.k)=p0:=⟨_,rfl⟩;have a6:=UC (p:=plW g.Wt) (x.c,x.k) (by rw[Gj];exact h.out.keys);have f2:∀m∈l,0<=m/\m<(Xs.length:Int):=λm i5=>by
          rw[<-hl] at i5;obtain⟨t,h1,h2⟩:=aby i5;exact O.out t h1 m h2
         rw[hl,b0] at a6;rw[hl] at VY;rw[b0] at a0;obtain⟨M,Z⟩:∃M,l.length=M:=⟨_,rfl⟩;obtain⟨Av,cv,ev,_,_⟩:=VY.out.open;rw[Z] at ev a6;have l4:Hid (hs.length+nW (plW g9.Wt)+(M-0)<=400000):=ac (by rw[a0.out];have:=z.out;omega);have n6:M<=400000:=by have:=z.out;omega
         subst ev;replace Z:=ac Z;replace f2:=ac f2;have l8:=hn.out;replace hl:=ac hl;replace b0:=ac b0;replace hn:=ac hn;clear a6 O z i3 OX Q s6 k0 k1 h5 n1 h1 h2 h4 l8
         go_wp2_with fail
         go_loopw [57] (ae2 w0 wc T A n cap V0 V' Xs (bs.set i true) (C++[x]) g9 l (p0,hs) M) (λvi _=>M-(intOf vi).toNat)
         case atStart=>exact⟨0,g9,hs,bN _,rfl,h9,ac (nV.refl _ _),ac (by rw[a0.out];rfl),l4⟩
         case round=>
          obtain⟨j,gj,hj,n3,rfl,f4,j2,i4,e6⟩:=hrel;by_cases i6:j<M
          ·obtain⟨bl,ol,m5,i7⟩:∃b o,Av=some ⟨b,o,none⟩/\∀(k:Nat) (u:au),(l.map Vi)[k]? =some u->wr.cell? ⟨b,o+k,none⟩=some u:=by
            have h1:=kY.ask VY.out j2.out g8.out;obtain⟨A8,c8,e8,_,h8⟩:=h1.open;injection e8 with e8 e9 e10;rw[<-e8] at h8;exact h8 (by rw[List.length_map,Z.out];omega)
           obtain⟨m,d2⟩:∃m,l[j]? =some m:=⟨l[j]'(by rw[Z.out];exact i6),ay _⟩;obtain⟨m1,m0⟩:=f2.out m (aD d2);obtain⟨mi,m4⟩:∃mi:Nat,m=mi:=⟨m.toNat,ω⟩;subst m4;obtain⟨y,hy⟩:∃y,Xs[mi]? =some y:=⟨Xs[mi]'(by omega),ay _⟩;have cm:wr.cell? ⟨bl,ol+j,none⟩=some (.int .i64 (mi:Int)):=i7 j _ (by rw[bF,d2];rfl);have i2:∀t∈gj.Wt,t.2.2.length<=400000:=λt ht=>by
            have h1:t.2.2.length<=nW (plW gj.Wt):=Nu (p:=plW gj.Wt) (t:=(t.1,t.2.2)) (cG.2 ⟨t,ht,rfl⟩);have:=e6.out;omega
           have n0:=ac (Ul w0 wr T A n cap V0 V' Xs (bs.set i true) (C++[x]) hj gj mi y f4.out hn.out hm hb hy hN (b8.out y (aD hy)).1 (by have:=e6.out;omega) i2);have i1:Xs[((mi:Nat):Int).toNat]? =some y:=by rw[bJ];exact hy
           have l5:=ac (yQ V' Xs (l.take j) (mi:Int) (p0,hs) y i1);have l3:=ac (show l.take (j+1)=l.take j++[(mi:Int)] by rw[bG,d2];rfl);have l2:=ac (Uk V' y (mi:Int) (p:=plW gj.Wt) hj (by rw[Gj];exact f4.out.keys));have BQ:=ac i6;have n9:(0:Int)<=(j:Int):=ω
           have o2:(j:Int)<(M:Int):=ω
           have o3:(j:Int)<400000:=ω
           subst m5;clear i1 i2 i7 d2 hy m1 m0
           go_wp2_with fail
           refine n0.out.mono ?_;rintro e w' ⟨rfl,g',a7,f6,f3,d1⟩;replace f6:=ac f6;replace f3:=ac f3;replace d1:=ac d1;go_wp2
           go_roundw
           case rel=>
            refine⟨j+1,g',a7,BQ.out,ν,f6,ac (j2.out.trans f3.out),ac ?_,ac ?_⟩
            ·rw[l3.out,l5.out,<-i4.out];exact d1.out
            ·have h9:=l2.out
             rw[<-d1.out] at h9;have h8:=e6.out;have h7:=BQ.out;have n7:a7.length+nW (plW g'.Wt)=hj.length+nW (plW gj.Wt)+1:=h9;omega
           case measure=>have:=BQ.out;simp[intOf];omega
          ·go_wp2_with fail
           go_end0
           exact⟨rfl,gj,hj,by rw[b4.out];exact f4.out,by rw[b4.out,hl.out,b0.out,i4.out,aU (by rw[Z.out];omega)]⟩
end
section
open Go.Sort
section
variable {V:List I2} {a:I2} {hs:List Int} {m:Int} {p:List (I2×List Int)} {x:It}
theorem Yw {n:Nat} (K:hs.length=n+1) (z:xI hs.length hs.toArray) (hm:hs[0]? =some m):
  ((wP hs.toArray).toList.take n).length=n/\xI n ((wP hs.toArray).toList.take n).toArray/\hs.Perm (m::(wP hs.toArray).toList.take n)/\∀k∈hs,m<=k:=by
 rw[K] at z;obtain⟨W,J,U,Q⟩:=Ob (d:=hs.toArray) (n:=n) (by simpa using K) z;have u:hs.toArray[0]! =m:=by
  rw[getElem!_pos _ 0 (by simp;omega)];have:=(aq.1 hm).2;simpa using this
 rw[u] at J;generalize wP hs.toArray=P at*;have O:P.toList.length=n+1:=by simpa using W
 have q:P.toList.drop n=[m]:=by
  have e:=List.drop_eq_getElem_cons (l:=P.toList) (i:=n) ω;rw[e,List.drop_eq_nil_of_le ω];rw[getElem!_pos P n ω] at J;simp[J]
 refine⟨by rw[bv];omega,?_,?_,?_⟩
 ·intro k k0 kn
  have f:∀j,j<n->(P.toList.take n).toArray[j]! =P[j]! :=λj I=>by
   rw[getElem!_pos _ j (by simp;omega),getElem!_pos P j ω];simp
  rw[f k kn,f _ ω];exact U k k0 kn
 ·have e:P.toList=P.toList.take n++[m]:=by rw[<-q];exact(List.take_append_drop n _).symm
  have M:P.toList.Perm hs:=by simpa using Q
  rw[e] at M;exact M.symm.trans (eI)
 ·intro k N
  obtain⟨j,I⟩:=List.getElem?_of_mem N;have H:=(aq.1 I).1;have:=Rj z (i:=j) ω;rw[u,getElem!_pos _ j (by simpa using H)] at this;have X:=(aq.1 I).2;simp only[List.getElem_toArray] at this;omega
def nD:List (I2×List Int)->List Int
 |[]=>[]
 |t::r=>t.2++nD r
theorem ZM (p q:List (I2×List Int)):nD (p++q)=nD p++nD q:=by
 induction p with
 |nil=>rfl
 |cons s r ih=>rw[aJ,nD,nD,ih,aK]
theorem Ic:m∈nD p↔∃t∈p,m∈t.2:=by
 induction p with
 |nil=>simp[nD]
 |cons s r ih=>simp[nD,ih]
theorem ZL (p:List (I2×List Int)):(nD p).length=nW p:=by
 induction p with
 |nil=>rfl
 |cons s r ih=>rw[nD,nW,ag,ih]
theorem YQ {r:List (I2×List Int)} (i:Int) (h:a∉r.map (·.1)):r.map (λt=>if t.1=a then(a,t.2++[i]) else t)=r:=by
 have f:r.map (λt=>if t.1=a then(a,t.2++[i]) else t)=r.map id:=bY λt e=>if_neg λj=>h (by rw[<-j];exact cG.2 ⟨t,e,rfl⟩)
 rw[f,List.map_id]
theorem YR (i:Int) (hn:(p.map (·.1)).Nodup) (h:a∈p.map (·.1)):(nD (p.map λt=>if t.1=a then(a,t.2++[i]) else t)).Perm (i::nD p):=by
 induction p with
 |nil=>cases h
 |cons s r ih=>
  have f:s.1∉r.map (·.1)/\(r.map (·.1)).Nodup:=dZ.1 hn;rw[bA,nD,nD];by_cases e:s.1=a
  ·rw[if_pos e,YQ i (by rw[<-e];exact f.1)]
   show((s.2++[i])++nD r).Perm (i::(s.2++nD r));rw[aK];exact dP
  ·rw[if_neg e]
   have:=ih f.2 (by
        rcases aE.1 h with j|j
        ·exact absurd j.symm e
        ·exact j)
   exact(this.append_left s.2).trans dP
theorem Xf (a:I2) (i:Int) (hn:(p.map (·.1)).Nodup):(nD (Bc p a i)).Perm (i::nD p):=by
 unfold Bc
 split
 ·rename_i h
  exact YR i hn h
 ·rw[ZM]
  exact eI
theorem Xg (a:I2) (i:Int) (hn:(p.map (·.1)).Nodup):((Bc p a i).map (·.1)).Nodup:=by
 unfold Bc
 split
 ·rw[du]
  have:p.map ((λt:I2×List Int=>t.1)∘λt=>if t.1=a then(a,t.2++[i]) else t)=p.map (·.1):=by
   refine bY λt _=>?_
   simp only[fv]
   split
   ·rename_i e;exact e.symm
   ·rfl
  rw[this];exact hn
 ·rename_i h
  rw[dX];refine List.nodup_append.2 ⟨hn,ι,λx j y f=>?_⟩;simp at f;subst f;exact λe=>h (by rw[<-e];exact j)
theorem aaF {i:Int} {t:I2×List Int} (h:t∈Bc p a i) (hm:m∈t.2):(∃s∈p,s.1=t.1/\m∈s.2)\/(m=i/\t.1=a):=by
 unfold Bc at h
 split at h
 ·obtain⟨s,hs,e⟩:=cG.1 h
  split at e
  ·rename_i j
   subst e;rcases aA.1 hm with f|f
   ·exact .inl ⟨s,hs,j,f⟩
   ·exact .inr ⟨by simpa using f,rfl⟩
  ·subst e
   exact .inl ⟨s,hs,rfl,hm⟩
 ·rcases aA.1 h with f|f
  ·exact .inl ⟨t,f,rfl,hm⟩
  ·simp at f
   subst f;exact .inr ⟨by simpa using hm,rfl⟩
theorem RO (a:I2) (hn:(p.map (·.1)).Nodup):(lkP p a++nD (qc p a)).Perm (nD p):=by
 induction p with
 |nil=>exact .refl _
 |cons s r ih=>
  have f:s.1∉r.map (·.1)/\(r.map (·.1)).Nodup:=dZ.1 hn;by_cases e:s.1=a
  ·have j:qc (s::r) a=r:=by
        unfold qc;rw[List.filter_cons_of_neg (by simp[e])];refine List.filter_eq_self.2 λt q=>?_
        simp only[decide_eq_true_eq];intro u;exact f.1 (by rw[e,<-u];exact cG.2 ⟨t,q,rfl⟩)
   have i:lkP (s::r) a=s.2:=if_pos e;rw[j,i];exact .refl _
  ·have j:qc (s::r) a=s::qc r a:=List.filter_cons_of_pos (by simp[e])
   have i:lkP (s::r) a=lkP r a:=if_neg e;rw[j,i,nD,nD];have:=(ih f.2).append_left s.2;refine gU ?_ this;rw[<-aK,<-aK];exact(eI).append_right _
def blk (V:List I2) (x:It) (a:I2):Prop:=(a=(x.c,x.k-1)/\jq V x.c<x.k)\/(a=(x.lc,x.lk)/\Du V x.lc x.lk=false)\/(a=(x.rc,x.rk)/\Du V x.rc x.rk=false)
theorem vS {a b:Int}:Du V a b=false↔a≠0/\jq V a<=b:=by
 unfold Du;simp
theorem Uh (h:blk V x a):qD V x=false:=by
 rcases e:qD V x with _|_
 ·rfl
 ·exfalso
  obtain⟨j,i,f⟩:=uH.1 e;rcases h with⟨_,h⟩|⟨_,h⟩|⟨_,h⟩
  ·omega
  ·rw[vS] at h;omega
  ·rw[vS] at h;omega
theorem aeU (h:awI V x=some a) (j:0<=jq V x.c) (i:jq V x.c<=x.k) (f:x.k<=4294967295):blk V x a:=by
 unfold awI at h
 split at h
 ·split at h
  ·split at h
   ·cases h
   ·rename_i e
    injection h with h;exact .inr (.inr ⟨h.symm,by simpa using e⟩)
  ·rename_i e
   injection h with h;exact .inr (.inl ⟨h.symm,by simpa using e⟩)
 ·rename_i e
  injection h with h;refine .inl ⟨?_,ω⟩;rw[<-h];have:IntKind.u32.wrap (x.k-1)=x.k-1:=by
   simp[IntKind.wrap,IntKind.signed,IntKind.bits];omega
  rw[this]
structure yU (V:List I2) (Xs:List It) (p:List (I2×List Int)) (hs:List Int):Prop where
 keys:(p.map (·.1)).Nodup
 heap:xI hs.length hs.toArray
 rdy:∀m∈hs,∀x,Xs[m.toNat]? =some x->qD V x=true
 wait:∀t∈p,∀m∈t.2,∀x,Xs[m.toNat]? =some x->blk V x t.1
theorem yU.none (V:List I2) (Xs:List It):yU V Xs [] []:=⟨ι,λk _ h=>absurd h ι,ι,ι⟩
theorem yU.ask {Xs:List It} (h:yU V Xs p hs) (z:Xs[m.toNat]? =some x) (Q:0<=jq V x.c) (O:jq V x.c<=x.k) (N:x.k<=4294967295):
  yU V Xs (zG V x m p hs).1 (zG V x m p hs).2/\((zG V x m p hs).2++nD (zG V x m p hs).1).Perm (m::(hs++nD p)):=by
 unfold zG;have q:=aeT V x;cases H:awI V x with
 |none=>
  rw[H] at q;have K:qD V x=true:=by simpa using q.symm
  have i:=U3 (d:=hs.toArray) (by simpa using h.heap) m;have W:hs.toArray.push m=(hs++[m]).toArray:=ι
  rw[W] at i;have U:hs.toArray.size=hs.length:=ι
  rw[U] at i;have I:(upA hs.length (hs++[m]).toArray).toList.Perm (hs++[m]):=by simpa using i.2
  refine⟨⟨h.keys,?_,λk u y f=>?_,h.wait⟩,?_⟩
  ·show xI (upA hs.length (hs++[m]).toArray).toList.length (upA hs.length (hs++[m]).toArray).toList.toArray
   rw[Xz];simpa using i.1
  ·rcases aA.1 (I.mem_iff.1 u) with j|j
   ·exact h.rdy k j y f
   ·simp at j
    subst j;rw[z] at f;injection f with f;rw[<-f];exact K
  ·show((upA hs.length (hs++[m]).toArray).toList++nD p).Perm _
   refine(I.append_right _).trans ?_;rw[aK];exact dP
 |some a=>
  have M:=aeU H Q O N;refine⟨⟨Xg a m h.keys,h.heap,h.rdy,λt J k u y f=>?_⟩,?_⟩
  ·rcases aaF J u with⟨s,hs',e,j⟩|⟨e,e3⟩
   ·rw[<-e];exact h.wait s hs' k j y f
   ·rw[e,z] at f
    injection f with f;rw[<-f,e3];exact M
  ·show(hs++nD (Bc p a m)).Perm _
   exact((Xf a m h.keys).append_left hs).trans dP
theorem yU.all {V:List I2} {Xs:List It}:∀(l:List Int) {s:List (I2×List Int)×List Int} (h:yU V Xs s.1 s.2) (e:∀m∈l,∃x,Xs[m.toNat]? =some x/\0<=jq V x.c/\jq V x.c<=x.k/\x.k<=4294967295),
  yU V Xs (nL V Xs l s).1 (nL V Xs l s).2/\((nL V Xs l s).2++nD (nL V Xs l s).1).Perm (l++(s.2++nD s.1))
 |[],s,h,_=>⟨h,.refl _⟩
 |m::l,s,h,e=>by
  obtain⟨x,f,J,I,H⟩:=e m ι;obtain⟨z,u⟩:=h.ask f J I H;rw[nL,f];obtain⟨q,j⟩:=yU.all l (s:=zG V x m s.1 s.2) z (λk i=>e k (by simp[i]));refine⟨q,j.trans ((u.append_left l).trans ?_)⟩;exact dP
theorem aeO {y:It} (hm:jB 0 V=true) (u:x.k=jq V x.c) (h:blk V y a) (i:a≠(x.c,x.k)):blk (setOf V x.c (x.k+1)) y a:=by
 have hn:=λd=>oG x.c (x.k+1) d hm
 rcases h with⟨e,h⟩|⟨e,h⟩|⟨e,h⟩
 ·refine .inl ⟨e,?_⟩
  rw[hn]
  split
  ·rename_i f
   have:y.k-1≠x.k:=λz=>i (by rw[e,f,z])
   rw[f] at h;omega
  ·exact h
 all_goals
  rw[vS] at h
  first|refine .inr (.inl ⟨e,vS.2 ⟨h.1,?_⟩⟩)|refine .inr (.inr ⟨e,vS.2 ⟨h.1,?_⟩⟩)
  rw[hn]
  split
  ·rename_i f
   have q:=h.2;rw[f,<-u] at q;rcases Int.lt_or_eq_of_le q with j|j
   ·omega
   ·exact absurd (by rw[e,f,j]) i
  ·exact h.2
theorem adE {y:It} (hm:jB 0 V=true) (j:x.k=jq V x.c) (h:qD V y=true) (q:iid y≠iid x):qD (setOf V x.c (x.k+1)) y=true:=by
 have hn:=λd=>oG x.c (x.k+1) d hm
 obtain⟨u,i,f⟩:=uH.1 h;refine uH.2 ⟨?_,?_,?_⟩
 ·rw[hn,if_neg (λe=>q (by unfold iid;rw[e,u,e,<-j]))]
  exact u
 ·rcases i with i|i
  ·exact .inl i
  ·refine .inr ?_
   rw[hn]
   split
   ·rename_i e;rw[e,<-j] at i;omega
   ·exact i
 ·rcases f with f|f
  ·exact .inl f
  ·refine .inr ?_
   rw[hn]
   split
   ·rename_i e;rw[e,<-j] at f;omega
   ·exact f
theorem yU.gone {Xs:List It} (h:yU V Xs p hs) (hm:jB 0 V=true) (j:x.k=jq V x.c) (i:∀m∈hs,∀y,Xs[m.toNat]? =some y->iid y≠iid x):
  yU (setOf V x.c (x.k+1)) Xs (qc p (x.c,x.k)) hs:=
 ⟨h.keys.sublist ((List.filter_sublist).map _),h.heap,λm e y f=>adE hm j (h.rdy m e y f) (i m e y f),λt q m e y f=>by
  obtain⟨z,u⟩:=List.mem_filter.1 q;exact aeO hm j (h.wait t z m e y f) (by simpa using u)⟩
end
section
def ncs:List Bool->List It->List It
 |b::bs,x::xs=>if b then ncs bs xs else x::ncs bs xs
 |_,_=>[]
def nci:Nat->List Bool->List Int
 |_,[]=>[]
 |k,b::bs=>if b then nci (k+1) bs else(k:Int)::nci (k+1) bs
theorem BI:∀{bs:List Bool} {k:Nat} {m:Int},m∈nci k bs↔∃i:Nat,m=((k+i:Nat):Int)/\bs[i]? =some false
 |[],k,m=>by simp[nci]
 |b::bs,k,m=>by
  have ih:=BI (bs:=bs) (k:=k+1) (m:=m);rw[nci];constructor
  ·intro h
   cases b with
   |true=>
    obtain⟨i,e,a⟩:=ih.1 (by simpa using h);exact⟨i+1,by rw[e];congr 1;omega,by simpa using a⟩
   |false=>
    rcases aE.1 (by simpa using h) with h|h
    ·exact⟨0,by simpa using h,rfl⟩
    ·obtain⟨i,e,a⟩:=ih.1 h
     exact⟨i+1,by rw[e];congr 1;omega,by simpa using a⟩
  ·rintro⟨i,e,a⟩
   cases i with
   |zero=>
    have:b=false:=by simpa using a
    subst this;simp[e]
   |succ i=>
    have f:m∈nci (k+1) bs:=ih.2 ⟨i,by rw[e];congr 1;omega,by simpa using a⟩
    split
    ·exact f
    ·exact List.mem_cons_of_mem _ f
theorem Td:∀{bs:List Bool} {k i:Nat},bs[i]? =some false->(nci k bs).Perm (((k+i:Nat):Int)::nci k (bs.set i true))
 |[],k,i,h=>by simp at h
 |b::bs,k,0,h=>by
  have:b=false:=by simpa using h
  subst this;simp[nci]
 |b::bs,k,i+1,h=>by
  have ih:=Td (bs:=bs) (k:=k+1) (i:=i) (by simpa using h);rw[show k+1+i=k+(i+1) by omega] at ih;rw[List.set_cons_succ,nci,nci]
  split
  ·exact ih
  ·exact(ih.cons _).trans (.swap _ _ _)
theorem JA:∀{bs:List Bool} {k:Nat},(nci k bs).Nodup
 |[],k=>by simp[nci]
 |b::bs,k=>by
  have ih:=JA (bs:=bs) (k:=k+1);rw[nci]
  split
  ·exact ih
  ·refine dZ.2 ⟨λh=>?_,ih⟩
   obtain⟨i,a,_⟩:=BI.1 h;omega
theorem Tf:∀(bs:List Bool) (k:Nat),(nci k bs).length<=bs.length
 |[],k=>by simp[nci]
 |b::bs,k=>by
  have:=Tf bs (k+1);rw[nci]
  split <;> simp <;> omega
theorem LB:∀{bs:List Bool} {xs:List It} {x:It},x∈ncs bs xs->∃i:Nat,bs[i]? =some false/\xs[i]? =some x
 |[],xs,x,h=>by simp[ncs] at h
 |b::bs,[],x,h=>by simp[ncs] at h
 |b::bs,y::xs,x,h=>by
  rw[ncs] at h;cases b with
  |true=>
   obtain⟨i,e,a⟩:=LB (by simpa using h);exact⟨i+1,by simpa using e,by simpa using a⟩
  |false=>
   rcases aE.1 (by simpa using h) with rfl|h
   ·exact⟨0,rfl,rfl⟩
   ·obtain⟨i,e,a⟩:=LB h
    exact⟨i+1,by simpa using e,by simpa using a⟩
theorem TL {v:List I2}:∀{bs:List Bool} {xs:List It} {i:Nat} {x:It},bs[i]? =some false->xs[i]? =some x->qD v x=true->(∀j y,j<i->bs[j]? =some false->xs[j]? =some y->qD v y=false)->
  uw v (ncs bs xs)=some (x,ncs (bs.set i true) xs)
 |[],xs,i,x,h,_,_,_=>by simp at h
 |b::bs,[],i,x,_,h,_,_=>by simp at h
 |b::bs,y::xs,0,x,h,h2,hr,_=>by
  have u:b=false:=by simpa using h
  have q:y=x:=by simpa using h2
  subst u q;simp[ncs,uw,hr]
 |b::bs,y::xs,i+1,x,h,h2,hr,hl=>by
  have ih:=TL (v:=v) (bs:=bs) (xs:=xs) (i:=i) (x:=x) (by simpa using h) (by simpa using h2) hr (λj z H f a=>hl (j+1) z ω (by simpa using f) (by simpa using a));rw[List.set_cons_succ,ncs,ncs];cases b with
  |true=>simpa using ih
  |false=>
   have e:=hl 0 y ω rfl rfl;simp[uw,e,ih]
structure IE (V:List I2) (Xs:List It) (bs:List Bool) (p:List (I2×List Int)) (hs:List Int):Prop where
 w:yU V Xs p hs
 len:bs.length=Xs.length
 perm:(hs++nD p).Perm (nci 0 bs)
 nxt:∀(i:Nat) (x:It),bs[i]? =some false->Xs[i]? =some x->jq V x.c<=x.k
 may:jB 0 V=true
theorem IE.at {V:List I2} {Xs:List It} {bs:List Bool} {p:List (I2×List Int)} {a:List Int} (h:IE V Xs bs p a) {m:Int} (hm:m∈a++nD p):∃(i:Nat) (x:It),m=i/\bs[i]? =some false/\Xs[i]? =some x:=by
 obtain⟨i,f,e⟩:=BI.1 (h.perm.mem_iff.1 hm);have hi:=(aq.1 e).1;rw[h.len] at hi;exact⟨i,Xs[i],by rw[f];congr 1;omega,e,ay hi⟩
variable {V:List I2} {Xs:List It} {bs:List Bool} {p:List (I2×List Int)}
theorem IE.tot {a:List Int} (h:IE V Xs bs p a):a.length+nW p<=Xs.length:=by
 have e:=h.perm.length_eq;rw[ag,ZL] at e;have:=Tf bs 0;rw[h.len] at this;omega
theorem IE.next {z:List Int} (h:IE V Xs bs p z) {n:Nat} {m:Int} (hl:z.length=n+1) (hm:z[0]? =some m)
  (a2:∀(i j:Nat) (x y:It),Xs[i]? =some x->Xs[j]? =some y->iid x=iid y->i=j) (X:∀x∈Xs,okW x):
  ∃(i:Nat) (x:It),m=i/\Xs[i]? =some x/\bs[i]? =some false/\uw V (ncs bs Xs)=some (x,ncs (bs.set i true) Xs)/\
   ((wP z.toArray).toList.take n).length=n/\
   IE (setOf V x.c (x.k+1)) Xs (bs.set i true) (nL (setOf V x.c (x.k+1)) Xs (lkP p (x.c,x.k)) (qc p (x.c,x.k),(wP z.toArray).toList.take n)).1 (nL (setOf V x.c (x.k+1)) Xs (lkP p (x.c,x.k)) (qc p (x.c,x.k),(wP z.toArray).toList.take n)).2:=by
 obtain⟨q1,q2,Q,q4⟩:=Yw hl h.w.heap hm;generalize(wP z.toArray).toList.take n=h1 at*;have K:m∈z:=Q.mem_iff.2 ι;obtain⟨i,x,rfl,J,q⟩:=h.at (m:=m) (by simp[K]);have a7:((i:Nat):Int).toNat=i:=bJ i;have Y:qD V x=true:=h.w.rdy _ K x (by rw[a7];exact q);have W:x.k=jq V x.c:=(uH.1 Y).1;have a9:(z++nD p).Nodup:=h.perm.nodup_iff.2 JA;have b2:((i:Int)::(h1++nD p)).Nodup:=((Q.append_right (nD p)).nodup_iff).1 a9;have b3:(h1++nD p).Perm (nci 0 (bs.set i true)):=by
  have e1:((i:Int)::(h1++nD p)).Perm (nci 0 bs):=(Q.append_right (nD p)).symm.trans h.perm;have O:=Td (k:=0) J;rw[aW] at O;exact(e1.trans O).cons_inv
 have f:∀k∈h1++nD p,∃(j:Nat) (y:It),k=j/\j≠i/\bs[j]? =some false/\Xs[j]? =some y:=λk I=>by
  obtain⟨j,y,e,H,a⟩:=h.at (m:=k) (by
   rcases aA.1 I with u|u
   ·exact aA.2 (.inl (Q.mem_iff.2 (by simp[u])))
   ·exact aA.2 (.inr u))
  refine⟨j,y,e,λO=>?_,H,a⟩;rw[e,O] at I;exact(dZ.1 b2).1 I
 have a3:=X x (aD q);have M:jB 0 (setOf V x.c (x.k+1))=true:=Bv h.may a3;have hn:=λd=>oG x.c (x.k+1) d h.may
 have Z:∀(j:Nat) (y:It),(bs.set i true)[j]? =some false->Xs[j]? =some y->jq (setOf V x.c (x.k+1)) y.c<=y.k:=λj y H a=>by
  have a0:j≠i:=λe=>by
   rw[e,List.getElem?_set_self (by have:=(aq.1 J).1;exact this)] at H;cases H
  rw[List.getElem?_set_ne (Ne.symm a0)] at H;have u:=h.nxt j y H a;rw[hn]
  split
  ·rename_i e
   rw[e,<-W] at u;rcases Int.lt_or_eq_of_le u with h4|h4
   ·omega
   ·exact absurd (a2 j i y x a q (by unfold iid;rw[e,h4])) a0
  ·exact u
 have a6:yU V Xs p h1:=⟨h.w.keys,by rw[q1];exact q2,λk I y a=>h.w.rdy k (Q.mem_iff.2 (by simp[I])) y a,h.w.wait⟩;have a5:=a6.gone h.may W (λk I y a=>by
  obtain⟨j,y',e,N,_,U⟩:=f k (by simp[I]);subst e;rw[bJ] at a;rw[U] at a;injection a with a;subst a;exact λO=>N (a2 j i y' x U q O))
 have a1:=RO (x.c,x.k) h.w.keys;obtain⟨a4,a8⟩:=yU.all (lkP p (x.c,x.k)) (s:=(qc p (x.c,x.k),h1)) a5 (λk I=>by
  obtain⟨j,y,e,N,H,a⟩:=f k (aA.2 (.inr (a1.mem_iff.1 (aA.2 (.inl I)))));subst e;refine⟨y,by rw[bJ];exact a,nO _ M,Z j y (by rw[List.getElem?_set_ne (Ne.symm N)];exact H) a,?_⟩;have:=(X y (aD a)).2.2.2;omega)
 refine⟨i,x,rfl,q,J,TL J q Y (λj y hj H a=>?_),q1,⟨a4,by rw[List.length_set];exact h.len,?_,Z,M⟩⟩
 ·have b1:((j:Nat):Int)∈z++nD p:=h.perm.mem_iff.2 (BI.2 ⟨j,by rw[aW],H⟩)
  rcases aA.1 b1 with u|u
  ·have:=q4 _ u
   omega
  ·obtain⟨t,ht,b0⟩:=Ic.1 u
   exact Uh (h.w.wait t ht _ b0 y (by rw[bJ];exact a))
 ·refine a8.trans ?_
  show(lkP p (x.c,x.k)++(h1++nD (qc p (x.c,x.k)))).Perm _;refine gU ?_ b3;refine gU ?_ (a1.append_left h1);rw[<-aK,<-aK];exact(eI).append_right _
theorem IE.done (h:IE V Xs bs p []):uw V (ncs bs Xs)=none:=by
 refine H7.2 λx f=>?_
 obtain⟨i,q,a⟩:=LB f;have u:((i:Nat):Int)∈nD p:=by
  have:=h.perm.mem_iff.2 (BI.2 ⟨i,by rw[aW],q⟩);simpa using this
 obtain⟨t,j,e⟩:=Ic.1 u;exact Uh (h.w.wait t j _ e x (by rw[bJ];exact a))
end
end
section
open Go.ChangeShapes Go.WideShapes Go.ChangeAt Go.RowKit Go.Sort Go.Maps
attribute [local go_sem] ah
theorem H8 {v:List I2}:∀{l:List It} {x:It} {r:List It},uw v l=some (x,r)->l.length=r.length+1
 |[],x,r,h=>by cases h
 |y::l,x,r,h=>by
  simp only[uw] at h
  split at h
  ·injection h with h
   injection h with f e;rw[<-e];rfl
  ·cases a:uw v l with
   |none=>rw[a] at h;cases h
   |some q=>
    rw[a] at h;simp at h;obtain⟨f,e⟩:=h;rw[<-e,ar,ar,H8 a]
def J4 (w:ae) (T:Nat):Nat:=match w.cell? ⟨T,4,none⟩ with
 |some (.slice _ n _)=>n
 |_=>0
theorem TkS.J4 {w0 W:ae} {T:Nat} {A:Option Addr} {n cap:Nat} {i V:List I2} {Xs:List It} {bs:List Bool} {C:List It} {a:List Int} {g:TkV} (h:TkS w0 W T A n cap i V Xs bs C a g):J4 W T=C.length:=by
 obtain⟨j,c4,e,_,_⟩:=h.come.open;have f:W.cell? ⟨T,4,none⟩=some g.vo:=h.tb.cell rfl;unfold Proofs.YtncfhbpejchbfaaGreatDoor.J4;rw[f,e]
def Sz (w0:ae) (T:Nat) (A:Option Addr) (n cap:Nat) (e:List I2) (Xs:List It) (F:List It×List It×List I2) (wr:ae):Prop:=
 ∃(V:List I2) (bs:List Bool) (C:List It) (a:List Int) (g:TkV),Hid (TkS w0 wr T A n cap e V Xs bs C a g)/\Hid (IE V Xs bs (plW g.Wt) a)/\Hid (C.length+(ncs bs Xs).length=Xs.length)/\
  Hid (C++(uT (ncs bs Xs).length V (ncs bs Xs)).1=F.1/\(uT (ncs bs Xs).length V (ncs bs Xs)).2=F.2)
def acP (w0:ae) (T:Nat) (A:Option Addr) (n cap:Nat) (a:List I2) (Xs:List It) (F:List It×List It×List I2) (W:ae):Prop:=
 ∃(bs:List Bool) (g:TkV),TkS w0 W T A n cap a F.2.2 Xs bs F.1 [] g/\bs.length=Xs.length/\ncs bs Xs=F.2.1/\jB 0 F.2.2=true
theorem Nq (w0 W:ae) (T:Nat) (A:Option Addr) (n cap:Nat) (V0:List I2) (Xs:List It) (F:List It×List It×List I2) (h:Sz w0 T A n cap V0 Xs F W) (hn:V0.length=n) (hm:jB 0 V0=true) (hb:n<=400000) (hN:Xs.length<=400000)
  (Z:∀(i j:Nat) (x y:It),Xs[i]? =some x->Xs[j]? =some y->iid x=iid y->i=j) (J:∀y∈Xs,wfI y/\okW y):
  aO pg 68 #[.pointer (some ⟨T,0,none⟩)] W λe W'=>e= .returned (.tuple #[])/\acP w0 T A n cap V0 Xs F W':=by
 replace Z:=ac Z;replace J:=ac J;replace hn:=ac hn;go_enter func68,ntmps68
 go_wp2_with fail
 go_loopw [] (Sz w0 T A n cap V0 Xs F) (λwr=>400000-J4 wr T)
 case atStart=>exact h
 case round=>
  clear h;obtain⟨V,bs,C,hs,g,f,H,hC,hF⟩:=hrel;obtain⟨A5,c5,e5,_,_⟩:=f.out.ready.open;have t5:wr.cell? ⟨T,5,none⟩=some (.slice A5 hs.length c5):=by rw[<-e5];exact f.out.tb.cell rfl
  clear e5;cases hs with
  |nil=>
   simp only[aG] at t5;have hd:=H.out.done;have z:=hF.out;rw[FL hd] at z
   go_wp2_with fail
   go_end0
   refine⟨rfl,bs,g,?_,H.out.len,?_,?_⟩
   ·rw[<-z.2,<-z.1]
    show TkS w0 wr T A n cap V0 V Xs bs (C++[]) [] g;rw[bB];exact f.out
   ·rw[<-z.2]
   ·rw[<-z.2];exact H.out.may
  |cons m r=>
   obtain⟨i,x,rfl,I,Y,Q,hq,a0⟩:=H.out.next (n:=r.length) rfl rfl Z.out (λy hy=>(J.out y hy).2);have u:=H.out.tot;have a:=H8 Q;have a8:=hC.out;have b0:=ac (abj w0 wr T r.length _ g.vr ((i:Int)::r) f.out.hps rfl ω H.out.w.heap (i:Int) rfl);have ha:=λW:ae=>Kv (i:Int) W
   obtain⟨q,K⟩:∃q,((i:Int)::r).length=q:=⟨_,rfl⟩;have b2:(0:Int)<(q:Int):=by rw[ar] at K;omega
   rw[K] at t5 u;have X:q=r.length+1:=by rw[<-K];rfl
   have b1:=ac u;replace X:=ac X;replace Q:=ac Q;replace a:=ac a;replace a0:=ac a0;replace I:=ac I;replace hq:=ac hq;replace Y:=ac Y;clear K u a8
   go_wp2_with fail
   refine b0.out.mono ?_;rintro e w2 ⟨rfl,v',a5,U,a3⟩;obtain⟨g2,a6,O,a9,a2⟩:=f.out.pushed a5 (.inl U) a3;clear a5 U a3 a9 a2;have a1:=ac (XT w0 w2 T A n cap V0 V Xs bs C _ g2 i x a6 hn.out hm hb H.out.may I.out (H.out.nxt i x Y.out I.out) H.out.len hN (by have:=a.out;have:=hC.out;omega) J.out (by rw[hq.out,O];have:=b1.out;have:=X.out;omega) (λt ht m' a7=>by
        rw[O] at ht;obtain⟨j,y,e,_,hy⟩:=H.out.at (m:=m') (aA.2 (.inr (Ic.2 ⟨t,ht,a7⟩)));have:=(aq.1 hy).1;omega))
   rw[O] at a1;clear a6 O
   go_wp2_with fail
   refine a1.out.mono ?_;rintro e w3 ⟨rfl,g3,a4,N,M⟩;replace N:=ac N;replace M:=ac M
   go_wp2_with fail
   go_roundw
   case rel=>
        have e1:plW g3.Wt=_:=congrArg Prod.fst M.out;have e2:a4=_:=congrArg Prod.snd M.out;refine⟨_,_,_,a4,g3,N,ac ?_,ac ?_,ac ?_⟩
        ·rw[e1,e2];exact a0.out
        ·have:=hC.out
         have:=a.out;rw[ag,cy];omega
        ·have h9:=hF.out
         rw[a.out,FK Q.out] at h9;rw[aK];exact h9
   case measure=>
        rw[N.out.J4,f.out.J4,ag,cy];have:=hC.out;have:=a.out;omega
theorem Oj:∀{a:List Bool} {c:List It} (b:Bool) (x:It),a.length=c.length->ncs (a++[b]) (c++[x])=ncs a c++(if b then [] else [x])
 |[],[],b,x,_=>by cases b <;> simp[ncs]
 |[],y::c,b,x,h=>by simp at h
 |d::a,[],b,x,h=>by simp at h
 |d::a,y::c,b,x,h=>by
  have ih:=Oj (a:=a) (c:=c) b x (by simpa using h);rw[aJ,aJ,ncs,ncs,ih];cases d <;> simp
theorem Tc:∀(a:List Bool) (c:List It),(ncs a c).length<=c.length
 |[],c=>by simp[ncs]
 |d::a,[]=>by simp[ncs]
 |d::a,y::c=>by
  have:=Tc a c;rw[ncs];cases d <;> simp <;> omega
def ae6 (w:ae) (Xs:List It) (bs:List Bool) (N:Nat) (v a:au) (wr:ae):Prop:=
 ∃j:Nat,j<=N/\a= .int .i64 (j:Nat)/\Hid (jS w wr v (ncs (bs.take j) (Xs.take j)))/\Hid (Ext w wr)
theorem QD (w0 W:ae) (T:Nat) (A:Option Addr) (n cap:Nat) (V0 V:List I2) (Xs:List It) (bs:List Bool) (C:List It) (hs:List Int) (g:TkV) (h:TkS w0 W T A n cap V0 V Xs bs C hs g) (a:bs.length=Xs.length) (hN:Xs.length<=400000):
  aO pg 69 #[.pointer (some ⟨T,0,none⟩)] W (Xj W (ncs bs Xs)):=by
 obtain⟨AX,cX,eX,_,J⟩:=h.its.open;have U:=h.came.2;have t2:W.cell? ⟨T,2,none⟩=some (.slice AX Xs.length cX):=by rw[<-eX];exact h.tb.cell rfl
 obtain⟨Z,X,eC,H⟩:∃Z X,g.vC= .slice Z bs.length X/\∀j,j<bs.length->∃b,Z=some ⟨b,0,none⟩/\W.cell? ⟨b,j,none⟩=some (.bool (bs.getD j false)):=by
  rcases U with⟨h0,K⟩|⟨bC,X,cur,e,_,hgb,_,_,_,hcur⟩
  ·exact⟨none,0,by rw[h0,K],λj hj=>ω⟩
  ·refine⟨_,X,e,λj hj=>⟨bC,rfl,?_⟩⟩
   have K:(cur.toList.take (bs.length*1))[j]? =some (.bool (bs.getD j false)):=by
        rw[hcur,bF,cQ,ay ω];rfl
   rw[cj,if_pos ω,aP] at K;simp[fV,hgb,K]
 have t3:W.cell? ⟨T,3,none⟩=some (.slice Z bs.length X):=by rw[<-eC];exact h.tb.cell rfl
 obtain⟨N,f⟩:∃N,Xs.length=N:=⟨_,rfl⟩;rw[f] at t2 a hN;rw[a] at t3;replace f:=ac f;replace a:=ac a;replace J:=ac J;replace H:=ac H;clear eX eC U h;go_enter func69,ntmps69
 go_wp2_with fail
 go_loopw [3,11] (ae6 W Xs bs N) (λ_ vi _=>N-(intOf vi).toNat)
 case atStart=>exact⟨0,bN _,rfl,ac (jS.nil _ _),ac (Ext.refl _)⟩
 case round=>
  obtain⟨j,a4,rfl,ho,i⟩:=hrel;by_cases q:j<N
  ·obtain⟨gx,ox,x,e,M,hC⟩:=J.out.at (k:=j) (by rw[f.out];exact q)
   obtain⟨c0,c1,c2,c3,c4,c5,c6⟩:=hC;obtain⟨bC,eb,cb⟩:=H.out j (by rw[a.out];exact q);subst e eb;have c0:=i.out.keep c0;have c1:=i.out.keep c1;have c2:=i.out.keep c2;have c3:=i.out.keep c3;have c4:=i.out.keep c4;have c5:=i.out.keep c5;have c6:=i.out.keep c6;have cb:=i.out.keep cb;have a2:=i.out.keep t2;have a1:=i.out.keep t3;obtain⟨b,I⟩:∃b,bs.getD j false=b:=⟨_,rfl⟩;rw[I] at cb;have O:=ac (show ncs (bs.take (j+1)) (Xs.take (j+1))=ncs (bs.take j) (Xs.take j)++(if b then [] else [x]) by
        rw[bG,bG,M,<-I,cQ,ay (by rw[a.out];exact q)];exact Oj _ _ (by rw[bv,bv,a.out,f.out]))
   have Y:=ac q;have a7:(0:Int)<=(j:Int):=ω
   have a6:(j:Int)<(N:Int):=ω
   have a5:(j:Int)<400000:=ω
   clear I M;cases b with
   |true=>
    have x1:Ext wr (wr.alloc (.cells #[Vu x.c,Vu x.k,Vu x.lc,Vu x.lk,Vu x.rc,Vu x.rk,.int .i32 x.ch] 106)):=(Ext.refl wr).alloc _;have u:=ac (i.out.trans x1);have z:=ac (ho.out.ext x1)
    go_wp2_with fail
    go_roundw
    case rel=>
     refine⟨j+1,Y.out,ν,ac ?_,u⟩;rw[O.out,if_pos rfl,bB];exact z.out
    case measure=>have:=Y.out;simp[intOf];omega
   |false=>
    have x1:Ext wr ((wr.alloc (.cells #[Vu x.c,Vu x.k,Vu x.lc,Vu x.lk,Vu x.rc,Vu x.rk,.int .i32 x.ch] 106)).alloc (.cells #[Vu x.c,Vu x.k,Vu x.lc,Vu x.lk,Vu x.rc,Vu x.rk,.int .i32 x.ch] 106)):=((Ext.refl wr).alloc _).alloc _;have u:=ac (i.out.trans x1);have z:=ac (ho.out.ext x1);have hz:Hid (ItS ((wr.alloc (.cells #[Vu x.c,Vu x.k,Vu x.lc,Vu x.lk,Vu x.rc,Vu x.rk,.int .i32 x.ch] 106)).alloc (.cells #[Vu x.c,Vu x.k,Vu x.lc,Vu x.lk,Vu x.rc,Vu x.rk,.int .i32 x.ch] 106)) (some ⟨wr.heap.size+1,0,none⟩) [x]):=ac (by
     have e:(wr.alloc (.cells #[Vu x.c,Vu x.k,Vu x.lc,Vu x.lk,Vu x.rc,Vu x.rk,.int .i32 x.ch] 106)).heap.size=wr.heap.size+1:=ι
     rw[<-e];exact Row.new (wr.alloc (.cells #[Vu x.c,Vu x.k,Vu x.lc,Vu x.lk,Vu x.rc,Vu x.rk,.int .i32 x.ch] 106)) #[Vu x.c,Vu x.k,Vu x.lc,Vu x.lk,Vu x.rc,Vu x.rk,.int .i32 x.ch] 106)
    have a0:=ac (show(ncs (bs.take j) (Xs.take j)).length+[x].length<=40000000 by
     have K:=Tc (bs.take j) (Xs.take j);rw[bv] at K;have:=f.out;rw[cy];omega)
    go_wp2_with(at_builtin;refine kK (w0:=W) rfl (.tmp 24) (.tmp 26) rfl _ (ncs (bs.take j) (Xs.take j)) rfl z.out u.out _ 1 1 [x] rfl rfl hz.out a0.out ?_;intro v9 w9 o9 x9 g9 b9;replace o9:=ac o9;replace x9:=ac x9;clear g9 b9)
    go_roundw
    case rel=>
     refine⟨j+1,Y.out,ν,ac ?_,x9⟩;rw[O.out];exact o9.out
    case measure=>have:=Y.out;simp[intOf];omega
  ·have a3:j=N:=ω
   have Q:=ac (show ncs (bs.take j) (Xs.take j)=ncs bs Xs by rw[aU (by rw[a.out];omega),aU (by rw[f.out];omega)])
   go_wp2_with fail
   go_ret;exact⟨_,rfl,by rw[<-Q.out];exact ho.out,i.out⟩
end
section
open Go.ChangeShapes Go.WideShapes Go.ChangeAt Go.RowKit Go.Sort
attribute [local go_sem] ah
variable {w:ae}
theorem jS.empty {W:ae} (a:Ext w W):jS w (W.alloc (.cells #[] 106)) (.slice (some ⟨W.heap.size,0,none⟩) 0 0) []:=
 ⟨rfl,.inr ⟨W.heap.size,0,#[],rfl,a.size,aI W _,am _,by unfold maxLen;omega,rfl,rfl⟩⟩
theorem RZ (A:Option Addr) (n cap:Nat) (l:List It) (w:ae) (hv:ItS w A l) (hn:l.length=n) (K:n<=40000000):
  aO pg 100 #[.slice A n cap] w (Xj w l):=by
 have J:∀(W:ae) (a:Option Addr) (n c f j:Nat),(binOp .eql 67 (.slice a n c) (.slice none f j)).run pg W= .ok (.bool a.isNone) W:=λW a n c f j=>Lib.run_eql_slice_nil W _ _ a n c f j underlying67
 cases A with
 |none=>
  have I:l=[]:=by
   cases l with
   |nil=>rfl
   |cons x l=>obtain⟨b,o,e,_⟩:=hv (by simp[flat,encI]);cases e
  subst I;go_enter func100,ntmps100;go_wp2;go_ret;exact⟨_,rfl,jS.nil _ _,Ext.refl _⟩
 |some a=>
  have q:=(Ext.refl w).alloc (.cells #[] 106);have i:=hv.ext q;have H:=jS.empty (Ext.refl w);go_enter func100,ntmps100
  go_wp2_with(at_builtin;refine kK (w0:=w) rfl (.tmp 5) (.tmp 6) rfl _ [] rfl H q (some a) n cap l rfl hn i (by simp only[aG];omega) ?_)
  intro u w3 z x3 M _;go_wp2;go_ret;exact⟨u,rfl,z,x3⟩
theorem WK (a b c d:Int) (w:ae):aO pg 61 #[idv a b,idv c d] w λe w'=>e= .returned (Vi (mK a b c d))/\∃os,w'=grow w os:=by
 by_cases h:a=c
 ·subst h
  go_enter func61,ntmps61
  go_wp2_with(go_at_call 94;refine(nQ _ _ _).mono ?_;rintro e w' ⟨rfl,rfl⟩)
  go_ret;exact⟨by simp[mK],_,by rw[eH,eH,grow_grow]⟩
 ·have f:(a !=c)=true:=by simpa using h
  go_enter func61,ntmps61
  go_wp2_with(go_at_call 94;refine(nQ _ _ _).mono ?_;rintro e w' ⟨rfl,rfl⟩)
  go_ret;exact⟨by simp[mK,h],_,by rw[eH,eH,grow_grow]⟩
def RV (x y:It):Int:=mK x.c x.k y.c y.k
theorem Fz (x y:It):decide (RV x y<0)=ltI (iid x) (iid y):=by
 unfold RV mK rP ltI iid;rw[Bool.eq_iff_iff,decide_eq_true_eq,decide_eq_true_eq];simp only
 (repeat' split) <;> omega
theorem aag:SWO (ltOf RV) where
 irrefl x:=by unfold ltOf;rw[Fz];simp[ltI]
 trans x y z h1 h2:=by
  unfold ltOf at h1 h2⊢;rw[Fz] at h1 h2⊢;unfold ltI iid at h1 h2⊢;rw[decide_eq_true_eq] at h1 h2⊢;simp only at h1 h2⊢;omega
 ntrans x y z h1 h2:=by
  unfold ltOf at h1 h2⊢;rw[Fz] at h1 h2⊢;unfold ltI iid at h1 h2⊢;rw[decide_eq_false_iff_not] at h1 h2⊢;simp only at h1 h2⊢;omega
theorem RU (x y:It) (w:ae):aO pg 102 #[itv x,itv y] w λe w'=>e= .returned (Vi (RV x y))/\∃q f,w'=grow (w.drewN q) f:=by
 obtain⟨r,i⟩:∃r,RV x y=r:=⟨_,rfl⟩;rw[i];have j:=ac (λW=>WK x.c x.k y.c y.k W);have a:mK x.c x.k y.c y.k=r:=i;rw[a] at j;clear i a;go_enter func102,ntmps102
 go_wp2_with fail
 refine(j.out _).mono ?_;rintro e u ⟨rfl,os,rfl⟩
 go_wp2_with fail
 go_ret;exact⟨rfl,0,_,by rw[eH,eH,grow_grow,grow_grow];rfl⟩
instance:Inhabited It:=⟨⟨0,0,0,0,0,0,0⟩⟩
theorem Ib (d:Array It) (j:Nat) (i:j<d.size*7):(flat encI d.toList)[j]? =some (flatK encI 7 d)[j]! :=by
 have f:j/7<d.size:=ω
 have q:d.toList[j/7]? =some d[j/7]! :=by
  rw[aP,getElem!_pos d (j/7) f];exact dl f
 have e:j=j/7*7+j%7:=ω
 rw[get_flatK _ _ _ _ i]
 conv=>lhs;rw[e]
 rw[Fp nU q ω];have a:j%7<(encI d[j/7]!).length:=by rw[nU];omega
 rw[getElem!_pos (encI d[j/7]!) (j%7) a];exact ay a
theorem Rx (d:Array It):(flatK encI 7 d).toList=flat encI d.toList:=by
 apply iK;intro j;by_cases a:j<d.size*7
 ·rw[Ib d j a,aP,getElem!_pos _ j (by simpa using a)]
  exact dl _
 ·rw[cU (by simpa using a),cU (by rw[jR nU];simpa using a)]
theorem Nn (d:Array au) (c:Array au) (h:d.size<=c.size):(putCells id 0 d c).toList.take d.size=d.toList:=by
 apply iK;intro j;rw[cj];by_cases a:j<d.size
 ·rw[if_pos a,aP,aP]
  simp only[putCells,Array.getElem?_mapIdx];rw[dl (show j<c.size by omega),dl a];simp[a]
 ·rw[if_neg a,aP,fI ω]
theorem Q9 {base g cap:Nat} {r:List It} (h:w.ownsRow base 106 7 (.slice (some ⟨g,0,none⟩) r.length cap) r.length (flat encI r)):HoldsK encI 7 w g 0 r.toArray:=by
 intro j e;have a:j<r.length*7:=by simpa using e
 have i:=h.cellAt j a;have f:=Ib r.toArray j (by simpa using a);rw[aW];refine⟨?_,h.frozenAt j⟩;rw[i];exact f
theorem jS.sorted {w0:ae} {g cap:Nat} {l:List It} (h:jS w0 w (.slice (some ⟨g,0,none⟩) l.length cap) l) (q:Nat) (d:Array It) (os:Array Obj) (i:d.size=l.length):jS w0 (sortWorldK encI 7 w g 0 q d os) (.slice (some ⟨g,0,none⟩) l.length cap) d.toList:=by
 rcases h.2 with⟨h0,_⟩|⟨g',cap',cur,e,hbase,hgb,r1,r2,r3,r4⟩
 ·cases h0
 ·injection e with e1 e2 e3
  injection e1 with e1;injection e1 with e1;subst e1;subst e3;have f:g<w.heap.size:=(an.1 hgb).1;have j:(sortWorldK encI 7 w g 0 q d os).heap[g]? =some (.cells (putCells id 0 (flatK encI 7 d) cur) 106 (0,0)):=by
   unfold sortWorldK putRowK;rw[heap_grow_old _ _ (by rw[size_putRow];exact f)];simp[putRow,mapBlock,Sort.ahead,cL,hgb,onCells]
  have a:d.toList.length=l.length:=by simpa using i
  refine⟨by rw[a,jR nU,a],.inr ⟨g,cap,_,by rw[a],hbase,j,by rw[a];exact r1,r2,by simp[putCells,r3],?_⟩⟩;have:=Nn (flatK encI 7 d) cur (by rw[size_flatK,r3,i];omega);rw[size_flatK,i] at this;rw[a,this,Rx]
theorem Qi (w:ae) (g q:Nat) (d:Array It) (os:Array Obj):TSb (λb=>b=g) w (sortWorldK encI 7 w g 0 q d os):=by
 have a:TSb (λb=>b=g) w (putRowK encI 7 (Sort.ahead w q) g 0 d):=by
  refine⟨rfl,rfl,rfl,?_,λk f hn=>?_⟩
  ·unfold putRowK;rw[size_putRow];exact am _
  ·unfold putRowK putRow mapBlock
   show(w.heap.modify g _)[k]? =w.heap[k]?;rw[cL,if_neg (λe=>hn e.symm)]
 exact a.trans (TSb.ext (S:=λb=>b=g) (Ext.jv _ _ os)) (λ_ _ e=>e)
theorem UH (w0 w:ae) (v:au) (l:List It) (h:jS w0 w v l) (X:l.length<=400000):
  aO pg 101 #[v,.func (.func 102) #[] #[]] w λe w'=>
   e= .returned (.tuple #[])/\∃z:List It,z.Perm l/\z.Pairwise (λs t=>ltI (iid t) (iid s)=false)/\jS w0 w' v z/\TSb (λb=>v.ownBlock=some b) w w':=by
 obtain⟨A,c,rfl,W,_⟩:=h.open;cases l with
 |nil=>
  refine(AnyF.slices_SortFunc_none Tryz.sortIt A c _ w).mono ?_;rintro e w' ⟨I,rfl⟩;exact⟨I,[],.refl _,.nil,h,TSb.refl _ _⟩
 |cons x r=>
  obtain⟨g,rfl⟩:∃g,A=some ⟨g,0,none⟩:=by
   rcases h.2 with⟨h0,_⟩|⟨g',cap',cur,e,_⟩
   ·cases h0
   ·injection e with e1 e2 e3
    exact⟨g',e1⟩
  have O:g<w.heap.size:=(jS.lt h g rfl).2;generalize x::r=l at*;have U:∀args w,(callFunc 102 args).run pg w= .ok (.enter 102 args) w:=enters_of func102 κ rfl;have Q:=Q9 h;have u:CmpLays pg 102 #[] encI 7 RV g 0 l.toArray.size w:=λ_ _ _ _ x y=>RU x y _
  have q:=AnyQ.slices_SortFunc Tryz.sortIt 7 isAgg106 sizeOf106 encI nU Ii RV aag 102 #[] g 0 c l.toArray w U u Q O (by simp;omega);refine Calls.mono q ?_;rintro e w' ⟨I,f,n,os,J,N,M⟩;subst M;have a:f.size=l.length:=by have:=J.1;simpa using this
  refine⟨I,f.toList,?_,?_,jS.sorted h n f os a,xM (Qi w g n f os) (λj _ e=>by rw[e];rfl)⟩
  ·have:=J.2.2
   have e:List.take f.size l=l:=aU ω;simpa[<-a,e] using this
  ·rw[List.pairwise_iff_getElem]
   intro i j hi K H;have:=N i j (bN _) H (by simpa[<-a] using K);unfold ltOf at this;rw[Fz] at this;rw[getElem!_pos f j (by simpa using K),getElem!_pos f i (by simpa using hi)] at this;simpa using this
end
section
open Go.ChangeShapes Go.WideShapes Go.ChangeAt Go.RowKit Go.Sort Go.Maps
structure NewAt (w:ae) (A:Option Addr) (n cap m:Nat) (L:List It) (T bS bW:Nat) (vX vC:au) (wx:ae):Prop where
 ext:Ext w wx
 tb:wx.heap[T]? =some (.cells #[.slice A n cap,.map (some bS),vX,vC,.slice none 0 0,.slice none 0 0,.map (some bW)] 160 (0,0))
 sS:wx.heap[bS]? =some (.map #[] 0)
 sW:wx.heap[bW]? =some (.map #[] 0)
 ne:bS≠bW
 lS:w.heap.size<=bS
 lW:w.heap.size<=bW
 lT:w.heap.size<=T
 its:jS w wx vX L
 came:∃q,vC= .slice (some ⟨q,0,none⟩) m m/\w.heap.size<=q/\wx.heap[q]? =some (.cells (ff #[.bool false] m) 4 (0,0))
theorem heap_drew (W:ae):W.drew.heap=W.heap:=rfl
theorem nH (W:ae) (o:Obj):(W.alloc o).heap.size=W.heap.size+1:=ι
theorem rJ (W:ae) (o:Obj) (k:Nat):(W.alloc o).heap[k]? =if k=W.heap.size then some o else W.heap[k]? :=by
 by_cases h:k=W.heap.size
 ·subst h
  rw[if_pos rfl];exact aI W o
 ·rw[if_neg h]
  rcases Nat.lt_or_ge k W.heap.size with a|a
  ·exact av ((Ext.refl W).alloc o) k a
  ·rw[fI a,fI (by rw[nH];omega)]
theorem YI {w w3 a:ae} {A:Option Addr} {n cap m:Nat} {L:List It} {T bS bW:Nat} {vX vC:au} (e:Ext w3 a) (k:Ext w3 a->NewAt w A n cap m L T bS bW vX vC a):NewAt w A n cap m L T bS bW vX vC a:=k e
theorem FlB (m:Nat):(ff #[.bool false] m).toList=(dr m false).map Value.bool:=by
 simp[ff,Nat.mod_one,List.map_const']
theorem Ry (m:Nat):(ff #[.bool false] m).toList.take (m*1)=(dr m false).map Value.bool:=by
 have h:=FlB m;rw[Nat.mul_one,aU (by simp[ff])];exact h
theorem NewAt.state {w:ae} {A:Option Addr} {n cap m:Nat} {L:List It} {T bS bW:Nat} {vX vC:au} {M:ae} (h:NewAt w A n cap m L T bS bW vX vC M) {V:List I2} (hv:Vec w A V) {Q:ae} {L':List It} (hI:jS w Q vX L')
  (u:TSb (λb=>vX.ownBlock=some b) M Q) (f:m<=40000000):
  ∃g,TkS w Q T A n cap V V L' (dr m false) [] [] g/\g.Wt=[]/\g.vX=vX:=by
 obtain⟨q,eC,hq,z⟩:=h.came;subst eC;have hX:∀b,vX.ownBlock=some b->∃K,M.heap[b]? =some (.cells K 106 (0,0)):=by
  intro b f;rcases h.its.2 with⟨e,_⟩|⟨g,cap,K,e,_,hgb,_⟩
  ·rw[e] at f;cases f
  ·rw[e] at f
   injection f with f;subst f;exact⟨K,hgb⟩
 have Z:bS≠T:=λe=>by have i:=h.tb;rw[<-e,h.sS] at i;cases i
 have Y:bW≠T:=λe=>by have i:=h.tb;rw[<-e,h.sW] at i;cases i
 have N:∀b,vX.ownBlock=some b->b≠T/\b≠bS/\b≠bW/\b≠q:=λb f=>by
  obtain⟨K,j⟩:=hX b f;refine⟨λe=>?_,λe=>?_,λe=>?_,λe=>?_⟩
  ·rw[e,h.tb] at j
   injection j with j;injection j with _ j;exact absurd j δ
  ·rw[e,h.sS] at j;cases j
  ·rw[e,h.sW] at j;cases j
  ·rw[e,z] at j
   injection j with j;injection j with _ j;exact absurd j δ
 have W:q≠T:=λe=>by
  have i:=h.tb;rw[<-e,z] at i;injection i with i;injection i with _ i;exact absurd i δ
 have X:q≠bS:=λe=>by have i:=h.sS;rw[<-e,z] at i;cases i
 have U:q≠bW:=λe=>by have i:=h.sW;rw[<-e,z] at i;cases i
 have a0:MapU M bS 0 (.map []):=by
  obtain⟨es,a1,I,F,hs,hD⟩:=World.ownsMap_made w pg 30 (plainElem (H:=Unit) pg 30);rw[aI] at I;injection I with I;injection I with e1 e2;subst e1 e2;exact⟨#[],0,h.sS,F,hs,hD⟩
 let g:TkV:=⟨bS,bW,vX,.slice (some ⟨q,0,none⟩) m m,.slice none 0 0,.slice none 0 0,[],λb=>if b=T then .t else if b=bS then .s else if b=bW then .m else if vX.ownBlock=some b then .x else .c⟩
 have O:∀b,vX.ownBlock=some b->g.tg b= .x:=λb f=>by
  obtain⟨i,h2,h3,_⟩:=N b f;show(if b=T then Tg.t else if b=bS then .s else if b=bW then .m else if vX.ownBlock=some b then .x else .c)= .x;rw[if_neg i,if_neg h2,if_neg h3,if_pos f]
 have J:TkS w M T A n cap V V L (dr m false) [] [] g:={
  tb:=h.tb,vec:=hv,kn:=⟨0,.map [],am _,a0,QN V⟩,its:=h.its,
  came:=⟨ι,.inr ⟨q,m,_,by simp[g],hq,z,ι,by unfold maxLen;omega,by simp[ff],by rw[List.length_replicate];exact Ry m⟩⟩,
  come:=jS.nil _ _,ready:=kY.nil _ _,wm:=⟨#[],0,h.sW,rfl,eR,ι⟩,wl:=λt u=>(by cases u),keys:=List.nodup_nil,low:=h.ext,
  gT:=if_pos rfl,
  gS:=(by show(if bS=T then Tg.t else if bS=bS then .s else if bS=bW then .m else if vX.ownBlock=some bS then .x else .c)= .s;rw[if_neg Z,if_pos rfl]),
  gM:=(by show(if bW=T then Tg.t else if bW=bS then .s else if bW=bW then .m else if vX.ownBlock=some bW then .x else .c)= .m;rw[if_neg Y,if_neg (λe=>h.ne e.symm),if_pos rfl]),
  gX:=O,
  gC:=λb f=>(by
   injection f with f;subst f;show(if q=T then Tg.t else if q=bS then .s else if q=bW then .m else if vX.ownBlock=some q then .x else .c)= .c;rw[if_neg W,if_neg X,if_neg U,if_neg (λe=>(N q e).2.2.2 rfl)]),
  go:=λb f=>(by cases f),gr:=λb f=>(by cases f),gw:=λt u=>(by cases u),bT:=h.lT,bbS:=h.lS,bbW:=h.lW }
 have hS:∀b,vX.ownBlock=some b->g.tg b= .x:=O;refine⟨g,{ J with tb:=J.tbT u (λb f e=>?_),kn:=J.knT u (λb f e=>?_),its:=hI,came:=J.Iw u (λb f e=>?_),come:=J.Ip u (λb f e=>?_),ready:=J.zX u (λb f e=>?_),wm:=J.wmT u (λb f e=>?_),wl:=J.wlT u (λb f a e=>?_),low:=J.QT u (λb f=>(jS.lt h.its b f).1) },rfl,rfl⟩
 all_goals(rw[hS b f] at e;cases e)
def EO (j:Nat):List Int:=(fQ j).map λi:Nat=>(i:Int)
theorem Yn (j:Nat):EO (j+1)=EO j++[(j:Int)]:=by unfold EO;rw[List.range_succ,dX];rfl
theorem abe {j:Nat} {k:Int} (h:k∈EO j):∃i:Nat,k=i/\i<j:=by
 obtain⟨i,e,a⟩:=cG.1 h;exact⟨i,a.symm,List.mem_range.1 e⟩
theorem Ti:∀(m k:Nat),nci k (dr m false)=(fQ m).map λi:Nat=>((k+i:Nat):Int)
 |0,k=>rfl
 |m+1,k=>by
  rw[List.replicate_succ,nci,if_neg ι,Ti m (k+1),List.range_succ_eq_map,bA,du]
  congr 1
  refine bY λi _=>?_
  simp only[fv];omega
theorem LD:∀(L:List It),ncs (dr L.length false) L=L
 |[]=>rfl
 |x::L=>by
  rw[ar,List.replicate_succ,ncs,if_neg ι,LD L]
theorem Ql {V:List I2} {Xs:List It} (hm:jB 0 V=true) (h:∀x∈Xs,okW x/\jq V x.c<=x.k):IE V Xs (dr Xs.length false) (nL V Xs (EO Xs.length) ([],[])).1 (nL V Xs (EO Xs.length) ([],[])).2:=by
 obtain⟨q,j⟩:=yU.all (V:=V) (Xs:=Xs) (EO Xs.length) (s:=([],[])) (yU.none V Xs) (λk f=>by
  obtain⟨i,rfl,hi⟩:=abe f;have a:=h Xs[i] (List.getElem_mem hi);have:=a.1.2.2.2;exact⟨Xs[i],by rw[bJ];exact ay hi,nO _ hm,a.2,ω⟩)
 refine⟨q,ι,?_,λi x _ a=>(h x (aD a)).2,hm⟩;rw[Ti];have e:(fQ Xs.length).map (λi:Nat=>((0+i:Nat):Int))=EO Xs.length:=by
  unfold EO;refine bY λi _=>?_
  omega
 rw[e];simpa[nD] using j
theorem UF {L e:List It} (j:oL L) (i:e.Perm L) (u:e.Pairwise λs t=>ltI (iid t) (iid s)=false):e=vG [] L:=by
 have f:=qR i.symm j;have a:oV e:=(u.and f).imp λ{s t} h=>by
  obtain⟨q,z⟩:=h;unfold ltI at q⊢;rw[decide_eq_false_iff_not] at q;rw[decide_eq_true_eq];by_cases I:(iid s).1=(iid t).1
  ·by_cases H:(iid s).2=(iid t).2
   ·exact absurd (Prod.ext I H) z
   ·omega
  ·omega
 refine NV a (C9 .nil (by simpa using j)) λx=>?_
 rw[(vE L []).mem_iff,i.mem_iff];simp
end
section
open Go.ChangeShapes Go.WideShapes Go.ChangeAt Go.RowKit Go.Sort Go.Maps
attribute [local go_sem] ah
theorem VQ:(pg.info? 4).map (λi=>(i.zero,i.size,i.bytes))=some (some (.bool false),1,1):=κ
theorem QS (c:Int) (n:Nat) (q:c=n) (hn:n<=40000000) (W:ae):(Instr.makeSlice 156 (.int .i64 c) (.int .i64 c)).run pg W= .ok (.slice (some ⟨W.heap.size,0,none⟩) n n) (W.alloc (.cells (ff #[.bool false] n) 4)):=by
 subst q;obtain⟨i,hi,f,e,a⟩:=info_parts VQ;have j:=run_make (P:=pg) W 156 4 i _ underlying156 hi f .i64 .i64 (n:Int) (n:Int) ω ω (by rw[a];omega) ω;rw[e,Nat.mul_one] at j;exact j
def aaI (w:ae) (T:Nat) (A:Option Addr) (n cap m:Nat) (V:List I2) (Xs:List It) (e:au) (wr:ae):Prop:=
 ∃(j:Nat) (g:TkV) (a:List Int),j<=m/\e= .int .i64 (j:Nat)/\Hid (TkS w wr T A n cap V V Xs (dr m false) [] a g)/\Hid ((plW g.Wt,a)=nL V Xs (EO j) ([],[]))/\Hid (a.length+nW (plW g.Wt)=j)
def agQ (w:ae) (A:Option Addr) (n cap:Nat) (V:List I2) (Xs:List It) (e:Ending) (w':ae):Prop:=
 ∃(T:Nat) (g:TkV) (a:List Int),e= .returned (.pointer (some ⟨T,0,none⟩))/\TkS w w' T A n cap V V Xs (dr Xs.length false) [] a g/\(plW g.Wt,a)=nL V Xs (EO Xs.length) ([],[])
theorem YH (A B:Option Addr) (n cap m WT:Nat) (V:List I2) (L:List It) (w:ae) (hv:Vec w A V) (hn:V.length=n) (a8:n<=400000) (b0:jB 0 V=true) (hL:ItS w B L) (hm:L.length=m) (hb:m<=400000) (H:oL L) (u:∀x∈L,wfI x):
  aO pg 67 #[.slice A n cap,.slice B m WT] w (agQ w A n cap V (vG [] L)):=by
 have a4:=ac (λ(W:ae) (K:Ext w W)=>RZ B m WT L W (hL.ext K) hm ω);have b2:=λW:ae=>run_makeMap (P:=pg) 153 W
 have b1:=λW:ae=>run_makeMap (P:=pg) 158 W
 have a9:=QS (m:Int) m rfl ω;replace hm:=ac hm;replace hn:=ac hn;replace hv:=ac hv;replace hL:=ac hL;replace H:=ac H;replace u:=ac u;go_enter func67,ntmps67
 go_upto_region 1 with fail
 go_cut [5,8,11,14,15] (λs a b c d wx=>∃T bS bW,s= .pointer (some ⟨T,0,none⟩)/\a= .map (some bS)/\d= .map (some bW)/\Hid (NewAt w A n cap m L T bS bW b c wx))
 case first=>
  clear H u hv hn
  go_region_with(go_at_call 100;refine(a4.out _ ?_).mono ?_;(first|exact((Ext.refl w).drew)|exact(((Ext.refl w).alloc _).drew)|exact((((Ext.refl w).alloc _).alloc _).drew)|exact(((((Ext.refl w).alloc _).alloc _).alloc _).drew));rintro e w3 ⟨v3,rfl,o3,x3⟩;obtain⟨A3,c3,rfl,d5,_⟩:=o3.open;have s3:=x3.size;simp at s3)
  all_goals
   go_wp2_with fail
   go_meet;refine⟨_,_,_,rfl,rfl,rfl,ac (YI (w3:=w3) ?_ (λi=>?_))⟩
   · (repeat(first|exact Ext.refl _|(with_reducible refine Ext.drew ?_)|(with_reducible refine Ext.alloc ?_ _)))
   ·have y1:=Ext.trans (a:=w) (by(repeat(first|exact Ext.refl _|(with_reducible refine Ext.drew ?_)|(with_reducible refine Ext.alloc ?_ _)))) x3
    have b7:=y1.size;exact⟨y1.trans i,(by(first|(simp only[heap_drew,rJ,nH,if_true];(repeat(rw[if_neg ω];try simp only[if_true]));done)|exact(av i _ (by first|omega|(simp;omega))).trans ((av x3 _ (by simp only[heap_drew,nH];omega)).trans (by simp only[heap_drew,rJ,nH,if_true];(repeat(rw[if_neg ω];try simp only[if_true])))))),(by(first|(simp only[heap_drew,rJ,nH,if_true];(repeat(rw[if_neg ω];try simp only[if_true]));done)|exact(av i _ (by first|omega|(simp;omega))).trans ((av x3 _ (by simp only[heap_drew,nH];omega)).trans (by simp only[heap_drew,rJ,nH,if_true];(repeat(rw[if_neg ω];try simp only[if_true])))))),(by(first|(simp only[heap_drew,rJ,nH,if_true];(repeat(rw[if_neg ω];try simp only[if_true]));done)|exact(av i _ (by first|omega|(simp;omega))).trans ((av x3 _ (by simp only[heap_drew,nH];omega)).trans (by simp only[heap_drew,rJ,nH,if_true];(repeat(rw[if_neg ω];try simp only[if_true])))))),ω,ω,ω,ω,(jS.down o3 (by(repeat(first|exact Ext.refl _|(with_reducible refine Ext.drew ?_)|(with_reducible refine Ext.alloc ?_ _))))).ext i,⟨_,rfl,ω,(by(first|(simp only[heap_drew,rJ,nH,if_true];(repeat(rw[if_neg ω];try simp only[if_true]));done)|exact(av i _ (by first|omega|(simp;omega))).trans ((av x3 _ (by simp only[heap_drew,nH];omega)).trans (by simp only[heap_drew,rJ,nH,if_true];(repeat(rw[if_neg ω];try simp only[if_true]))))))⟩⟩
 case rest=>
  obtain⟨T,bS,bW,rfl,rfl,rfl,f⟩:=hcut;have a5:TB wc T #[.slice A n cap,.map (some bS),u11,u14,.slice none 0 0,.slice none 0 0,.map (some bW)]:=f.out.tb;have t2:wc.cell? ⟨T,2,none⟩=some u11:=a5.cell rfl;have z:=ac (UH w wc _ L f.out.its (by have:=hm.out;omega));have b9:u11.ownBlock≠some T:=λe=>by
   rcases f.out.its.2 with⟨e2,_⟩|⟨g9,aiL,cur,e2,_,hgb,_⟩
   ·rw[e2] at e;cases e
   ·rw[e2] at e
    injection e with e;have U:=f.out.tb;rw[<-e,hgb] at U;injection U with U;injection U with _ U;exact absurd U δ
  obtain⟨AX,cX,eX,_,_⟩:=f.out.its.open;rw[hm.out] at eX;subst eX;clear a4 b2 b1 a9
  go_wp2_with fail
  refine z.out.mono ?_;rintro e w2 ⟨rfl,L',hp,hr,hI,ht⟩;obtain⟨g0,hg,N,a3⟩:=f.out.state hv.out hI ht ω;have b5:=UF H.out hp hr;subst b5;obtain⟨Xs,I⟩:∃Xs,vG [] L=Xs:=⟨_,rfl⟩;rw[I] at hg hp;replace I:=ac I;have q:Xs.length=m:=by rw[hp.length_eq];exact hm.out
  have X:∀x∈Xs,wfI x:=λx K=>u.out x (hp.mem_iff.1 K)
  have b8:w2.cell? ⟨T,2,none⟩=some (.slice AX m cX):=by rw[<-a3];exact hg.tb.cell rfl
  have Y:Hid (aaI w T A n cap m V Xs (.int .i64 0) w2):=ac ⟨0,g0,[],bN _,rfl,ac hg,ac (by rw[N];rfl),ac (by rw[N];rfl)⟩;replace X:=ac X;replace q:=ac q;clear hg N a3 hI ht hr z f a5 hp u H t2
  go_wp2_with fail
  go_loopw [28] (aaI w T A n cap m V Xs) (λvi _=>m-(intOf vi).toNat)
  case atStart=>exact Y.out
  case round=>
   clear Y;obtain⟨j,g,hs,d1,rfl,O,a1,M⟩:=hrel;by_cases a2:j<m
   ·obtain⟨x,K⟩:∃x,Xs[j]? =some x:=⟨Xs[j]'(by rw[q.out];exact a2),ay _⟩
    have Z:∀t∈g.Wt,t.2.2.length<=400000:=λt ht=>by
     have U:t.2.2.length<=nW (plW g.Wt):=Nu (p:=plW g.Wt) (t:=(t.1,t.2.2)) (cG.2 ⟨t,ht,rfl⟩);have:=M.out;omega
    have b6:=ac (Ul w wr T A n cap V V Xs (dr m false) [] hs g j x O.out hn.out b0 a8 K (by rw[q.out];exact hb) (X.out x (aD K)) (by have:=M.out;omega) Z);have a7:=ac (yQ V Xs (EO j) (j:Int) ([],[]) x (by rw[bJ];exact K));have a6:=ac (Uk V x (j:Int) (p:=plW g.Wt) hs (by rw[Gj];exact O.out.keys));have BQ:=ac a2;have d4:(0:Int)<=(j:Int):=ω
    have d3:(j:Int)<(m:Int):=ω
    have d2:(j:Int)<400000:=ω
    clear Z K
    go_wp2_with fail
    refine b6.out.mono ?_;rintro e w' ⟨rfl,g',a0,Q,b4,J⟩;replace Q:=ac Q;replace J:=ac J;clear b4;go_wp2
    go_roundw
    case rel=>
     refine⟨j+1,g',a0,BQ.out,ν,Q,ac ?_,ac ?_⟩
     ·rw[Yn,a7.out,<-a1.out];exact J.out
     ·have h9:=a6.out
      rw[<-J.out] at h9;have h8:=M.out;have d6:a0.length+nW (plW g'.Wt)=hs.length+nW (plW g.Wt)+1:=h9;omega
    case measure=>have:=BQ.out;simp[intOf];omega
   ·have b3:j=m:=ω
    subst b3
    go_wp2_with fail
    go_ret;refine⟨T,g,hs,rfl,?_,?_⟩
    ·rw[I.out,q.out];exact O.out
    ·rw[I.out,q.out];exact a1.out
end
section
open Go.ChangeShapes Go.WideShapes Go.ChangeAt Go.RowKit Go.Sort
theorem UZ (w0:ae) (blk off cap a b N:Nat) (d:Array Int) (w:ae) (R:RoU w0 blk off N) (S:SWu w0 blk off N d w) (Q:a<b) (X:b<=N) (J:N<=400000000):
  aO pg 200 #[.slice (some ⟨blk,off,none⟩) N cap,.int .i64 a,.int .i64 b] w λe w'=>e= .returned (.tuple #[])/\SWu w0 blk off N (reverseRange d a b) w':=by
 replace S:=ac S;go_enter func200,ntmps200;go_wp2
 go_loopw [6,7] (λu I wr=>∃(i j:Nat) (q:Array Int),u= .int .i64 i/\I= .int .i64 j/\i<=j+2/\i<=N/\j<N/\Hid (SWu w0 blk off N q wr)/\Hid (jk i j q=jk a (b-1) d)) (λu _ _=>N-(intOf u).toNat)
 case atStart=>exact⟨a,b-1,d,ν,by congr 1;omega,ω,ω,ω,S,ac rfl⟩
 case round=>
  clear S;obtain⟨i,j,q,rfl,rfl,K,hi,W,z,H⟩:=hrel;obtain⟨G,U,O,M⟩:=R.fam z.out;by_cases f:i<j
  ·go_wp2_with fail
   go_region
   all_goals go_wp2
   go_roundw
   case rel=>
        refine⟨i+1,j-1,swp q i j,ν,by congr 1;omega,ω,ω,ω,?_,?_⟩
        ·exact ac (z.out.FM R U _ i j ω ω)
        ·exact ac (by rw[<-H.out];conv=>rhs;rw[jk,if_pos f])
   case measure=>simp[intOf];omega
  ·go_wp2
   go_end0
   exact⟨rfl,by unfold reverseRange;rw[<-H.out,jk,if_neg f];exact z.out⟩
theorem FT (w0:ae) (blk off cap lo hi first N:Nat) (d:Array Int) (w:ae) (R:RoU w0 blk off N) (S:SWu w0 blk off N d w) (W:lo<=hi) (hb:first+hi<=N) (X:N<=400000000):
  aO pg 215 #[.slice (some ⟨blk,off,none⟩) N cap,.int .i64 lo,.int .i64 hi,.int .i64 first] w λe w'=>e= .returned (.tuple #[])/\SWu w0 blk off N (dT aZ hi first lo d) w':=by
 replace S:=ac S;go_enter func215,ntmps215;go_wp2
 go_loopw [8] (λU wr=>∃(root:Nat) (f:Array Int),U= .int .i64 root/\root<=hi/\Hid (SWu w0 blk off N f wr)/\Hid (dT aZ hi first root f=dT aZ hi first lo d)) (λU _=>hi-(intOf U).toNat)
 case atStart=>exact⟨lo,d,rfl,W,S,ac rfl⟩
 case round=>
  clear S;obtain⟨root,f,rfl,hr,H,I⟩:=hrel;obtain⟨G,a,j,i⟩:=R.fam H.out;by_cases h0:hi<=2*root+1
  ·go_wp2
   go_end0
   exact⟨rfl,by rw[<-I.out,sd_end aZ f h0];exact H.out⟩
  ·have Z:¬((hi:Int)<=2*(root:Int)+1):=ω
   by_cases Q:2*root+2<hi
   ·have O:2*(root:Int)+1+1<(hi:Int):=ω
    go_wp2_with fail
    go_big_quiet(first|(go_at_call 202;refine kR _ _ _ _))
    go_wp2_with fail
    ·have K:aZ f[first+(2*root+1)]! f[first+(2*root+2)]! =true:=by rw[<-a.out,<-a.out];assumption
     have q:=ac (H.out.drewN nq);clear H j i;clear a;generalize wr.drewN nq=u at q⊢;clear nq;obtain⟨G,a,j,i⟩:=R.fam q.out
     go_big_quiet(first|(go_at_call 202;refine kR _ _ _ _))
     go_wp2_with fail
     ·have hS:aZ f[first+root]! f[first+(2*root+2)]! =false:=by
       have:(!ltInt (G (first+root)) (G (first+(2*root+2))))=true:=by assumption
       rw[<-a.out,<-a.out];simpa using this
      (try simp only[fM,Exit.then]);refine aB (gR rfl _ _ _) rfl ?_
      exact⟨rfl,by rw[<-I.out,sd_right_stop aZ f Q K hS];exact q.out.drewN _⟩
     ·have M:aZ f[first+root]! f[first+(2*root+2)]! =true:=by
       have:(!ltInt (G (first+root)) (G (first+(2*root+2))))=false:=by assumption
       rw[<-a.out,<-a.out];simpa using this
      have z:=ac (q.out.drewN nq);clear q j i;clear a;generalize u.drewN nq=J at z⊢;clear nq;obtain⟨G,a,j,i⟩:=R.fam z.out
      go_region
      all_goals go_wp2
      go_roundw
      case rel=>exact⟨2*root+2,swp f (first+root) (first+(2*root+2)),by congr 1 <;> omega,ω,ac (SWu.FM R z.out a _ (first+root) (first+(2*root+2)) ω ω),ac (by rw[<-I.out,sd_right_go aZ f Q K M])⟩
      case measure=>simp[intOf];omega
    ·have K:aZ f[first+(2*root+1)]! f[first+(2*root+2)]! =false:=by rw[<-a.out,<-a.out];assumption
     have q:=ac (H.out.drewN nq);clear H j i;clear a;generalize wr.drewN nq=u at q⊢;clear nq;obtain⟨G,a,j,i⟩:=R.fam q.out
     go_big_quiet(first|(go_at_call 202;refine kR _ _ _ _))
     go_wp2_with fail
     ·have hS:aZ f[first+root]! f[first+(2*root+1)]! =false:=by
       have:(!ltInt (G (first+root)) (G (first+(2*root+1))))=true:=by assumption
       rw[<-a.out,<-a.out];simpa using this
      (try simp only[fM,Exit.then]);refine aB (gR rfl _ _ _) rfl ?_
      exact⟨rfl,by rw[<-I.out,sd_left_stop aZ f ω (λ_=>K) hS];exact q.out.drewN _⟩
     ·have M:aZ f[first+root]! f[first+(2*root+1)]! =true:=by
       have:(!ltInt (G (first+root)) (G (first+(2*root+1))))=false:=by assumption
       rw[<-a.out,<-a.out];simpa using this
      have z:=ac (q.out.drewN nq);clear q j i;clear a;generalize u.drewN nq=J at z⊢;clear nq;obtain⟨G,a,j,i⟩:=R.fam z.out
      go_region
      all_goals go_wp2
      go_roundw
      case rel=>exact⟨2*root+1,swp f (first+root) (first+(2*root+1)),by congr 1 <;> omega,ω,ac (SWu.FM R z.out a _ (first+root) (first+(2*root+1)) ω ω),ac (by rw[<-I.out,sd_left_go aZ f ω (λ_=>K) M])⟩
      case measure=>simp[intOf];omega
   ·have O:¬(2*(root:Int)+1+1<(hi:Int)):=ω
    have Y:decide (2*(root:Int)+1+1<(hi:Int))=false:=decide_eq_false O
    go_wp2_with fail
    go_big_quiet(first|(go_at_call 202;refine kR _ _ _ _))
    go_wp2_with fail
    have q:=ac (H.out.drewN nq);clear H j i;clear a;generalize wr.drewN nq=u at q⊢;clear nq;obtain⟨G,a,j,i⟩:=R.fam q.out
    go_big_quiet(first|(go_at_call 202;refine kR _ _ _ _))
    go_wp2_with fail
    ·have hS:aZ f[first+root]! f[first+(2*root+1)]! =false:=by
      have:(!ltInt (G (first+root)) (G (first+(2*root+1))))=true:=by assumption
      rw[<-a.out,<-a.out];simpa using this
     (try simp only[fM,Exit.then]);refine aB (gR rfl _ _ _) rfl ?_
     exact⟨rfl,by rw[<-I.out,sd_left_stop aZ f ω (λh=>absurd h Q) hS];exact q.out.drewN _⟩
    ·have M:aZ f[first+root]! f[first+(2*root+1)]! =true:=by
      have:(!ltInt (G (first+root)) (G (first+(2*root+1))))=false:=by assumption
      rw[<-a.out,<-a.out];simpa using this
     have z:=ac (q.out.drewN nq);clear q j i;clear a;generalize u.drewN nq=J at z⊢;clear nq;obtain⟨G,a,j,i⟩:=R.fam z.out
     go_region
     all_goals go_wp2
     go_roundw
     case rel=>exact⟨2*root+1,swp f (first+root) (first+(2*root+1)),by congr 1 <;> omega,ω,ac (SWu.FM R z.out a _ (first+root) (first+(2*root+1)) ω ω),ac (by rw[<-I.out,sd_left_go aZ f ω (λh=>absurd h Q) M])⟩
     case measure=>simp[intOf];omega
theorem O5 (w0:ae) (blk off cap a n N:Nat) (z:Int) (d:Array Int) (w:ae) (R:RoU w0 blk off N) (S:SWu w0 blk off N d w) (hz:z-(a:Int)=(n:Int)) (a0:1<=n) (hb:a+n<=N) (I:N<=400000000):
  aO pg 197 #[.slice (some ⟨blk,off,none⟩) N cap,.int .i64 a,.int .i64 z] w λe w'=>e= .returned (.tuple #[])/\SWu w0 blk off N (heapPop aZ a n (jl aZ n a ((n-1)/2+1) d)) w':=by
 replace S:=ac S;have K:((n:Int)-1)/2=(((n-1)/2+1:Nat):Int)-1:=ω
 replace K:=ac K;obtain⟨m,hm⟩:∃m,m=(n-1)/2+1:=⟨_,rfl⟩;have a1:m<=n:=ω
 rw[<-hm] at K⊢;clear hm;go_enter func197,ntmps197;go_wp2
 go_loopw [9] (λj wr=>∃(k:Nat) (f:Array Int),j= .int .i64 ((k:Int)-1)/\k<=n/\Hid (SWu w0 blk off N f wr)/\Hid (jl aZ n a k f=jl aZ n a m d)) (λj _=>(intOf j+1).toNat)
 case atStart=>exact⟨m,d,by rw[K.out],ω,S,ac rfl⟩
 case round=>
  clear S;obtain⟨k,f,rfl,hk,i,H⟩:=hrel;cases k with
  |zero=>
   have X:=ac (show f=jl aZ n a m d by rw[<-H.out];rfl);clear H;rw[show((0:Nat):Int)-1= -1 from rfl]
   go_wp2_with fail
   go_loopw [10] (λj O=>∃(k:Nat) (f:Array Int),j= .int .i64 ((k:Int)-1)/\k<=n/\Hid (SWu w0 blk off N f O)/\Hid (heapPop aZ a k f=heapPop aZ a n (jl aZ n a m d))) (λj _=>(intOf j+1).toNat)
   case atStart=>exact⟨n,f,by rfl,am _,i,ac (by rw[X.out])⟩
   case round=>
        clear i X;clear f;obtain⟨k,f,rfl,hk,i,H⟩:=hrel;cases k with
        |zero=>
         go_wp2
         go_end0
         exact⟨rfl,by rw[<-H.out];exact i.out⟩
        |succ k=>
         have M:((k+1:Nat):Int)-1=(k:Int):=ω
         rw[M];obtain⟨G,W,J,Q⟩:=R.fam i.out;obtain⟨u,U⟩:=DV J a (a+k) (.int .u32 (G (a+k))) ω ω;have Y:(0:Int)<=(a:Int)+(k:Int):=ω
         go_wp2_with fail
         go_region
         all_goals go_wp2_with fail
         refine(FT w0 blk off cap 0 k a N (swp f a (a+k)) _ R (SWu.xC R i.out W a (a+k) ω ω) ω ω I).mono ?_;rintro e Z ⟨rfl,q⟩;replace q:=ac q;clear i J Q U;clear W;go_wp2
         go_roundw
         case rel=>exact⟨k,dT aZ k a 0 (swp f a (a+k)),by rfl,ω,q,ac (by rw[<-H.out];rfl)⟩
         case measure=>simp[intOf]
  |succ k=>
   have M:((k+1:Nat):Int)-1=(k:Int):=ω
   rw[M]
   go_wp2_with fail
   refine(FT w0 blk off cap k n a N f _ R i.out ω ω I).mono ?_;rintro e Z ⟨rfl,q⟩;replace q:=ac q;clear i;go_wp2
   go_roundw
   case rel=>exact⟨k,dT aZ n a k f,by rfl,ω,q,ac (by rw[<-H.out];rfl)⟩
   case measure=>simp[intOf]
theorem Rk (w0:ae) (blk off cap a b N:Nat) (d:Array Int) (w:ae) (R:RoU w0 blk off N) (S:SWu w0 blk off N d w) (i:a<b) (j:b<=N) (f:N<=400000000):
  aO pg 197 #[.slice (some ⟨blk,off,none⟩) N cap,.int .i64 a,.int .i64 b] w λe w'=>e= .returned (.tuple #[])/\SWu w0 blk off N (heapSort aZ d a b) w':=
 O5 w0 blk off cap a (b-a) N b d w R S ω ω ω f
section
variable {p:Prop}
theorem aaq (h:p:=by
 clear S2;obtain⟨q,rfl,hq1,hq2,SQ,HQ⟩:=hrel;obtain⟨G,HG,hcw,hfw⟩:=R.fam SQ.out;by_cases hle:i2<=q
 ·have hd:decide ((i2:Int)<=(q:Int))=true:=decide_eq_true ω
  have hz:(i2:Int)<=(q:Int):=ω
  cases hl:aZ (G q) (G a) with
  |false=>
   go_wp2_with fail
   go_big_quiet(first|(go_at_call 202;refine kR _ _ _ _))
   go_wp2_with fail
   go_roundw
   case rel=>exact⟨q-1,by congr 1;omega,ω,ω,ac (SQ.out.drewN _),ac (by rw[<-HQ.out,<-scanDown_go _ _ _ _ hle ω (by rw[<-HG.out,<-HG.out,hl];rfl)])⟩
   case measure=>simp[intOf];omega
  |true=>
   go_wp2_with fail
   go_big_quiet(first|(go_at_call 202;refine kR _ _ _ _))
   go_wp2_with fail
   go_meet;exact⟨q,rfl,ac (by rw[<-HQ.out,scanDown_end _ _ _ _ (Or.inr (by rw[<-HG.out,<-HG.out,hl];rfl))]),hq1,hq2,ac (SQ.out.drewN _)⟩
 ·have hd:decide ((i2:Int)<=(q:Int))=false:=decide_eq_false ω
  have hz:¬(i2:Int)<=(q:Int):=ω
  go_wp2_with fail
  go_big_quiet(first|(go_at_call 202;refine kR _ _ _ _))
  go_wp2_with fail
  go_meet;exact⟨q,rfl,ac (by rw[<-HQ.out,scanDown_end _ _ _ _ (Or.inl hle)]),hq1,hq2,ac (SQ.out.drewN _)⟩):p:=h
theorem aap (h:p:=by
 go_wp2_with fail
 go_big_quiet(first|(go_at_call 202;refine kR _ _ _ _))
 go_wp2_with fail
 go_roundw
 case rel=>exact⟨p+1,ν,ω,ω,ac (SP.out.drewN _),ac (by rw[<-HP.out,<-scanUp_go _ _ _ _ hle (by rw[<-HG.out,<-HG.out,hl])])⟩
 case measure=>simp[intOf];omega):p:=h
theorem aao (h:p:=by
 go_wp2_with fail
 go_big_quiet(first|(go_at_call 202;refine kR _ _ _ _))
 go_wp2_with fail
 go_meet;exact⟨p,rfl,ac (by rw[<-HP.out,scanUp_end _ _ _ _ (Or.inr (by rw[<-HG.out,<-HG.out,hl]))]),hp1,hp2,ac (SP.out.drewN _)⟩):p:=h
theorem Oc (w0:ae) (blk off cap a b f N:Nat) (d:Array Int) (w:ae) (R:RoU w0 blk off N) (S:SWu w0 blk off N d w) (d4:a<=f) (d2:f<b) (hb:b<=N) (b9:N<=400000000):
  aO pg 204 #[.slice (some ⟨blk,off,none⟩) N cap,.int .i64 a,.int .i64 b,.int .i64 f] w λe w'=>e= .returned (.tuple #[.int .i64 ((jm aZ d a b f).1:Nat),.bool (jm aZ d a b f).2.1])/\SWu w0 blk off N (jm aZ d a b f).2.2 w':=by
 replace S:=ac S;obtain⟨Q,a8⟩:∃Q:Nat,Q=a+1:=⟨_,rfl⟩;obtain⟨I,a6⟩:∃I:Nat,I=b-1:=⟨_,rfl⟩;have b8:(a:Int)+1=(Q:Int):=ω
 have b6:(b:Int)-1=(I:Int):=ω
 have d9:a<Q:=ω
 have a3:Q<=I+1:=ω
 have d7:I<b:=ω
 obtain⟨J,U⟩:∃J,J=swp d a f:=⟨_,rfl⟩;obtain⟨T,hT⟩:∃T,T=jm aZ d a b f:=⟨_,rfl⟩;rw[<-hT];have HT:=ac (show T=jm aZ d a b f/\Q=a+1/\I=b-1/\J=swp d a f from⟨hT,a8,a6,U⟩);replace U:=ac U;clear hT a8 a6;go_enter func204,ntmps204
 go_wp2_with fail
 obtain⟨G,HG,hcw,hfw⟩:=R.fam S.out;obtain⟨u,a2⟩:=DV hcw a f (.int .u32 (G f)) ω ω
 go_region
 have S1:Hid (SWu w0 blk off N J ((w.setCell ⟨blk,off+a,none⟩ (.int .u32 (G f))).setCell ⟨blk,off+f,none⟩ (.int .u32 (G a))).drew):=ac (by rw[U.out];exact SWu.xC R S.out HG a f ω ω);clear S hcw hfw a2 HG U;generalize((w.setCell ⟨blk,off+a,none⟩ (.int .u32 (G f))).setCell ⟨blk,off+f,none⟩ (.int .u32 (G a))).drew=w1 at*
 go_upto_block 0 with fail
 go_cut [10] (λs W=>∃p:Nat,s= .int .i64 p/\Hid (p=scanUp (λx=>aZ x J[a]!) J I Q)/\Q<=p/\p<=I+1/\Hid (SWu w0 blk off N J W))
 case first=>
  go_wp2_with fail
  go_loopw [10] (λK wl=>∃p:Nat,K= .int .i64 p/\Q<=p/\p<=I+1/\Hid (SWu w0 blk off N J wl)/\Hid (scanUp (λx=>aZ x J[a]!) J I p=scanUp (λx=>aZ x J[a]!) J I Q)) (λK _=>I+1-(intOf K).toNat)
  case atStart=>exact⟨Q,rfl,am _,a3,S1,ac rfl⟩
  case round=>
   clear S1;obtain⟨p,rfl,hp1,hp2,SP,HP⟩:=hrel;obtain⟨G,HG,hcw,hfw⟩:=R.fam SP.out;by_cases hle:p<=I
   ·have hd:decide ((p:Int)<=(I:Int))=true:=decide_eq_true ω
    have hz:(p:Int)<=(I:Int):=ω
    cases hl:aZ (G p) (G a) with
    |true=>
     exact aap
    |false=>
     exact aao
   ·have hd:decide ((p:Int)<=(I:Int))=false:=decide_eq_false ω
    have hz:¬(p:Int)<=(I:Int):=ω
    go_wp2_with fail
    go_big_quiet(first|(go_at_call 202;refine kR _ _ _ _))
    go_wp2_with fail
    go_meet;exact⟨p,rfl,ac (by rw[<-HP.out,scanUp_end _ _ _ _ (Or.inl hle)]),hp1,hp2,ac (SP.out.drewN _)⟩
 case rest=>
  obtain⟨i2,rfl,O,b2,WV,S2⟩:=hcut;clear S1
  go_upto_block 2 with fail
  go_cut [11] (λs W=>∃q:Nat,s= .int .i64 q/\Hid (q=jc (λx=> !ltInt x J[a]!) J i2 I)/\q<=I/\i2<=q+1/\Hid (SWu w0 blk off N J W))
  case first=>
   go_wp2_with fail
   go_loopw [11] (λK wl=>∃q:Nat,K= .int .i64 q/\q<=I/\i2<=q+1/\Hid (SWu w0 blk off N J wl)/\Hid (jc (λx=> !ltInt x J[a]!) J i2 q=jc (λx=> !ltInt x J[a]!) J i2 I)) (λK _=>(intOf K).toNat)
   case atStart=>exact⟨I,rfl,am _,WV,S2,ac rfl⟩
   case round=>
        exact aaq
  case rest=>
   obtain⟨z,rfl,M,b0,b4,Y⟩:=hcut;clear S2;by_cases X:z<i2
   ·have hz:(z:Int)<(i2:Int):=ω
    have Z:=ac (show T=(z,true,swp J z a) by obtain⟨e1,e2,e3,e4⟩:=HT.out;rw[e1];exact part_first_break aZ d a b f e2 e3 e4 O.out M.out X);obtain⟨G,HG,hcw,hfw⟩:=R.fam Y.out;obtain⟨u,a2⟩:=DV hcw z a (.int .u32 (G a)) ω ω
    go_wp2_with fail
    go_region
    all_goals go_wp2_with fail
    all_goals exact aB (v:= .tuple #[.int .i64 (z:Nat),.bool true]) (by simp[results,results204,go_sem]) rfl (by rw[Z.out];exact⟨rfl,SWu.xC R Y.out HG z a ω ω⟩)
   ·have hz:¬(z:Int)<(i2:Int):=ω
    have a4:=part_scans_lt aZ a Q I J ω O.out M.out ω;obtain⟨G,HG,hcw,hfw⟩:=R.fam Y.out
    go_wp2_with fail
    go_region
    have S4:=ac (SWu.xC R Y.out HG i2 z ω ω);obtain⟨i3,a7⟩:∃i3:Nat,i3=i2+1:=⟨_,rfl⟩;obtain⟨j3,a5⟩:∃j3:Nat,j3=z-1:=⟨_,rfl⟩;obtain⟨d3,a1⟩:∃d3,d3=swp J i2 z:=⟨_,rfl⟩;obtain⟨L,hL⟩:∃L,L=partLoop aZ a i3 j3 d3:=⟨_,rfl⟩;have Z:=ac (show T=(L.1,false,swp L.2 L.1 a) by
     obtain⟨e1,e2,e3,e4⟩:=HT.out;rw[e1,hL,a1,a7,a5];exact part_first_go aZ d a b f e2 e3 e4 O.out M.out ω)
    have b7:(i2:Int)+1=(i3:Int):=ω
    have b5:(z:Int)-1=(j3:Int):=ω
    have b1:a<i3:=ω
    have b3:i3<=j3+1:=ω
    have a9:j3<b:=ω
    rw[<-a1] at S4;replace hL:=ac hL;clear Y hcw hfw HG a1 a7 a5 O M HT;generalize((wc.setCell ⟨blk,off+i2,none⟩ (.int .u32 (G z))).setCell ⟨blk,off+z,none⟩ (.int .u32 (G i2))).drew=w4 at*
    go_upto_block 4 with fail
    go_cut [11] (λs W=>∃q:Nat,s= .int .i64 q/\a<=q/\q<b/\Hid (q=L.1)/\Hid (SWu w0 blk off N L.2 W))
    case first=>
     go_wp2_with fail
     go_loopw [10,11] (λK vj wl=>∃(i j:Nat) (H:Array Int),K= .int .i64 i/\vj= .int .i64 j/\a<i/\i<=j+1/\j<b/\Hid (SWu w0 blk off N H wl)/\Hid (partLoop aZ a i j H=L)) (λK vj _=>(intOf vj).toNat+1-(intOf K).toNat)
     case atStart=>exact⟨i3,j3,d3,rfl,rfl,b1,b3,a9,S4,ac hL.out.symm⟩
     case round=>
          clear S4 hL Z a4 hz X b2 WV b0 b4 b7 b5 b1 b3 a9 b8 b6;obtain⟨i,j,H,rfl,rfl,bi,a3,bj,S5,HL⟩:=hrel;generalize wr=w5 at*
          go_upto_block 6 with fail
          go_cut [10] (λs W=>∃p:Nat,s= .int .i64 p/\Hid (p=scanUp (λx=>aZ x H[a]!) H j i)/\i<=p/\p<=j+1/\Hid (SWu w0 blk off N H W))
          case first=>
           go_wp2_with fail
           go_loopw [10] (λK wl=>∃p:Nat,K= .int .i64 p/\i<=p/\p<=j+1/\Hid (SWu w0 blk off N H wl)/\Hid (scanUp (λx=>aZ x H[a]!) H j p=scanUp (λx=>aZ x H[a]!) H j i)) (λK _=>j+1-(intOf K).toNat)
           case atStart=>exact⟨i,rfl,am _,a3,S5,ac rfl⟩
           case round=>
            clear S5;obtain⟨p,rfl,hp1,hp2,SP,HP⟩:=hrel;obtain⟨G,HG,hcw,hfw⟩:=R.fam SP.out;by_cases hle:p<=j
            ·have hd:decide ((p:Int)<=(j:Int))=true:=decide_eq_true ω
             have hz:(p:Int)<=(j:Int):=ω
             cases hl:aZ (G p) (G a) with
             |true=>
              exact aap
             |false=>
              exact aao
            ·have hd:decide ((p:Int)<=(j:Int))=false:=decide_eq_false ω
             have hz:¬(p:Int)<=(j:Int):=ω
             go_wp2_with fail
             go_big_quiet(first|(go_at_call 202;refine kR _ _ _ _))
             go_wp2_with fail
             go_meet;exact⟨p,rfl,ac (by rw[<-HP.out,scanUp_end _ _ _ _ (Or.inl hle)]),hp1,hp2,ac (SP.out.drewN _)⟩
          case rest=>
           obtain⟨i2,rfl,O,b2,WV,S2⟩:=hcut;clear S5
           go_upto_block 8 with fail
           go_cut [11] (λs W=>∃q:Nat,s= .int .i64 q/\Hid (q=jc (λx=> !ltInt x H[a]!) H i2 j)/\q<=j/\i2<=q+1/\Hid (SWu w0 blk off N H W))
           case first=>
            go_wp2_with fail
            go_loopw [11] (λK wl=>∃q:Nat,K= .int .i64 q/\q<=j/\i2<=q+1/\Hid (SWu w0 blk off N H wl)/\Hid (jc (λx=> !ltInt x H[a]!) H i2 q=jc (λx=> !ltInt x H[a]!) H i2 j)) (λK _=>(intOf K).toNat)
            case atStart=>exact⟨j,rfl,am _,WV,S2,ac rfl⟩
            case round=>
             exact aaq
           case rest=>
            obtain⟨z,rfl,M,b0,b4,Y⟩:=hcut;clear S2;by_cases X:z<i2
            ·have hz:(z:Int)<(i2:Int):=ω
             have a0:=ac (show(z,H)=L by rw[<-HL.out];exact(part_break aZ a i j H O.out M.out X).symm)
             go_wp2_with fail
             go_meet;exact⟨z,rfl,ω,ω,ac (by rw[<-a0.out]),ac (by rw[<-a0.out];exact Y.out)⟩
            ·have hz:¬(z:Int)<(i2:Int):=ω
             have a4:=part_scans_lt aZ a i j H ω O.out M.out ω;have a0:=ac (show partLoop aZ a (i2+1) (z-1) (swp H i2 z)=L by rw[<-HL.out];exact(part_go aZ a i j H O.out M.out ω).symm);obtain⟨G,HG,hcw,hfw⟩:=R.fam Y.out
             go_wp2_with fail
             go_region
             all_goals go_wp2_with fail
             go_roundw
             case rel=>exact⟨i2+1,z-1,swp H i2 z,ν,by congr 1;omega,ω,ω,ω,ac (SWu.xC R Y.out HG i2 z ω ω),a0⟩
             case measure=>simp[intOf];omega
    case rest=>
     obtain⟨q,rfl,d6,d5,hq,S6⟩:=hcut;clear S4;obtain⟨G,HG,hcw,hfw⟩:=R.fam S6.out;obtain⟨u,a2⟩:=DV hcw q a (.int .u32 (G a)) ω ω
     go_wp2_with fail
     go_region
     all_goals go_wp2_with fail
     all_goals exact aB (v:= .tuple #[.int .i64 (q:Nat),.bool false]) (by simp[results,results204,go_sem]) rfl (by rw[Z.out,<-hq.out];exact⟨rfl,SWu.xC R S6.out HG q a ω ω⟩)
end
end
end Go.Proofs.YtncfhbpejchbfaaGreatDoor

/-
  Lemmas of this seat; no claim.
-/
import Derived.Shelf.SlSortCmp.NoneTotal
import Derived.Test.YtejbpijamdlgcaaGreatDoorPP1
import Derived.Test.YtejbpijamdlgcaaGreatDoorLayIt
set_option linter.unusedVariables false
set_option linter.unusedSimpArgs false
set_option maxRecDepth 100000
set_option maxHeartbeats 40000000
open Array renaming getElem?_eq_getElem→fC,getElem?_eq_none→jM,getElem?_eq_some_iff→aC,getElem?_modify→dZ,getElem?_toList→bg
open Function renaming comp→jE
open Go renaming Calls→aX,Value→aI,World→aj,bodyPost_ret→aN,heap_alloc_new→aT,madeCells→jo,results_none→lg
open Go.Act renaming put→jJ
open Go.Exit renaming inBlock→jP
open Go.Lib renaming hid→ah
open Go.RowKit.Below renaming block→aJ
open Go.Sort renaming alloc_eq_grow→iR,heapBuild→nR,ltInt→bL,partition→nS,reverseLoop→nQ,scanDown→nI,siftDown→gY
open Go.World renaming cell?_alloc_some→au,cell?→jW
open Go.World.ownsRow renaming lt→dM
open Int renaming toNat_natCast→dx
open List renaming append_assoc→aY,append_nil→bZ,cons_append→aV,ext_getElem?→mO,getD_eq_getElem?_getD→eu,getElem?_eq_getElem→aO,getElem?_eq_none→eF,getElem?_eq_some_iff→aF,getElem?_map→bY,getElem?_take→iA,length_append→ay,length_cons→aH,length_nil→aR,length_singleton→dJ,length_take→bN,map_append→iw,map_congr_left→dR,map_cons→bU,map_map→fJ,mem_append→aZ,mem_cons→aS,mem_map→dH,mem_of_getElem?→aP,nodup_cons→iH,perm_append_comm→iT,perm_middle→gQ,range→jm,replicate→fF,take_add_one→cZ,take_of_length_le→bI
open List.Pairwise renaming nil→jd
open List.Perm renaming trans→lq
open Nat renaming le_refl→aD,zero_add→bH,zero_le→cK
namespace Go.Proofs.YtejbpijamdlgcaaGreatDoor
section
open Go.ChangeShapes Go.WideShapes Go.ChangeAt Go.RowKit Go.Sort Go.Maps
attribute [local go_sem] au
theorem Ak {W W':aj} {b o:Nat} {v:aI} (e:W'.heap[b]? =W.heap[b]?) (h:W.cell? ⟨b,o,none⟩=some v):W'.cell? ⟨b,o,none⟩=some v:=by
 simp only[jW] at h⊢;rw[e];exact h
theorem adb {p:List (I2×List Int)} {a:I2} {m:Int} (h:m∈lkP p a):∃t∈p,m∈t.2:=by
 induction p with
 |nil=>cases h
 |cons s r ih=>
  rw[lkP] at h
  split at h
  ·exact⟨s,ι,h⟩
  ·obtain⟨t,f,e⟩:=ih h
   exact⟨t,by simp[f],e⟩
def agL (w0 f:aj) (T:Nat) (A:Option Addr) (n cap:Nat) (z V:List (Int×Int)) (Xs:List It) (bs:List Bool) (C:List It) (u:TkV) (l:List Int) (q:List (I2×List Int)×List Int) (M:Nat) (i:aI) (wr:aj):Prop:=
 ∃(j:Nat) (a:TkV) (e:List Int),j<=M/\i= .int .i64 (j:Nat)/\Hid (TkS w0 wr T A n cap z V Xs bs C e a)/\Hid (tF f u wr a)/\Hid ((plW a.Wt,e)=sM V Xs (l.take j) q)/\Hid (e.length+tK (plW a.Wt)+(M-j)<=400000)
theorem qE.blocks {w0 W W':aj} {v:aI} {l:List Int} (h:qE w0 W v l) (e:∀b,b<W.heap.size->v.ownBlock=some b->W'.heap[b]? =W.heap[b]?):qE w0 W' v l:=by
 refine⟨h.1,?_⟩;rcases h.2 with u|⟨q,cap,i,j,a,f,r⟩
 ·exact .inl u
 ·exact .inr ⟨q,cap,i,j,a,(e q (aC.1 f).1 (by rw[j];rfl)).trans f,r⟩
theorem Zm (w0 W:aj) (T:Nat) (A:Option Addr) (n cap:Nat) (V0 V:List (Int×Int)) (Xs:List It) (bs:List Bool) (C:List It) (hs:List Int) (g:TkV) (i:Nat) (x:It)
  (h:TkS w0 W T A n cap V0 V Xs bs C hs g) (hn:V0.length=n) (hm:oq 0 V0=true) (hb:n<=400000) (l4:oq 0 V=true) (hx:Xs[i]? =some x) (f0:nW V x.c<=x.k) (d4:bs.length=Xs.length) (hN:Xs.length<=400000) (hC:C.length<400000)
  (b8:∀y∈Xs,wfI y/\okW y) (z:hs.length+tK (plW g.Wt)<=400000) (O:∀t∈plW g.Wt,∀m∈t.2,0<=m/\m<(Xs.length:Int)):
  aX Tryz.prog 145 #[.pointer (some ⟨T,0,none⟩),.int .i64 i] W λe W'=>e= .returned (.tuple #[])/\∃g' a7,TkS w0 W' T A n cap V0 (setOf V x.c (x.k+1)) Xs (bs.set i true) (C++[x]) a7 g'/\
   (plW g'.Wt,a7)=sM (setOf V x.c (x.k+1)) Xs (lkP (plW g.Wt) (x.c,x.k)) (uU (plW g.Wt) (x.c,x.k),hs):=by
 obtain⟨N,K⟩:∃N,Xs.length=N:=⟨_,rfl⟩;have l9:i<N:=by rw[<-K];exact(aF.1 hx).1
 have e6:=(b8 x (aP hx)).2;obtain⟨gx,cX,I⟩:∃gx cX,g.vX= .slice (some ⟨gx,0,none⟩) N cX:=by
  rcases h.its.2 with⟨_,h0⟩|⟨gx,cX,cur,e,_⟩
  ·rw[h0] at K;omega
  ·exact⟨gx,cX,by rw[e,K]⟩
 have j5:gx<W.heap.size:=(oZ.lt h.its gx (by rw[I];rfl)).2;have j6:g.tg gx= .x:=h.gX gx (by rw[I];rfl);have f6:=h.its;rw[I] at f6;obtain⟨Ax,n5,e1,_,f7⟩:=f6.open;injection e1 with e1 eN eC;rw[<-e1] at f7;clear eN eC;obtain⟨b',o',x',e2,b7,m0⟩:=f7.at (k:=i) (by rw[K];exact l9);injection e2 with e2;injection e2 with e2 e3 _;subst e2;subst e3;rw[hx] at b7;injection b7 with b7;subst b7;obtain⟨c0,c1,c2,c3,c4,c5,c6⟩:=m0;simp only[bH] at c0 c1 c2 c3 c4 c5 c6;obtain⟨U,cC,a3,i7⟩:∃U cC,g.vC= .slice (some ⟨U,0,none⟩) bs.length cC/\∀W':aj,W'.heap[U]? =W.heap[U]? ->W'.cell? ⟨U,i,none⟩=some (.bool (bs.getD i false))/\W'.frozen? ⟨U,i,none⟩=false:=by
  rcases h.came.2 with⟨_,h0⟩|⟨U,cC,cur,e,_,hgb,_,_,_,hcur⟩
  ·rw[h0] at d4;omega
  ·refine⟨U,cC,e,λW' eW=>?_⟩
   rw[hgb] at eW;have h1:(cur.toList.take (bs.length*1))[i]? =some (.bool (bs.getD i false)):=by
        rw[hcur,bY,eu,aO ω];rfl
   rw[iA,if_pos ω,bg] at h1;constructor
   ·simp[jW,eW,h1]
   ·simp[World.frozen?,eW]
 have t2:W.cell? ⟨T,2,none⟩=some (.slice (some ⟨gx,0,none⟩) N cX):=by rw[<-I];exact h.tb.cell rfl
 have n2:(0:Int)<=(i:Int):=ω
 have n1:(i:Int)<(N:Int):=ω
 obtain⟨g1,h1,k4,j7,g5,g2,m5,m3,m4,a1⟩:=h.box (.cells #[Vu x.c,Vu x.k] 55);have d3:(W.alloc (.cells #[Vu x.c,Vu x.k] 55)).cell? ⟨T,3,none⟩=some (.slice (some ⟨U,0,none⟩) N cC):=by rw[<-K,<-d4,<-a3,<-g2];exact h1.tb.cell rfl
 obtain⟨k6,k5⟩:=i7 (W.alloc (.cells #[Vu x.c,Vu x.k] 55)) (aJ (w':=W.alloc (.cells #[Vu x.c,Vu x.k] 55)) ((Ext.refl W).alloc _) U (dM h.came U (by rw[a3];rfl)).2);obtain⟨h2,a2⟩:=h1.aec i (g2.trans a3);have a8:=yh.ask (g:=g1) (q:=W.heap.size) (a:=x.c) (b:=x.k) (aT W _) a2 k4;have b5:=a1.trans a2;have Rk:=(b5.2 gx j5 j6).1;have u0:=Ak Rk c0;have u1:=Ak Rk c1;have u2:=Ak Rk c2;have u3:=Ak Rk c3;have u4:=Ak Rk c4;have u5:=Ak Rk c5;have u6:=Ak Rk c6;have v4:((W.alloc (.cells #[Vu x.c,Vu x.k] 55)).setCell ⟨U,i,none⟩ (.bool true)).cell? ⟨T,4,none⟩=some g1.vo:=h2.tb.cell rfl;have v2:((W.alloc (.cells #[Vu x.c,Vu x.k] 55)).setCell ⟨U,i,none⟩ (.bool true)).cell? ⟨T,2,none⟩=some (.slice (some ⟨gx,0,none⟩) N cX):=by rw[<-I,<-g5];exact h2.tb.cell rfl
 obtain⟨vo,X⟩:∃vo,g1.vo=vo:=⟨_,rfl⟩;rw[X] at v4;replace h:=ah h;replace h1:=ah h1;replace h2:=ah h2;replace K:=ah K;replace d4:=ah d4;replace I:=ah I;replace a3:=ah a3;replace hx:=ah hx;replace hn:=ah hn;have f8:plW g1.Wt=plW g.Wt:=by rw[j7]
 replace f8:=ah f8;clear Rk i7 j7 g2 m5 m3 m4 a1 a2 f6 e1 f7 j5 j6;replace g5:=ah g5;replace X:=ah X;replace b5:=ah b5;replace a8:=ah a8;replace z:=ah z;replace O:=ah O;replace b8:=ah b8;replace e6:=ah e6;replace f0:=ah f0;go_enter Tryz.func145,Tryz.ntmps145
 go_upto_region 2 with fail
 generalize(W.alloc (.cells #[Vu x.c,Vu x.k] 55)).setCell ⟨U,i,none⟩ (.bool true)=W2 at*;generalize W.heap.size=pa at*;clear d3 k6 k5 t2 c0 c1 c2 c3 c4 c5 c6;have b6:Ext W2 (W2.alloc (.cells #[Vu x.c,Vu x.k,Vu x.lc,Vu x.lk,Vu x.rc,Vu x.rk,.int .i32 x.ch] 57)).drew:=((Ext.refl W2).alloc _).drew;have f:=h2.out.ext b6;have j9:=b5.out.trans (tF.ext g1 b6);have hz:ItS (W2.alloc (.cells #[Vu x.c,Vu x.k,Vu x.lc,Vu x.lk,Vu x.rc,Vu x.rk,.int .i32 x.ch] 57)).drew (some ⟨W2.heap.size,0,none⟩) [x]:=Row.ext (xs:=flat encI [x]) (Row.new W2 #[Vu x.c,Vu x.k,Vu x.lc,Vu x.lk,Vu x.rc,Vu x.rk,.int .i32 x.ch] 57) ((Ext.refl _).drew);have Y:=f.come;rw[X.out] at Y;obtain⟨v3,W3,e0,e7,g3,b3⟩:=aip w0 _ 39 vo C Y f.low.size _ 1 1 [x] rfl hz (by simp only[aH,aR];omega);obtain⟨A3,c3,e3,_,_⟩:=e7.open;obtain⟨L3,j3⟩:∃L3,(C++[x]).length=L3:=⟨_,rfl⟩;rw[j3] at e3;clear j3;subst e3;have d9:=g3;have f9:=b3;rw[<-X.out] at d9 f9;obtain⟨g4,h4,g0,j8,a4,j0⟩:=f.ad8 e7 d9 f9;obtain⟨nn,D,m9,hM,hV⟩:=f.kn;have d5:=j0 nn D hM;have f4:=f.tb.of ((uQ d9).block T f.tb.lt (λe=>by have:=f.go T e;rw[f.gT] at this;cases this));have w4:W3.cell? ⟨T,4,none⟩=some vo:=by rw[<-X.out];exact f4.cell rfl
 have k3:=f4.thaw 4;have k2:=ah (j9.trans a4);have b9:=ah (yh.ask a8.out.1 ((tF.ext g1 b6).trans a4) a8.out.2);replace h4:=ah h4;replace d5:=ah d5;replace hV:=ah hV;replace g0:=ah g0;have m6:=ah (show plW g4.Wt=plW g.Wt by rw[j8,f8.out]);clear j0 hM f4 g3 d9 b3 f9 e7 Y hz f b6 j9 a4 j8
 go_cut [22] (λ_ wx=>wx=W3.setCell ⟨T,4,none⟩ (.slice A3 L3 c3))
 case first=>
  go_region_law (refine WU rfl (.tmp 26) (.tmp 34) rfl (by simp[Act.eval,jJ]) (by simp[Act.eval,jJ]) e0 ?_)
  all_goals(go_wp2_with fail;go_meet;exact rfl)
 case rest=>
  subst hcut;clear e0 w4 k3 u0 u1 u2 u3 u4 u5 u6 v4 v2;generalize W3.setCell ⟨T,4,none⟩ (.slice A3 L3 c3)=W4 at*;obtain⟨bS,J⟩:∃bS,g4.bS=bS:=⟨_,rfl⟩;have s0:W4.cell? ⟨T,0,none⟩=some (.slice A n cap):=h4.out.tb.cell rfl;have s1:W4.cell? ⟨T,1,none⟩=some (.map (some bS)):=by rw[<-J];exact h4.out.tb.cell rfl
  obtain⟨k0,k1,_,_⟩:=b9.out.1.cells;have j2:MapU W4.drew bS nn D:=by
   rw[<-J,g0.out];exact d5.out.ext ((Ext.refl _).drew)
  have H:=e6.out;have b1:=ah (abd A n cap bS nn D V0 V x.c x.k W4.drew j2 hV.out l4 ω H.1 H.2.1 H.2.2.1 H.2.2.2 f0.out);replace J:=ah J;clear j2 H d5
  go_upto_region 3 with fail
  go_cut [38] (λ_ wx=>∃D',Hid (TSb (λb=>b=bS) W4.drew wx)/\Hid (MapU wx bS (nn+1) D')/\Hid (Ij D' V0 (setOf V x.c (x.k+1))))
  case first=>
   go_region_with(go_at_call 174;refine b1.out.mono ?_;rintro e w5 ⟨rfl,d8,D',d7,d6⟩)
   all_goals(go_wp2_with fail;go_meet;exact⟨D',ah d8,ah d7,ah d6⟩)
  case rest=>
   obtain⟨D',d8,d7,d6⟩:=hcut;have j4:=h4.out.ext ((Ext.refl W4).drew);obtain⟨h5,a5⟩:=j4.gone (by rw[J.out];exact d8.out) (by rw[J.out];exact d7.out) d6.out (by rw[ay,dJ];omega);have g8:=(tF.ext g4 ((Ext.refl W4).drew)).trans a5;have i2:=ah (yh.ask b9.out.1 g8 b9.out.2);have m8:=ah (k2.out.trans g8);clear d8 d7 d6 j4 a5 g8 b9 a8 k2 b5 b1 s0 s1 k0 k1 J hV;generalize wc=W5 at*;obtain⟨V',b4⟩:∃V',setOf V x.c (x.k+1)=V':=⟨_,rfl⟩;rw[b4] at h5;replace b4:=ah b4;obtain⟨bW,b2⟩:∃bW,g4.bW=bW:=⟨_,rfl⟩;have s6:W5.cell? ⟨T,6,none⟩=some (.map (some bW)):=by rw[<-b2];exact h5.tb.cell rfl
   obtain⟨k0,k1,_,_⟩:=i2.out.1.cells;obtain⟨v,hv,Y,e4⟩:=h5.waits (x.c,x.k);have Rh:(Instr.lookup 215 (.map (some bW)) (.agg #[.int .u32 x.c,.int .u32 x.k]) false).run Tryz.prog W5.drew= .ok v W5.drew:=by
        rw[<-hv,<-b2];exact(h5.wm.ext ((Ext.refl W5).drew)).plain.look Tryz.underlying215 (x.c,x.k) (.slice none 0 0) κ
   have h6:=h5.ext ((Ext.refl W5).drew.drew);obtain⟨w7,Q,j1,g7⟩:=h6.wm.drop (by unfold rz;rw[fJ];exact h6.keys) Tryz.underlying215 (x.c,x.k) 0;obtain⟨g9,h9,a0,a9,h3,i8⟩:=h6.dropped (x.c,x.k) j1 g7;rw[b2] at Q
   dsimp only at Q
   have X5:qE w0 w7 v (lkP (plW g4.Wt) (x.c,x.k)):=Y.blocks (λb hb e=>i8 b hb (e4 b e));have g6:∀b,v.ownBlock=some b->g9.tg b= .x:=λb e=>h3 b (e4 b e)
   rw[m6.out] at a0 X5;replace h9:=ah h9;replace a0:=ah a0;replace X5:=ah X5;replace g6:=ah g6;replace b2:=ah b2;replace h5:=ah h5;clear h6 j1 g7 i8 h3 a9 Y e4 hv
   go_upto_region 4 with fail
   go_cut [5] (λs wx=>s=v/\wx=W5.drew)
   case first=>
        go_region
        all_goals(go_wp2_with fail;go_meet;exact⟨rfl,rfl⟩)
   case rest=>
        obtain⟨rfl,rfl⟩:=hcut
        go_upto_region 5 with fail
        go_cut [50] (λ_ wx=>wx=w7)
        case first=>
         go_region_law (refine Zr rfl (.tmp 53) (.tmp 54) rfl (by simp[Act.eval,jJ]) (by simp[Act.eval,jJ]) Q ?_)
         all_goals(go_wp2_with fail;go_meet;exact rfl)
        case rest=>
         subst hcut;obtain⟨l,hl⟩:∃l,lkP (plW g.Wt) (x.c,x.k)=l:=⟨_,rfl⟩;obtain⟨p0,b0⟩:∃p0,uU (plW g.Wt) (x.c,x.k)=p0:=⟨_,rfl⟩;have a6:=WT (p:=plW g.Wt) (x.c,x.k) (by rw[Jo];exact h.out.keys);have f1:∀m∈l,0<=m/\m<(Xs.length:Int):=λm i4=>by
          rw[<-hl] at i4;obtain⟨t,h1,h2⟩:=adb i4;exact O.out t h1 m h2
         rw[hl,b0] at a6;rw[hl] at X5;rw[b0] at a0;obtain⟨M,Z⟩:∃M,l.length=M:=⟨_,rfl⟩;obtain⟨Av,cv,ev,_,_⟩:=X5.out.open;rw[Z] at ev a6;have k9:Hid (hs.length+tK (plW g9.Wt)+(M-0)<=400000):=ah (by rw[a0.out];have:=z.out;omega);have n3:M<=400000:=by have:=z.out;omega
         subst ev;replace Z:=ah Z;replace f1:=ah f1;have l3:=hn.out;replace hl:=ah hl;replace b0:=ah b0;replace hn:=ah hn;clear a6 O z i2 Rh Q s6 k0 k1 h5 m8 h1 h2 h4 l3
         go_wp2_with fail
         go_loopw [57] (agL w0 wc T A n cap V0 V' Xs (bs.set i true) (C++[x]) g9 l (p0,hs) M) (λvi _=>M-(intOf vi).toNat)
         case atStart=>exact⟨0,g9,hs,cK _,rfl,h9,ah (tF.refl _ _),ah (by rw[a0.out];rfl),k9⟩
         case round=>
          obtain⟨j,gj,hj,n0,rfl,f3,i9,i3,e5⟩:=hrel;by_cases i5:j<M
          ·obtain⟨bl,ol,m2,i6⟩:∃b o,Av=some ⟨b,o,none⟩/\∀(k:Nat) (u:aI),(l.map Vi)[k]? =some u->wr.cell? ⟨b,o+k,none⟩=some u:=by
            have h1:=qE.ask X5.out i9.out g6.out;obtain⟨A8,c8,e8,_,h8⟩:=h1.open;injection e8 with e8 e9 e10;rw[<-e8] at h8;exact h8 (by rw[List.length_map,Z.out];omega)
           obtain⟨m,d2⟩:∃m,l[j]? =some m:=⟨l[j]'(by rw[Z.out];exact i5),aO _⟩;obtain⟨l8,l5⟩:=f1.out m (aP d2);obtain⟨mi,m1⟩:∃mi:Nat,m=mi:=⟨m.toNat,ω⟩;subst m1;obtain⟨y,hy⟩:∃y,Xs[mi]? =some y:=⟨Xs[mi]'(by omega),aO _⟩;have cm:wr.cell? ⟨bl,ol+j,none⟩=some (.int .i64 (mi:Int)):=i6 j _ (by rw[bY,d2];rfl);have i1:∀t∈gj.Wt,t.2.2.length<=400000:=λt ht=>by
            have h1:t.2.2.length<=tK (plW gj.Wt):=P5 (p:=plW gj.Wt) (t:=(t.1,t.2.2)) (dH.2 ⟨t,ht,rfl⟩);have:=e5.out;omega
           have m7:=ah (WE w0 wr T A n cap V0 V' Xs (bs.set i true) (C++[x]) hj gj mi y f3.out hn.out hm hb hy hN (b8.out y (aP hy)).1 (by have:=e5.out;omega) i1);have i0:Xs[((mi:Nat):Int).toNat]? =some y:=by rw[dx];exact hy
           have l2:=ah (Cj V' Xs (l.take j) (mi:Int) (p0,hs) y i0);have k8:=ah (show l.take (j+1)=l.take j++[(mi:Int)] by rw[cZ,d2];rfl);have k7:=ah (WC V' y (mi:Int) (p:=plW gj.Wt) hj (by rw[Jo];exact f3.out.keys));have EP:=ah i5;have n6:(0:Int)<=(j:Int):=ω
           have n7:(j:Int)<(M:Int):=ω
           have n8:(j:Int)<400000:=ω
           subst m2;clear i0 i1 i6 d2 hy l8 l5
           go_wp2_with fail
           refine m7.out.mono ?_;rintro e w' ⟨rfl,g',a7,f5,f2,d1⟩;replace f5:=ah f5;replace f2:=ah f2;replace d1:=ah d1;go_wp2
           go_roundw
           case rel=>
            refine⟨j+1,g',a7,EP.out,ν,f5,ah (i9.out.trans f2.out),ah ?_,ah ?_⟩
            ·rw[k8.out,l2.out,<-i3.out];exact d1.out
            ·have h9:=k7.out
             rw[<-d1.out] at h9;have h8:=e5.out;have h7:=EP.out;have n4:a7.length+tK (plW g'.Wt)=hj.length+tK (plW gj.Wt)+1:=h9;omega
           case measure=>have:=EP.out;simp[intOf];omega
          ·go_wp2_with fail
           go_end0
           exact⟨rfl,gj,hj,by rw[b4.out];exact f3.out,by rw[b4.out,hl.out,b0.out,i3.out,bI (by rw[Z.out];omega)]⟩
end
section
open Go.Sort
section
variable {V:List (Int×Int)} {a:I2} {hs:List Int} {m:Int} {p:List (I2×List Int)} {x:It}
theorem ZR {n:Nat} (K:hs.length=n+1) (z:AY hs.length hs.toArray) (N:hs[0]? =some m):
  ((zY hs.toArray).toList.take n).length=n/\AY n ((zY hs.toArray).toList.take n).toArray/\hs.Perm (m::(zY hs.toArray).toList.take n)/\∀k∈hs,m<=k:=by
 rw[K] at z;obtain⟨X,J,W,U⟩:=Qv (d:=hs.toArray) (n:=n) (by simpa using K) z;have u:hs.toArray[0]! =m:=by
  rw[getElem!_pos _ 0 (by simp;omega)];have:=(aF.1 N).2;simpa using this
 rw[u] at J;generalize zY hs.toArray=P at*;have Q:P.toList.length=n+1:=by simpa using X
 have q:P.toList.drop n=[m]:=by
  have e:=List.drop_eq_getElem_cons (l:=P.toList) (i:=n) ω;rw[e,List.drop_eq_nil_of_le ω];rw[getElem!_pos P n ω] at J;simp[J]
 refine⟨by rw[bN];omega,?_,?_,?_⟩
 ·intro k k0 kn
  have f:∀j,j<n->(P.toList.take n).toArray[j]! =P[j]! :=λj I=>by
   rw[getElem!_pos _ j (by simp;omega),getElem!_pos P j ω];simp
  rw[f k kn,f _ ω];exact W k k0 kn
 ·have e:P.toList=P.toList.take n++[m]:=by rw[<-q];exact(List.take_append_drop n _).symm
  have M:P.toList.Perm hs:=by simpa using U
  rw[e] at M;exact M.symm.trans (iT)
 ·intro k O
  obtain⟨j,I⟩:=List.getElem?_of_mem O;have H:=(aF.1 I).1;have:=Uh z (i:=j) ω;rw[u,getElem!_pos _ j (by simpa using H)] at this;have Y:=(aF.1 I).2;simp only[List.getElem_toArray] at this;omega
def sF:List (I2×List Int)->List Int
 |[]=>[]
 |t::r=>t.2++sF r
theorem abj (p q:List (I2×List Int)):sF (p++q)=sF p++sF q:=by
 induction p with
 |nil=>rfl
 |cons s r ih=>rw[aV,sF,sF,ih,aY]
theorem KA:m∈sF p↔∃t∈p,m∈t.2:=by
 induction p with
 |nil=>simp[sF]
 |cons s r ih=>simp[sF,ih]
theorem abh (p:List (I2×List Int)):(sF p).length=tK p:=by
 induction p with
 |nil=>rfl
 |cons s r ih=>rw[sF,tK,ay,ih]
theorem aaj {r:List (I2×List Int)} (i:Int) (h:a∉r.map (·.1)):r.map (λt=>if t.1=a then(a,t.2++[i]) else t)=r:=by
 have f:r.map (λt=>if t.1=a then(a,t.2++[i]) else t)=r.map id:=dR λt e=>if_neg λj=>h (by rw[<-j];exact dH.2 ⟨t,e,rfl⟩)
 rw[f,List.map_id]
theorem aak (i:Int) (q:(p.map (·.1)).Nodup) (h:a∈p.map (·.1)):(sF (p.map λt=>if t.1=a then(a,t.2++[i]) else t)).Perm (i::sF p):=by
 induction p with
 |nil=>cases h
 |cons s r ih=>
  have f:s.1∉r.map (·.1)/\(r.map (·.1)).Nodup:=iH.1 q;rw[bU,sF,sF];by_cases e:s.1=a
  ·rw[if_pos e,aaj i (by rw[<-e];exact f.1)]
   show((s.2++[i])++sF r).Perm (i::(s.2++sF r));rw[aY];exact gQ
  ·rw[if_neg e]
   have:=ih f.2 (by
        rcases aS.1 h with j|j
        ·exact absurd j.symm e
        ·exact j)
   exact(this.append_left s.2).trans gQ
theorem YN (a:I2) (i:Int) (e:(p.map (·.1)).Nodup):(sF (Ei p a i)).Perm (i::sF p):=by
 unfold Ei
 split
 ·rename_i h
  exact aak i e h
 ·rw[abj]
  exact iT
theorem YO (a:I2) (i:Int) (j:(p.map (·.1)).Nodup):((Ei p a i).map (·.1)).Nodup:=by
 unfold Ei
 split
 ·rw[fJ]
  have:p.map ((λt:I2×List Int=>t.1)∘λt=>if t.1=a then(a,t.2++[i]) else t)=p.map (·.1):=by
   refine dR λt _=>?_
   simp only[jE]
   split
   ·rename_i e;exact e.symm
   ·rfl
  rw[this];exact j
 ·rename_i h
  rw[iw];refine List.nodup_append.2 ⟨j,ι,λx q y f=>?_⟩;simp at f;subst f;exact λe=>h (by rw[<-e];exact q)
theorem ach {i:Int} {t:I2×List Int} (h:t∈Ei p a i) (j:m∈t.2):(∃s∈p,s.1=t.1/\m∈s.2)\/(m=i/\t.1=a):=by
 unfold Ei at h
 split at h
 ·obtain⟨s,hs,e⟩:=dH.1 h
  split at e
  ·rename_i q
   subst e;rcases aZ.1 j with f|f
   ·exact .inl ⟨s,hs,q,f⟩
   ·exact .inr ⟨by simpa using f,rfl⟩
  ·subst e
   exact .inl ⟨s,hs,rfl,j⟩
 ·rcases aZ.1 h with f|f
  ·exact .inl ⟨t,f,rfl,j⟩
  ·simp at f
   subst f;exact .inr ⟨by simpa using j,rfl⟩
theorem UA (a:I2) (u:(p.map (·.1)).Nodup):(lkP p a++sF (uU p a)).Perm (sF p):=by
 induction p with
 |nil=>exact .refl _
 |cons s r ih=>
  have f:s.1∉r.map (·.1)/\(r.map (·.1)).Nodup:=iH.1 u;by_cases e:s.1=a
  ·have j:uU (s::r) a=r:=by
        unfold uU;rw[List.filter_cons_of_neg (by simp[e])];refine List.filter_eq_self.2 λt q=>?_
        simp only[decide_eq_true_eq];intro z;exact f.1 (by rw[e,<-z];exact dH.2 ⟨t,q,rfl⟩)
   have i:lkP (s::r) a=s.2:=if_pos e;rw[j,i];exact .refl _
  ·have j:uU (s::r) a=s::uU r a:=List.filter_cons_of_pos (by simp[e])
   have i:lkP (s::r) a=lkP r a:=if_neg e;rw[j,i,sF,sF];have:=(ih f.2).append_left s.2;refine lq ?_ this;rw[<-aY,<-aY];exact(iT).append_right _
def blk (V:List (Int×Int)) (x:It) (a:I2):Prop:=(a=(x.c,x.k-1)/\nW V x.c<x.k)\/(a=(x.lc,x.lk)/\F8 V x.lc x.lk=false)\/(a=(x.rc,x.rk)/\F8 V x.rc x.rk=false)
theorem zA {a b:Int}:F8 V a b=false↔a≠0/\nW V a<=b:=by
 unfold F8;simp
theorem Wy (h:blk V x a):yx V x=false:=by
 rcases e:yx V x with _|_
 ·rfl
 ·exfalso
  obtain⟨j,i,f⟩:=CW.1 e;rcases h with⟨_,h⟩|⟨_,h⟩|⟨_,h⟩
  ·omega
  ·rw[zA] at h;omega
  ·rw[zA] at h;omega
theorem agC (h:awI V x=some a) (j:0<=nW V x.c) (i:nW V x.c<=x.k) (f:x.k<=4294967295):blk V x a:=by
 unfold awI at h
 split at h
 ·split at h
  ·split at h
   ·cases h
   ·rename_i e
    injection h with h;exact .inr (.inr ⟨h.symm,by simpa using e⟩)
  ·rename_i e
   injection h with h;exact .inr (.inl ⟨h.symm,by simpa using e⟩)
 ·rename_i e
  injection h with h;refine .inl ⟨?_,ω⟩;rw[<-h];have:IntKind.u32.wrap (x.k-1)=x.k-1:=by
   simp[IntKind.wrap,IntKind.signed,IntKind.bits];omega
  rw[this]
structure CG (V:List (Int×Int)) (Xs:List It) (p:List (I2×List Int)) (hs:List Int):Prop where
 keys:(p.map (·.1)).Nodup
 heap:AY hs.length hs.toArray
 rdy:∀m∈hs,∀x,Xs[m.toNat]? =some x->yx V x=true
 wait:∀t∈p,∀m∈t.2,∀x,Xs[m.toNat]? =some x->blk V x t.1
theorem CG.none (V:List (Int×Int)) (Xs:List It):CG V Xs [] []:=⟨ι,λk _ h=>absurd h ι,ι,ι⟩
theorem CG.ask {Xs:List It} (h:CG V Xs p hs) (z:Xs[m.toNat]? =some x) (Q:0<=nW V x.c) (O:nW V x.c<=x.k) (N:x.k<=4294967295):
  CG V Xs (Dt V x m p hs).1 (Dt V x m p hs).2/\((Dt V x m p hs).2++sF (Dt V x m p hs).1).Perm (m::(hs++sF p)):=by
 unfold Dt;have q:=agB V x;cases H:awI V x with
 |none=>
  rw[H] at q;have K:yx V x=true:=by simpa using q.symm
  have i:=Xj (d:=hs.toArray) (by simpa using h.heap) m;have W:hs.toArray.push m=(hs++[m]).toArray:=ι
  rw[W] at i;have U:hs.toArray.size=hs.length:=ι
  rw[U] at i;have I:(upA hs.length (hs++[m]).toArray).toList.Perm (hs++[m]):=by simpa using i.2
  refine⟨⟨h.keys,?_,λk u y f=>?_,h.wait⟩,?_⟩
  ·show AY (upA hs.length (hs++[m]).toArray).toList.length (upA hs.length (hs++[m]).toArray).toList.toArray
   rw[Y6];simpa using i.1
  ·rcases aZ.1 (I.mem_iff.1 u) with j|j
   ·exact h.rdy k j y f
   ·simp at j
    subst j;rw[z] at f;injection f with f;rw[<-f];exact K
  ·show((upA hs.length (hs++[m]).toArray).toList++sF p).Perm _
   refine(I.append_right _).trans ?_;rw[aY];exact gQ
 |some a=>
  have M:=agC H Q O N;refine⟨⟨YO a m h.keys,h.heap,h.rdy,λt J k u y f=>?_⟩,?_⟩
  ·rcases ach J u with⟨s,hs',e,j⟩|⟨e,e3⟩
   ·rw[<-e];exact h.wait s hs' k j y f
   ·rw[e,z] at f
    injection f with f;rw[<-f,e3];exact M
  ·show(hs++sF (Ei p a m)).Perm _
   exact((YN a m h.keys).append_left hs).trans gQ
theorem CG.all {V:List (Int×Int)} {Xs:List It}:∀(l:List Int) {s:List (I2×List Int)×List Int} (h:CG V Xs s.1 s.2) (e:∀m∈l,∃x,Xs[m.toNat]? =some x/\0<=nW V x.c/\nW V x.c<=x.k/\x.k<=4294967295),
  CG V Xs (sM V Xs l s).1 (sM V Xs l s).2/\((sM V Xs l s).2++sF (sM V Xs l s).1).Perm (l++(s.2++sF s.1))
 |[],s,h,_=>⟨h,.refl _⟩
 |m::l,s,h,e=>by
  obtain⟨x,f,J,I,H⟩:=e m ι;obtain⟨z,u⟩:=h.ask f J I H;rw[sM,f];obtain⟨q,j⟩:=CG.all l (s:=Dt V x m s.1 s.2) z (λk i=>e k (by simp[i]));refine⟨q,j.trans ((u.append_left l).trans ?_)⟩;exact gQ
theorem agw {y:It} (H:oq 0 V=true) (z:x.k=nW V x.c) (h:blk V y a) (j:a≠(x.c,x.k)):blk (setOf V x.c (x.k+1)) y a:=by
 have i:=λd=>ug x.c (x.k+1) d H
 rcases h with⟨e,h⟩|⟨e,h⟩|⟨e,h⟩
 ·refine .inl ⟨e,?_⟩
  rw[i]
  split
  ·rename_i f
   have:y.k-1≠x.k:=λI=>j (by rw[e,f,I])
   rw[f] at h;omega
  ·exact h
 all_goals
  rw[zA] at h
  first|refine .inr (.inl ⟨e,zA.2 ⟨h.1,?_⟩⟩)|refine .inr (.inr ⟨e,zA.2 ⟨h.1,?_⟩⟩)
  rw[i]
  split
  ·rename_i f
   have u:=h.2;rw[f,<-z] at u;rcases Int.lt_or_eq_of_le u with q|q
   ·omega
   ·exact absurd (by rw[e,f,q]) j
  ·exact h.2
theorem afm {y:It} (H:oq 0 V=true) (j:x.k=nW V x.c) (h:yx V y=true) (q:iid y≠iid x):yx (setOf V x.c (x.k+1)) y=true:=by
 have u:=λd=>ug x.c (x.k+1) d H
 obtain⟨z,i,f⟩:=CW.1 h;refine CW.2 ⟨?_,?_,?_⟩
 ·rw[u,if_neg (λe=>q (by unfold iid;rw[e,z,e,<-j]))]
  exact z
 ·rcases i with i|i
  ·exact .inl i
  ·refine .inr ?_
   rw[u]
   split
   ·rename_i e;rw[e,<-j] at i;omega
   ·exact i
 ·rcases f with f|f
  ·exact .inl f
  ·refine .inr ?_
   rw[u]
   split
   ·rename_i e;rw[e,<-j] at f;omega
   ·exact f
theorem CG.gone {Xs:List It} (h:CG V Xs p hs) (q:oq 0 V=true) (j:x.k=nW V x.c) (i:∀m∈hs,∀y,Xs[m.toNat]? =some y->iid y≠iid x):
  CG (setOf V x.c (x.k+1)) Xs (uU p (x.c,x.k)) hs:=
 ⟨h.keys.sublist ((List.filter_sublist).map _),h.heap,λm e y f=>afm q j (h.rdy m e y f) (i m e y f),λt u m e y f=>by
  obtain⟨H,z⟩:=List.mem_filter.1 u;exact agw q j (h.wait t H m e y f) (by simpa using z)⟩
end
section
def ncs:List Bool->List It->List It
 |b::bs,x::xs=>if b then ncs bs xs else x::ncs bs xs
 |_,_=>[]
def nci:Nat->List Bool->List Int
 |_,[]=>[]
 |k,b::bs=>if b then nci (k+1) bs else(k:Int)::nci (k+1) bs
theorem EG:∀{bs:List Bool} {k:Nat} {m:Int},m∈nci k bs↔∃i:Nat,m=((k+i:Nat):Int)/\bs[i]? =some false
 |[],k,m=>by simp[nci]
 |b::bs,k,m=>by
  have ih:=EG (bs:=bs) (k:=k+1) (m:=m);rw[nci];constructor
  ·intro h
   cases b with
   |true=>
    obtain⟨i,e,a⟩:=ih.1 (by simpa using h);exact⟨i+1,by rw[e];congr 1;omega,by simpa using a⟩
   |false=>
    rcases aS.1 (by simpa using h) with h|h
    ·exact⟨0,by simpa using h,rfl⟩
    ·obtain⟨i,e,a⟩:=ih.1 h
     exact⟨i+1,by rw[e];congr 1;omega,by simpa using a⟩
  ·rintro⟨i,e,a⟩
   cases i with
   |zero=>
    have:b=false:=by simpa using a
    subst this;simp[e]
   |succ i=>
    have f:m∈nci (k+1) bs:=ih.2 ⟨i,by rw[e];congr 1;omega,by simpa using a⟩
    split
    ·exact f
    ·exact List.mem_cons_of_mem _ f
theorem VE:∀{bs:List Bool} {k i:Nat},bs[i]? =some false->(nci k bs).Perm (((k+i:Nat):Int)::nci k (bs.set i true))
 |[],k,i,h=>by simp at h
 |b::bs,k,0,h=>by
  have:b=false:=by simpa using h
  subst this;simp[nci]
 |b::bs,k,i+1,h=>by
  have ih:=VE (bs:=bs) (k:=k+1) (i:=i) (by simpa using h);rw[show k+1+i=k+(i+1) by omega] at ih;rw[List.set_cons_succ,nci,nci]
  split
  ·exact ih
  ·exact(ih.cons _).trans (.swap _ _ _)
theorem MF:∀{bs:List Bool} {k:Nat},(nci k bs).Nodup
 |[],k=>by simp[nci]
 |b::bs,k=>by
  have ih:=MF (bs:=bs) (k:=k+1);rw[nci]
  split
  ·exact ih
  ·refine iH.2 ⟨λh=>?_,ih⟩
   obtain⟨i,a,_⟩:=EG.1 h;omega
theorem VF:∀(bs:List Bool) (k:Nat),(nci k bs).length<=bs.length
 |[],k=>by simp[nci]
 |b::bs,k=>by
  have:=VF bs (k+1);rw[nci]
  split <;> simp <;> omega
theorem Ox:∀{bs:List Bool} {xs:List It} {x:It},x∈ncs bs xs->∃i:Nat,bs[i]? =some false/\xs[i]? =some x
 |[],xs,x,h=>by simp[ncs] at h
 |b::bs,[],x,h=>by simp[ncs] at h
 |b::bs,y::xs,x,h=>by
  rw[ncs] at h;cases b with
  |true=>
   obtain⟨i,e,a⟩:=Ox (by simpa using h);exact⟨i+1,by simpa using e,by simpa using a⟩
  |false=>
   rcases aS.1 (by simpa using h) with rfl|h
   ·exact⟨0,rfl,rfl⟩
   ·obtain⟨i,e,a⟩:=Ox h
    exact⟨i+1,by simpa using e,by simpa using a⟩
theorem VY {v:List (Int×Int)}:∀{bs:List Bool} {xs:List It} {i:Nat} {x:It},bs[i]? =some false->xs[i]? =some x->yx v x=true->(∀j y,j<i->bs[j]? =some false->xs[j]? =some y->yx v y=false)->
  yB v (ncs bs xs)=some (x,ncs (bs.set i true) xs)
 |[],xs,i,x,h,_,_,_=>by simp at h
 |b::bs,[],i,x,_,h,_,_=>by simp at h
 |b::bs,y::xs,0,x,h,h2,hr,_=>by
  have u:b=false:=by simpa using h
  have q:y=x:=by simpa using h2
  subst u q;simp[ncs,yB,hr]
 |b::bs,y::xs,i+1,x,h,h2,hr,hl=>by
  have ih:=VY (v:=v) (bs:=bs) (xs:=xs) (i:=i) (x:=x) (by simpa using h) (by simpa using h2) hr (λj z H f a=>hl (j+1) z ω (by simpa using f) (by simpa using a));rw[List.set_cons_succ,ncs,ncs];cases b with
  |true=>simpa using ih
  |false=>
   have e:=hl 0 y ω rfl rfl;simp[yB,e,ih]
structure KU (V:List (Int×Int)) (Xs:List It) (bs:List Bool) (p:List (I2×List Int)) (hs:List Int):Prop where
 w:CG V Xs p hs
 len:bs.length=Xs.length
 perm:(hs++sF p).Perm (nci 0 bs)
 nxt:∀(i:Nat) (x:It),bs[i]? =some false->Xs[i]? =some x->nW V x.c<=x.k
 may:oq 0 V=true
theorem KU.at {V:List (Int×Int)} {Xs:List It} {bs:List Bool} {p:List (I2×List Int)} {a:List Int} (h:KU V Xs bs p a) {m:Int} (f:m∈a++sF p):∃(i:Nat) (x:It),m=i/\bs[i]? =some false/\Xs[i]? =some x:=by
 obtain⟨i,j,e⟩:=EG.1 (h.perm.mem_iff.1 f);have hi:=(aF.1 e).1;rw[h.len] at hi;exact⟨i,Xs[i],by rw[j];congr 1;omega,e,aO hi⟩
variable {V:List (Int×Int)} {Xs:List It} {bs:List Bool} {p:List (I2×List Int)}
theorem KU.tot {a:List Int} (h:KU V Xs bs p a):a.length+tK p<=Xs.length:=by
 have e:=h.perm.length_eq;rw[ay,abh] at e;have:=VF bs 0;rw[h.len] at this;omega
theorem KU.next {z:List Int} (h:KU V Xs bs p z) {n:Nat} {m:Int} (hl:z.length=n+1) (hm:z[0]? =some m)
  (a2:∀(i j:Nat) (x y:It),Xs[i]? =some x->Xs[j]? =some y->iid x=iid y->i=j) (X:∀x∈Xs,okW x):
  ∃(i:Nat) (x:It),m=i/\Xs[i]? =some x/\bs[i]? =some false/\yB V (ncs bs Xs)=some (x,ncs (bs.set i true) Xs)/\
   ((zY z.toArray).toList.take n).length=n/\
   KU (setOf V x.c (x.k+1)) Xs (bs.set i true) (sM (setOf V x.c (x.k+1)) Xs (lkP p (x.c,x.k)) (uU p (x.c,x.k),(zY z.toArray).toList.take n)).1 (sM (setOf V x.c (x.k+1)) Xs (lkP p (x.c,x.k)) (uU p (x.c,x.k),(zY z.toArray).toList.take n)).2:=by
 obtain⟨q1,q2,Q,q4⟩:=ZR hl h.w.heap hm;generalize(zY z.toArray).toList.take n=h1 at*;have K:m∈z:=Q.mem_iff.2 ι;obtain⟨i,x,rfl,J,q⟩:=h.at (m:=m) (by simp[K]);have a7:((i:Nat):Int).toNat=i:=dx i;have Y:yx V x=true:=h.w.rdy _ K x (by rw[a7];exact q);have W:x.k=nW V x.c:=(CW.1 Y).1;have a9:(z++sF p).Nodup:=h.perm.nodup_iff.2 MF;have b2:((i:Int)::(h1++sF p)).Nodup:=((Q.append_right (sF p)).nodup_iff).1 a9;have b3:(h1++sF p).Perm (nci 0 (bs.set i true)):=by
  have e1:((i:Int)::(h1++sF p)).Perm (nci 0 bs):=(Q.append_right (sF p)).symm.trans h.perm;have O:=VE (k:=0) J;rw[bH] at O;exact(e1.trans O).cons_inv
 have f:∀k∈h1++sF p,∃(j:Nat) (y:It),k=j/\j≠i/\bs[j]? =some false/\Xs[j]? =some y:=λk I=>by
  obtain⟨j,y,e,H,a⟩:=h.at (m:=k) (by
   rcases aZ.1 I with u|u
   ·exact aZ.2 (.inl (Q.mem_iff.2 (by simp[u])))
   ·exact aZ.2 (.inr u))
  refine⟨j,y,e,λO=>?_,H,a⟩;rw[e,O] at I;exact(iH.1 b2).1 I
 have a3:=X x (aP q);have M:oq 0 (setOf V x.c (x.k+1))=true:=EA h.may a3;have hn:=λd=>ug x.c (x.k+1) d h.may
 have Z:∀(j:Nat) (y:It),(bs.set i true)[j]? =some false->Xs[j]? =some y->nW (setOf V x.c (x.k+1)) y.c<=y.k:=λj y H a=>by
  have a0:j≠i:=λe=>by
   rw[e,List.getElem?_set_self (by have:=(aF.1 J).1;exact this)] at H;cases H
  rw[List.getElem?_set_ne (Ne.symm a0)] at H;have u:=h.nxt j y H a;rw[hn]
  split
  ·rename_i e
   rw[e,<-W] at u;rcases Int.lt_or_eq_of_le u with h4|h4
   ·omega
   ·exact absurd (a2 j i y x a q (by unfold iid;rw[e,h4])) a0
  ·exact u
 have a6:CG V Xs p h1:=⟨h.w.keys,by rw[q1];exact q2,λk I y a=>h.w.rdy k (Q.mem_iff.2 (by simp[I])) y a,h.w.wait⟩;have a5:=a6.gone h.may W (λk I y a=>by
  obtain⟨j,y',e,N,_,U⟩:=f k (by simp[I]);subst e;rw[dx] at a;rw[U] at a;injection a with a;subst a;exact λO=>N (a2 j i y' x U q O))
 have a1:=UA (x.c,x.k) h.w.keys;obtain⟨a4,a8⟩:=CG.all (lkP p (x.c,x.k)) (s:=(uU p (x.c,x.k),h1)) a5 (λk I=>by
  obtain⟨j,y,e,N,H,a⟩:=f k (aZ.2 (.inr (a1.mem_iff.1 (aZ.2 (.inl I)))));subst e;refine⟨y,by rw[dx];exact a,sO _ M,Z j y (by rw[List.getElem?_set_ne (Ne.symm N)];exact H) a,?_⟩;have:=(X y (aP a)).2.2.2;omega)
 refine⟨i,x,rfl,q,J,VY J q Y (λj y hj H a=>?_),q1,⟨a4,by rw[List.length_set];exact h.len,?_,Z,M⟩⟩
 ·have b1:((j:Nat):Int)∈z++sF p:=h.perm.mem_iff.2 (EG.2 ⟨j,by rw[bH],H⟩)
  rcases aZ.1 b1 with u|u
  ·have:=q4 _ u
   omega
  ·obtain⟨t,ht,b0⟩:=KA.1 u
   exact Wy (h.w.wait t ht _ b0 y (by rw[dx];exact a))
 ·refine a8.trans ?_
  show(lkP p (x.c,x.k)++(h1++sF (uU p (x.c,x.k)))).Perm _;refine lq ?_ b3;refine lq ?_ (a1.append_left h1);rw[<-aY,<-aY];exact(iT).append_right _
theorem KU.done (h:KU V Xs bs p []):yB V (ncs bs Xs)=none:=by
 refine Kr.2 λx f=>?_
 obtain⟨i,q,a⟩:=Ox f;have u:((i:Nat):Int)∈sF p:=by
  have:=h.perm.mem_iff.2 (EG.2 ⟨i,by rw[bH],q⟩);simpa using this
 obtain⟨t,j,e⟩:=KA.1 u;exact Wy (h.w.wait t j _ e x (by rw[dx];exact a))
end
end
section
open Go.ChangeShapes Go.WideShapes Go.ChangeAt Go.RowKit Go.Sort Go.Maps
attribute [local go_sem] au
theorem Kt {v:List (Int×Int)}:∀{l:List It} {x:It} {r:List It},yB v l=some (x,r)->l.length=r.length+1
 |[],x,r,h=>by cases h
 |y::l,x,r,h=>by
  simp only[yB] at h
  split at h
  ·injection h with h
   injection h with f e;rw[<-e];rfl
  ·cases a:yB v l with
   |none=>rw[a] at h;cases h
   |some q=>
    rw[a] at h;simp at h;obtain⟨f,e⟩:=h;rw[<-e,aH,aH,Kt a]
def Nh (w:aj) (T:Nat):Nat:=match w.cell? ⟨T,4,none⟩ with
 |some (.slice _ n _)=>n
 |_=>0
theorem TkS.Nh {w0 W:aj} {T:Nat} {A:Option Addr} {n cap:Nat} {i V:List (Int×Int)} {Xs:List It} {bs:List Bool} {C:List It} {a:List Int} {g:TkV} (h:TkS w0 W T A n cap i V Xs bs C a g):Nh W T=C.length:=by
 obtain⟨j,c4,e,_,_⟩:=h.come.open;have f:W.cell? ⟨T,4,none⟩=some g.vo:=h.tb.cell rfl;unfold Proofs.YtejbpijamdlgcaaGreatDoor.Nh;rw[f,e]
def U5 (w0:aj) (T:Nat) (A:Option Addr) (n cap:Nat) (e:List (Int×Int)) (Xs:List It) (F:List It×List It×List (Int×Int)) (wr:aj):Prop:=
 ∃(V:List (Int×Int)) (bs:List Bool) (C:List It) (a:List Int) (g:TkV),Hid (TkS w0 wr T A n cap e V Xs bs C a g)/\Hid (KU V Xs bs (plW g.Wt) a)/\Hid (C.length+(ncs bs Xs).length=Xs.length)/\
  Hid (C++(yR (ncs bs Xs).length V (ncs bs Xs)).1=F.1/\(yR (ncs bs Xs).length V (ncs bs Xs)).2=F.2)
def aey (w0:aj) (T:Nat) (A:Option Addr) (n cap:Nat) (a:List (Int×Int)) (Xs:List It) (F:List It×List It×List (Int×Int)) (W:aj):Prop:=
 ∃(bs:List Bool) (g:TkV),TkS w0 W T A n cap a F.2.2 Xs bs F.1 [] g/\bs.length=Xs.length/\ncs bs Xs=F.2.1/\oq 0 F.2.2=true
theorem PX (w0 W:aj) (T:Nat) (A:Option Addr) (n cap:Nat) (V0:List (Int×Int)) (Xs:List It) (F:List It×List It×List (Int×Int)) (h:U5 w0 T A n cap V0 Xs F W) (hn:V0.length=n) (hm:oq 0 V0=true) (hb:n<=400000) (hN:Xs.length<=400000)
  (Z:∀(i j:Nat) (x y:It),Xs[i]? =some x->Xs[j]? =some y->iid x=iid y->i=j) (J:∀y∈Xs,wfI y/\okW y):
  aX Tryz.prog 107 #[.pointer (some ⟨T,0,none⟩)] W λe W'=>e= .returned (.tuple #[])/\aey w0 T A n cap V0 Xs F W':=by
 replace Z:=ah Z;replace J:=ah J;replace hn:=ah hn;go_enter Tryz.func107,Tryz.ntmps107
 go_wp2_with fail
 go_loopw [] (U5 w0 T A n cap V0 Xs F) (λwr=>400000-Nh wr T)
 case atStart=>exact h
 case round=>
  clear h;obtain⟨V,bs,C,hs,g,f,H,hC,hF⟩:=hrel;obtain⟨A5,c5,e5,_,_⟩:=f.out.ready.open;have t5:wr.cell? ⟨T,5,none⟩=some (.slice A5 hs.length c5):=by rw[<-e5];exact f.out.tb.cell rfl
  clear e5;cases hs with
  |nil=>
   simp only[aR] at t5;have hd:=H.out.done;have z:=hF.out;rw[IV hd] at z
   go_wp2_with fail
   go_end0
   refine⟨rfl,bs,g,?_,H.out.len,?_,?_⟩
   ·rw[<-z.2,<-z.1]
    show TkS w0 wr T A n cap V0 V Xs bs (C++[]) [] g;rw[bZ];exact f.out
   ·rw[<-z.2]
   ·rw[<-z.2];exact H.out.may
  |cons m r=>
   obtain⟨i,x,rfl,I,Y,Q,hq,a0⟩:=H.out.next (n:=r.length) rfl rfl Z.out (λy hy=>(J.out y hy).2);have u:=H.out.tot;have a:=Kt Q;have a8:=hC.out;have b0:=ah (acZ w0 wr T r.length _ g.vr ((i:Int)::r) f.out.hps rfl ω H.out.w.heap (i:Int) rfl);have ha:=λW:aj=>Nv (i:Int) W
   obtain⟨q,K⟩:∃q,((i:Int)::r).length=q:=⟨_,rfl⟩;have b2:(0:Int)<(q:Int):=by rw[aH] at K;omega
   rw[K] at t5 u;have X:q=r.length+1:=by rw[<-K];rfl
   have b1:=ah u;replace X:=ah X;replace Q:=ah Q;replace a:=ah a;replace a0:=ah a0;replace I:=ah I;replace hq:=ah hq;replace Y:=ah Y;clear K u a8
   go_wp2_with fail
   refine b0.out.mono ?_;rintro e w2 ⟨rfl,v',a5,U,a3⟩;obtain⟨g2,a6,O,a9,a2⟩:=f.out.pushed a5 (.inl U) a3;clear a5 U a3 a9 a2;have a1:=ah (Zm w0 w2 T A n cap V0 V Xs bs C _ g2 i x a6 hn.out hm hb H.out.may I.out (H.out.nxt i x Y.out I.out) H.out.len hN (by have:=a.out;have:=hC.out;omega) J.out (by rw[hq.out,O];have:=b1.out;have:=X.out;omega) (λt ht m' a7=>by
        rw[O] at ht;obtain⟨j,y,e,_,hy⟩:=H.out.at (m:=m') (aZ.2 (.inr (KA.2 ⟨t,ht,a7⟩)));have:=(aF.1 hy).1;omega))
   rw[O] at a1;clear a6 O
   go_wp2_with fail
   refine a1.out.mono ?_;rintro e w3 ⟨rfl,g3,a4,N,M⟩;replace N:=ah N;replace M:=ah M
   go_wp2_with fail
   go_roundw
   case rel=>
        have e1:plW g3.Wt=_:=congrArg Prod.fst M.out;have e2:a4=_:=congrArg Prod.snd M.out;refine⟨_,_,_,a4,g3,N,ah ?_,ah ?_,ah ?_⟩
        ·rw[e1,e2];exact a0.out
        ·have:=hC.out
         have:=a.out;rw[ay,dJ];omega
        ·have h9:=hF.out
         rw[a.out,IU Q.out] at h9;rw[aY];exact h9
   case measure=>
        rw[N.out.Nh,f.out.Nh,ay,dJ];have:=hC.out;have:=a.out;omega
theorem QD:∀{a:List Bool} {c:List It} (b:Bool) (x:It),a.length=c.length->ncs (a++[b]) (c++[x])=ncs a c++(if b then [] else [x])
 |[],[],b,x,_=>by cases b <;> simp[ncs]
 |[],y::c,b,x,h=>by simp at h
 |d::a,[],b,x,h=>by simp at h
 |d::a,y::c,b,x,h=>by
  have ih:=QD (a:=a) (c:=c) b x (by simpa using h);rw[aV,aV,ncs,ncs,ih];cases d <;> simp
theorem VD:∀(a:List Bool) (c:List It),(ncs a c).length<=c.length
 |[],c=>by simp[ncs]
 |d::a,[]=>by simp[ncs]
 |d::a,y::c=>by
  have:=VD a c;rw[ncs];cases d <;> simp <;> omega
def agQ (w:aj) (Xs:List It) (bs:List Bool) (N:Nat) (v a:aI) (wr:aj):Prop:=
 ∃j:Nat,j<=N/\a= .int .i64 (j:Nat)/\Hid (oZ w wr v (ncs (bs.take j) (Xs.take j)))/\Hid (Ext w wr)
theorem Tv (w0 W:aj) (T:Nat) (A:Option Addr) (n cap:Nat) (V0 V:List (Int×Int)) (Xs:List It) (bs:List Bool) (C:List It) (hs:List Int) (g:TkV) (h:TkS w0 W T A n cap V0 V Xs bs C hs g) (a:bs.length=Xs.length) (hN:Xs.length<=400000):
  aX Tryz.prog 108 #[.pointer (some ⟨T,0,none⟩)] W (YR W (ncs bs Xs)):=by
 obtain⟨AX,cX,eX,_,J⟩:=h.its.open;have U:=h.came.2;have t2:W.cell? ⟨T,2,none⟩=some (.slice AX Xs.length cX):=by rw[<-eX];exact h.tb.cell rfl
 obtain⟨Z,X,eC,H⟩:∃Z X,g.vC= .slice Z bs.length X/\∀j,j<bs.length->∃b,Z=some ⟨b,0,none⟩/\W.cell? ⟨b,j,none⟩=some (.bool (bs.getD j false)):=by
  rcases U with⟨h0,K⟩|⟨bC,X,cur,e,_,hgb,_,_,_,hcur⟩
  ·exact⟨none,0,by rw[h0,K],λj hj=>ω⟩
  ·refine⟨_,X,e,λj hj=>⟨bC,rfl,?_⟩⟩
   have K:(cur.toList.take (bs.length*1))[j]? =some (.bool (bs.getD j false)):=by
        rw[hcur,bY,eu,aO ω];rfl
   rw[iA,if_pos ω,bg] at K;simp[jW,hgb,K]
 have t3:W.cell? ⟨T,3,none⟩=some (.slice Z bs.length X):=by rw[<-eC];exact h.tb.cell rfl
 obtain⟨N,f⟩:∃N,Xs.length=N:=⟨_,rfl⟩;rw[f] at t2 a hN;rw[a] at t3;replace f:=ah f;replace a:=ah a;replace J:=ah J;replace H:=ah H;clear eX eC U h;go_enter Tryz.func108,Tryz.ntmps108
 go_wp2_with fail
 go_loopw [3,11] (agQ W Xs bs N) (λ_ vi _=>N-(intOf vi).toNat)
 case atStart=>exact⟨0,cK _,rfl,ah (oZ.nil _ _),ah (Ext.refl _)⟩
 case round=>
  obtain⟨j,a4,rfl,ho,i⟩:=hrel;by_cases q:j<N
  ·obtain⟨gx,ox,x,e,M,hC⟩:=J.out.at (k:=j) (by rw[f.out];exact q)
   obtain⟨c0,c1,c2,c3,c4,c5,c6⟩:=hC;obtain⟨bC,eb,cb⟩:=H.out j (by rw[a.out];exact q);subst e eb;have c0:=i.out.keep c0;have c1:=i.out.keep c1;have c2:=i.out.keep c2;have c3:=i.out.keep c3;have c4:=i.out.keep c4;have c5:=i.out.keep c5;have c6:=i.out.keep c6;have cb:=i.out.keep cb;have a2:=i.out.keep t2;have a1:=i.out.keep t3;obtain⟨b,I⟩:∃b,bs.getD j false=b:=⟨_,rfl⟩;rw[I] at cb;have O:=ah (show ncs (bs.take (j+1)) (Xs.take (j+1))=ncs (bs.take j) (Xs.take j)++(if b then [] else [x]) by
        rw[cZ,cZ,M,<-I,eu,aO (by rw[a.out];exact q)];exact QD _ _ (by rw[bN,bN,a.out,f.out]))
   have Y:=ah q;have a7:(0:Int)<=(j:Int):=ω
   have a6:(j:Int)<(N:Int):=ω
   have a5:(j:Int)<400000:=ω
   clear I M;cases b with
   |true=>
    have x1:Ext wr (wr.alloc (.cells #[Vu x.c,Vu x.k,Vu x.lc,Vu x.lk,Vu x.rc,Vu x.rk,.int .i32 x.ch] 57)):=(Ext.refl wr).alloc _;have u:=ah (i.out.trans x1);have z:=ah (ho.out.ext x1)
    go_wp2_with fail
    go_roundw
    case rel=>
     refine⟨j+1,Y.out,ν,ah ?_,u⟩;rw[O.out,if_pos rfl,bZ];exact z.out
    case measure=>have:=Y.out;simp[intOf];omega
   |false=>
    have x1:Ext wr ((wr.alloc (.cells #[Vu x.c,Vu x.k,Vu x.lc,Vu x.lk,Vu x.rc,Vu x.rk,.int .i32 x.ch] 57)).alloc (.cells #[Vu x.c,Vu x.k,Vu x.lc,Vu x.lk,Vu x.rc,Vu x.rk,.int .i32 x.ch] 57)):=((Ext.refl wr).alloc _).alloc _;have u:=ah (i.out.trans x1);have z:=ah (ho.out.ext x1);have hz:Hid (ItS ((wr.alloc (.cells #[Vu x.c,Vu x.k,Vu x.lc,Vu x.lk,Vu x.rc,Vu x.rk,.int .i32 x.ch] 57)).alloc (.cells #[Vu x.c,Vu x.k,Vu x.lc,Vu x.lk,Vu x.rc,Vu x.rk,.int .i32 x.ch] 57)) (some ⟨wr.heap.size+1,0,none⟩) [x]):=ah (by
     have e:(wr.alloc (.cells #[Vu x.c,Vu x.k,Vu x.lc,Vu x.lk,Vu x.rc,Vu x.rk,.int .i32 x.ch] 57)).heap.size=wr.heap.size+1:=ι
     rw[<-e];exact Row.new (wr.alloc (.cells #[Vu x.c,Vu x.k,Vu x.lc,Vu x.lk,Vu x.rc,Vu x.rk,.int .i32 x.ch] 57)) #[Vu x.c,Vu x.k,Vu x.lc,Vu x.lk,Vu x.rc,Vu x.rk,.int .i32 x.ch] 57)
    have a0:=ah (show(ncs (bs.take j) (Xs.take j)).length+[x].length<=40000000 by
     have K:=VD (bs.take j) (Xs.take j);rw[bN] at K;have:=f.out;rw[dJ];omega)
    go_wp2_with(at_builtin;refine qj (w0:=W) rfl (.tmp 24) (.tmp 26) rfl _ (ncs (bs.take j) (Xs.take j)) rfl z.out u.out _ 1 1 [x] rfl rfl hz.out a0.out ?_;intro v9 w9 o9 x9 g9 b9;replace o9:=ah o9;replace x9:=ah x9;clear g9 b9)
    go_roundw
    case rel=>
     refine⟨j+1,Y.out,ν,ah ?_,x9⟩;rw[O.out];exact o9.out
    case measure=>have:=Y.out;simp[intOf];omega
  ·have a3:j=N:=ω
   have Q:=ah (show ncs (bs.take j) (Xs.take j)=ncs bs Xs by rw[bI (by rw[a.out];omega),bI (by rw[f.out];omega)])
   go_wp2_with fail
   go_ret;exact⟨_,rfl,by rw[<-Q.out];exact ho.out,i.out⟩
end
section
open Go.ChangeShapes Go.WideShapes Go.ChangeAt Go.RowKit Go.Sort
attribute [local go_sem] au
variable {w:aj}
theorem oZ.empty {W:aj} (a:Ext w W):oZ w (W.alloc (.cells #[] 57)) (.slice (some ⟨W.heap.size,0,none⟩) 0 0) []:=
 ⟨rfl,.inr ⟨W.heap.size,0,#[],rfl,a.size,aT W _,aD _,by unfold maxLen;omega,rfl,rfl⟩⟩
theorem UJ (A:Option Addr) (n cap:Nat) (l:List It) (w:aj) (hv:ItS w A l) (I:l.length=n) (M:n<=40000000):
  aX Tryz.prog 140 #[.slice A n cap] w (YR w l):=by
 have K:∀(W:aj) (a:Option Addr) (n c f j:Nat),(binOp .eql 39 (.slice a n c) (.slice none f j)).run Tryz.prog W= .ok (.bool a.isNone) W:=λW a n c f j=>Lib.run_eql_slice_nil W _ _ a n c f j Tryz.underlying39
 cases A with
 |none=>
  have J:l=[]:=by
   cases l with
   |nil=>rfl
   |cons x l=>obtain⟨b,o,e,_⟩:=hv (by simp[flat,encI]);cases e
  subst J;go_enter Tryz.func140,Tryz.ntmps140;go_wp2;go_ret;exact⟨_,rfl,oZ.nil _ _,Ext.refl _⟩
 |some a=>
  have q:=(Ext.refl w).alloc (.cells #[] 57);have i:=hv.ext q;have H:=oZ.empty (Ext.refl w);go_enter Tryz.func140,Tryz.ntmps140
  go_wp2_with(at_builtin;refine qj (w0:=w) rfl (.tmp 5) (.tmp 6) rfl _ [] rfl H q (some a) n cap l rfl I i (by simp only[aR];omega) ?_)
  intro u w3 z x3 N _;go_wp2;go_ret;exact⟨u,rfl,z,x3⟩
theorem Yw (a b c d:Int) (w:aj):aX Tryz.prog 100 #[idv a b,idv c d] w λe w'=>e= .returned (Vi (rE a b c d))/\∃os,w'=grow w os:=by
 by_cases h:a=c
 ·subst h
  go_enter Tryz.func100,Tryz.ntmps100
  go_wp2_with(go_at_call 129;refine(sQ _ _ _).mono ?_;rintro e w' ⟨rfl,rfl⟩)
  go_ret;exact⟨by simp[rE],_,by rw[iR,iR,grow_grow]⟩
 ·have f:(a !=c)=true:=by simpa using h
  go_enter Tryz.func100,Tryz.ntmps100
  go_wp2_with(go_at_call 129;refine(sQ _ _ _).mono ?_;rintro e w' ⟨rfl,rfl⟩)
  go_ret;exact⟨by simp[rE,h],_,by rw[iR,iR,grow_grow]⟩
def UG (x y:It):Int:=rE x.c x.k y.c y.k
theorem IE (x y:It):decide (UG x y<0)=ltI (iid x) (iid y):=by
 unfold UG rE wJ ltI iid;rw[Bool.eq_iff_iff,decide_eq_true_eq,decide_eq_true_eq];simp only
 (repeat' split) <;> omega
theorem abL:SWO (ltOf UG) where
 irrefl x:=by unfold ltOf;rw[IE];simp[ltI]
 trans x y z h1 h2:=by
  unfold ltOf at h1 h2⊢;rw[IE] at h1 h2⊢;unfold ltI iid at h1 h2⊢;rw[decide_eq_true_eq] at h1 h2⊢;simp only at h1 h2⊢;omega
 ntrans x y z h1 h2:=by
  unfold ltOf at h1 h2⊢;rw[IE] at h1 h2⊢;unfold ltI iid at h1 h2⊢;rw[decide_eq_false_iff_not] at h1 h2⊢;simp only at h1 h2⊢;omega
theorem UF (x y:It) (w:aj):aX Tryz.prog 142 #[itv x,itv y] w λe w'=>e= .returned (Vi (UG x y))/\∃q f,w'=grow (w.drewN q) f:=by
 obtain⟨r,i⟩:∃r,UG x y=r:=⟨_,rfl⟩;rw[i];have j:=ah (λW=>Yw x.c x.k y.c y.k W);have a:rE x.c x.k y.c y.k=r:=i;rw[a] at j;clear i a;go_enter Tryz.func142,Tryz.ntmps142
 go_wp2_with fail
 refine(j.out _).mono ?_;rintro e u ⟨rfl,os,rfl⟩
 go_wp2_with fail
 go_ret;exact⟨rfl,0,_,by rw[iR,iR,grow_grow,grow_grow];rfl⟩
instance:Inhabited It:=⟨⟨0,0,0,0,0,0,0⟩⟩
theorem Kz (d:Array It) (j:Nat) (i:j<d.size*7):(flat encI d.toList)[j]? =some (flatK encI 7 d)[j]! :=by
 have f:j/7<d.size:=ω
 have q:d.toList[j/7]? =some d[j/7]! :=by
  rw[bg,getElem!_pos d (j/7) f];exact fC f
 have e:j=j/7*7+j%7:=ω
 rw[get_flatK _ _ _ _ i]
 conv=>lhs;rw[e]
 rw[E5 uq q ω];have a:j%7<(encI d[j/7]!).length:=by rw[uq];omega
 rw[getElem!_pos (encI d[j/7]!) (j%7) a];exact aO a
theorem Uo (d:Array It):(flatK encI 7 d).toList=flat encI d.toList:=by
 apply mO;intro j;by_cases a:j<d.size*7
 ·rw[Kz d j a,bg,getElem!_pos _ j (by simpa using a)]
  exact fC _
 ·rw[eF (by simpa using a),eF (by rw[oV uq];simpa using a)]
theorem PU (d:Array aI) (c:Array aI) (h:d.size<=c.size):(putCells id 0 d c).toList.take d.size=d.toList:=by
 apply mO;intro j;rw[iA];by_cases a:j<d.size
 ·rw[if_pos a,bg,bg]
  simp only[putCells,Array.getElem?_mapIdx];rw[fC (show j<c.size by omega),fC a];simp[a]
 ·rw[if_neg a,bg,jM ω]
theorem Ud {base g cap:Nat} {r:List It} (h:w.ownsRow base 57 7 (.slice (some ⟨g,0,none⟩) r.length cap) r.length (flat encI r)):HoldsK encI 7 w g 0 r.toArray:=by
 intro j e;have a:j<r.length*7:=by simpa using e
 have i:=h.cellAt j a;have f:=Kz r.toArray j (by simpa using a);rw[bH];refine⟨?_,h.frozenAt j⟩;rw[i];exact f
theorem oZ.sorted {w0:aj} {g cap:Nat} {l:List It} (h:oZ w0 w (.slice (some ⟨g,0,none⟩) l.length cap) l) (q:Nat) (d:Array It) (os:Array Obj) (i:d.size=l.length):oZ w0 (sortWorldK encI 7 w g 0 q d os) (.slice (some ⟨g,0,none⟩) l.length cap) d.toList:=by
 rcases h.2 with⟨h0,_⟩|⟨g',cap',cur,e,hbase,hgb,r1,r2,r3,r4⟩
 ·cases h0
 ·injection e with e1 e2 e3
  injection e1 with e1;injection e1 with e1;subst e1;subst e3;have f:g<w.heap.size:=(aC.1 hgb).1;have j:(sortWorldK encI 7 w g 0 q d os).heap[g]? =some (.cells (putCells id 0 (flatK encI 7 d) cur) 57 (0,0)):=by
   unfold sortWorldK putRowK;rw[heap_grow_old _ _ (by rw[size_putRow];exact f)];simp[putRow,mapBlock,Sort.ahead,dZ,hgb,onCells]
  have a:d.toList.length=l.length:=by simpa using i
  refine⟨by rw[a,oV uq,a],.inr ⟨g,cap,_,by rw[a],hbase,j,by rw[a];exact r1,r2,by simp[putCells,r3],?_⟩⟩;have:=PU (flatK encI 7 d) cur (by rw[size_flatK,r3,i];omega);rw[size_flatK,i] at this;rw[a,this,Uo]
theorem SG (w:aj) (g q:Nat) (d:Array It) (os:Array Obj):TSb (λb=>b=g) w (sortWorldK encI 7 w g 0 q d os):=by
 have f:TSb (λb=>b=g) w (putRowK encI 7 (Sort.ahead w q) g 0 d):=by
  refine⟨rfl,rfl,rfl,?_,λk i a=>?_⟩
  ·unfold putRowK;rw[size_putRow];exact aD _
  ·unfold putRowK putRow mapBlock
   show(w.heap.modify g _)[k]? =w.heap[k]?;rw[dZ,if_neg (λe=>a e.symm)]
 exact f.trans (TSb.ext (S:=λb=>b=g) (Ext.nX _ _ os)) (λ_ _ e=>e)
theorem WY (w0 w:aj) (v:aI) (l:List It) (h:oZ w0 w v l) (X:l.length<=400000):
  aX Tryz.prog 141 #[v,.func (.func 142) #[] #[]] w λe w'=>
   e= .returned (.tuple #[])/\∃z:List It,z.Perm l/\z.Pairwise (λs t=>ltI (iid t) (iid s)=false)/\oZ w0 w' v z/\TSb (λb=>v.ownBlock=some b) w w':=by
 obtain⟨A,c,rfl,W,_⟩:=h.open;cases l with
 |nil=>
  refine(AnyF.slices_SortFunc_none Tryz.sortIt A c _ w).mono ?_;rintro e w' ⟨I,rfl⟩;exact⟨I,[],.refl _,.nil,h,TSb.refl _ _⟩
 |cons x r=>
  obtain⟨g,rfl⟩:∃g,A=some ⟨g,0,none⟩:=by
   rcases h.2 with⟨h0,_⟩|⟨g',cap',cur,e,_⟩
   ·cases h0
   ·injection e with e1 e2 e3
    exact⟨g',e1⟩
  have O:g<w.heap.size:=(oZ.lt h g rfl).2;generalize x::r=l at*;have U:∀args w,(callFunc 142 args).run Tryz.prog w= .ok (.enter 142 args) w:=enters_of Tryz.func142 κ rfl;have Q:=Ud h;have u:CmpLays Tryz.prog 142 #[] encI 7 UG g 0 l.toArray.size w:=λ_ _ _ _ x y=>UF x y _
  have q:=AnyQ.slices_SortFunc Tryz.sortIt 7 Tryz.isAgg57 Tryz.sizeOf57 encI uq KE UG abL 142 #[] g 0 c l.toArray w U u Q O (by simp;omega);refine Calls.mono q ?_;rintro e w' ⟨I,f,n,os,J,N,M⟩;subst M;have a:f.size=l.length:=by have:=J.1;simpa using this
  refine⟨I,f.toList,?_,?_,oZ.sorted h n f os a,Bf (SG w g n f os) (λj _ e=>by rw[e];rfl)⟩
  ·have:=J.2.2
   have e:List.take f.size l=l:=bI ω;simpa[<-a,e] using this
  ·rw[List.pairwise_iff_getElem]
   intro i j hi K H;have:=N i j (cK _) H (by simpa[<-a] using K);unfold ltOf at this;rw[IE] at this;rw[getElem!_pos f j (by simpa using K),getElem!_pos f i (by simpa using hi)] at this;simpa using this
end
section
open Go.ChangeShapes Go.WideShapes Go.ChangeAt Go.RowKit Go.Sort Go.Maps
structure NewAt (w:aj) (A:Option Addr) (n cap m:Nat) (L:List It) (T bS bW:Nat) (vX vC:aI) (wx:aj):Prop where
 ext:Ext w wx
 tb:wx.heap[T]? =some (.cells #[.slice A n cap,.map (some bS),vX,vC,.slice none 0 0,.slice none 0 0,.map (some bW)] 217 (0,0))
 sS:wx.heap[bS]? =some (.map #[] 0)
 sW:wx.heap[bW]? =some (.map #[] 0)
 ne:bS≠bW
 lS:w.heap.size<=bS
 lW:w.heap.size<=bW
 lT:w.heap.size<=T
 its:oZ w wx vX L
 came:∃q,vC= .slice (some ⟨q,0,none⟩) m m/\w.heap.size<=q/\wx.heap[q]? =some (.cells (jo #[.bool false] m) 4 (0,0))
theorem heap_drew (W:aj):W.drew.heap=W.heap:=rfl
theorem sI (W:aj) (o:Obj):(W.alloc o).heap.size=W.heap.size+1:=ι
theorem wG (W:aj) (o:Obj) (k:Nat):(W.alloc o).heap[k]? =if k=W.heap.size then some o else W.heap[k]? :=by
 by_cases h:k=W.heap.size
 ·subst h
  rw[if_pos rfl];exact aT W o
 ·rw[if_neg h]
  rcases Nat.lt_or_ge k W.heap.size with a|a
  ·exact aJ ((Ext.refl W).alloc o) k a
  ·rw[jM a,jM (by rw[sI];omega)]
theorem Z9 {w w3 a:aj} {A:Option Addr} {n cap m:Nat} {L:List It} {T bS bW:Nat} {vX vC:aI} (e:Ext w3 a) (k:Ext w3 a->NewAt w A n cap m L T bS bW vX vC a):NewAt w A n cap m L T bS bW vX vC a:=k e
theorem FlB (m:Nat):(jo #[.bool false] m).toList=(fF m false).map Value.bool:=by
 simp[jo,Nat.mod_one,List.map_const']
theorem Ur (m:Nat):(jo #[.bool false] m).toList.take (m*1)=(fF m false).map Value.bool:=by
 have h:=FlB m;rw[Nat.mul_one,bI (by simp[jo])];exact h
theorem NewAt.state {w:aj} {A:Option Addr} {n cap m:Nat} {L:List It} {T bS bW:Nat} {vX vC:aI} {M:aj} (h:NewAt w A n cap m L T bS bW vX vC M) {V:List (Int×Int)} (hv:Vec w A V) {Q:aj} {L':List It} (hI:oZ w Q vX L')
  (u:TSb (λb=>vX.ownBlock=some b) M Q) (f:m<=40000000):
  ∃g,TkS w Q T A n cap V V L' (fF m false) [] [] g/\g.Wt=[]/\g.vX=vX:=by
 obtain⟨q,eC,hq,z⟩:=h.came;subst eC;have hX:∀b,vX.ownBlock=some b->∃K,M.heap[b]? =some (.cells K 57 (0,0)):=by
  intro b f;rcases h.its.2 with⟨e,_⟩|⟨g,cap,K,e,_,hgb,_⟩
  ·rw[e] at f;cases f
  ·rw[e] at f
   injection f with f;subst f;exact⟨K,hgb⟩
 have Z:bS≠T:=λe=>by have i:=h.tb;rw[<-e,h.sS] at i;cases i
 have Y:bW≠T:=λe=>by have i:=h.tb;rw[<-e,h.sW] at i;cases i
 have N:∀b,vX.ownBlock=some b->b≠T/\b≠bS/\b≠bW/\b≠q:=λb f=>by
  obtain⟨K,j⟩:=hX b f;refine⟨λe=>?_,λe=>?_,λe=>?_,λe=>?_⟩
  ·rw[e,h.tb] at j
   injection j with j;injection j with _ j;exact absurd j δ
  ·rw[e,h.sS] at j;cases j
  ·rw[e,h.sW] at j;cases j
  ·rw[e,z] at j
   injection j with j;injection j with _ j;exact absurd j δ
 have W:q≠T:=λe=>by
  have i:=h.tb;rw[<-e,z] at i;injection i with i;injection i with _ i;exact absurd i δ
 have X:q≠bS:=λe=>by have i:=h.sS;rw[<-e,z] at i;cases i
 have U:q≠bW:=λe=>by have i:=h.sW;rw[<-e,z] at i;cases i
 have a0:MapU M bS 0 (.map []):=by
  obtain⟨es,a1,I,F,hs,hD⟩:=World.ownsMap_made w Tryz.prog 24 (plainElem (H:=Unit) Tryz.prog 24);rw[aT] at I;injection I with I;injection I with e1 e2;subst e1 e2;exact⟨#[],0,h.sS,F,hs,hD⟩
 let g:TkV:=⟨bS,bW,vX,.slice (some ⟨q,0,none⟩) m m,.slice none 0 0,.slice none 0 0,[],λb=>if b=T then .t else if b=bS then .s else if b=bW then .m else if vX.ownBlock=some b then .x else .c⟩
 have O:∀b,vX.ownBlock=some b->g.tg b= .x:=λb f=>by
  obtain⟨i,h2,h3,_⟩:=N b f;show(if b=T then Tg.t else if b=bS then .s else if b=bW then .m else if vX.ownBlock=some b then .x else .c)= .x;rw[if_neg i,if_neg h2,if_neg h3,if_pos f]
 have J:TkS w M T A n cap V V L (fF m false) [] [] g:={
  tb:=h.tb,vec:=hv,kn:=⟨0,.map [],aD _,a0,TN V⟩,its:=h.its,
  came:=⟨ι,.inr ⟨q,m,_,by simp[g],hq,z,ι,by unfold maxLen;omega,by simp[jo],by rw[List.length_replicate];exact Ur m⟩⟩,
  come:=oZ.nil _ _,ready:=qE.nil _ _,wm:=⟨#[],0,h.sW,rfl,jd,ι⟩,wl:=λt u=>(by cases u),keys:=List.nodup_nil,low:=h.ext,
  gT:=if_pos rfl,
  gS:=(by show(if bS=T then Tg.t else if bS=bS then .s else if bS=bW then .m else if vX.ownBlock=some bS then .x else .c)= .s;rw[if_neg Z,if_pos rfl]),
  gM:=(by show(if bW=T then Tg.t else if bW=bS then .s else if bW=bW then .m else if vX.ownBlock=some bW then .x else .c)= .m;rw[if_neg Y,if_neg (λe=>h.ne e.symm),if_pos rfl]),
  gX:=O,
  gC:=λb f=>(by
   injection f with f;subst f;show(if q=T then Tg.t else if q=bS then .s else if q=bW then .m else if vX.ownBlock=some q then .x else .c)= .c;rw[if_neg W,if_neg X,if_neg U,if_neg (λe=>(N q e).2.2.2 rfl)]),
  go:=λb f=>(by cases f),gr:=λb f=>(by cases f),gw:=λt u=>(by cases u),bT:=h.lT,bbS:=h.lS,bbW:=h.lW }
 have hS:∀b,vX.ownBlock=some b->g.tg b= .x:=O;refine⟨g,{ J with tb:=J.tbT u (λb f e=>?_),kn:=J.knT u (λb f e=>?_),its:=hI,came:=J.KN u (λb f e=>?_),come:=J.KH u (λb f e=>?_),ready:=J.DN u (λb f e=>?_),wm:=J.wmT u (λb f e=>?_),wl:=J.wlT u (λb f a e=>?_),low:=J.TR u (λb f=>(oZ.lt h.its b f).1) },rfl,rfl⟩
 all_goals(rw[hS b f] at e;cases e)
def H8 (j:Nat):List Int:=(jm j).map λi:Nat=>(i:Int)
theorem ZJ (j:Nat):H8 (j+1)=H8 j++[(j:Int)]:=by unfold H8;rw[List.range_succ,iw];rfl
theorem acU {j:Nat} {k:Int} (h:k∈H8 j):∃i:Nat,k=i/\i<j:=by
 obtain⟨i,e,a⟩:=dH.1 h;exact⟨i,a.symm,List.mem_range.1 e⟩
theorem VG:∀(m k:Nat),nci k (fF m false)=(jm m).map λi:Nat=>((k+i:Nat):Int)
 |0,k=>rfl
 |m+1,k=>by
  rw[List.replicate_succ,nci,if_neg ι,VG m (k+1),List.range_succ_eq_map,bU,fJ]
  congr 1
  refine dR λi _=>?_
  simp only[jE];omega
theorem Oy:∀(L:List It),ncs (fF L.length false) L=L
 |[]=>rfl
 |x::L=>by
  rw[aH,List.replicate_succ,ncs,if_neg ι,Oy L]
theorem SI {V:List (Int×Int)} {Xs:List It} (f:oq 0 V=true) (h:∀x∈Xs,okW x/\nW V x.c<=x.k):KU V Xs (fF Xs.length false) (sM V Xs (H8 Xs.length) ([],[])).1 (sM V Xs (H8 Xs.length) ([],[])).2:=by
 obtain⟨u,q⟩:=CG.all (V:=V) (Xs:=Xs) (H8 Xs.length) (s:=([],[])) (CG.none V Xs) (λk j=>by
  obtain⟨i,rfl,hi⟩:=acU j;have a:=h Xs[i] (List.getElem_mem hi);have:=a.1.2.2.2;exact⟨Xs[i],by rw[dx];exact aO hi,sO _ f,a.2,ω⟩)
 refine⟨u,ι,?_,λi x _ a=>(h x (aP a)).2,f⟩;rw[VG];have e:(jm Xs.length).map (λi:Nat=>((0+i:Nat):Int))=H8 Xs.length:=by
  unfold H8;refine dR λi _=>?_
  omega
 rw[e];simpa[sF] using q
theorem WV {L e:List It} (j:wT L) (i:e.Perm L) (u:e.Pairwise λs t=>ltI (iid t) (iid s)=false):e=zi [] L:=by
 have f:=Aq i.symm j;have a:uE e:=(u.and f).imp λ{s t} h=>by
  obtain⟨q,z⟩:=h;unfold ltI at q⊢;rw[decide_eq_false_iff_not] at q;rw[decide_eq_true_eq];by_cases I:(iid s).1=(iid t).1
  ·by_cases H:(iid s).2=(iid t).2
   ·exact absurd (Prod.ext I H) z
   ·omega
  ·omega
 refine ZL a (FN .nil (by simpa using j)) λx=>?_
 rw[(zf L []).mem_iff,i.mem_iff];simp
end
section
open Go.ChangeShapes Go.WideShapes Go.ChangeAt Go.RowKit Go.Sort Go.Maps
attribute [local go_sem] au
theorem XV:(Tryz.prog.info? 4).map (λi=>(i.zero,i.size,i.bytes))=some (some (.bool false),1,1):=κ
theorem TQ (c:Int) (n:Nat) (q:c=n) (u:n<=40000000) (W:aj):(Instr.makeSlice 213 (.int .i64 c) (.int .i64 c)).run Tryz.prog W= .ok (.slice (some ⟨W.heap.size,0,none⟩) n n) (W.alloc (.cells (jo #[.bool false] n) 4)):=by
 subst q;obtain⟨i,hi,f,e,a⟩:=info_parts XV;have j:=run_make (P:=Tryz.prog) W 213 4 i _ Tryz.underlying213 hi f .i64 .i64 (n:Int) (n:Int) ω ω (by rw[a];omega) ω;rw[e,Nat.mul_one] at j;exact j
def acj (w:aj) (T:Nat) (A:Option Addr) (n cap m:Nat) (V:List (Int×Int)) (Xs:List It) (e:aI) (wr:aj):Prop:=
 ∃(j:Nat) (g:TkV) (a:List Int),j<=m/\e= .int .i64 (j:Nat)/\Hid (TkS w wr T A n cap V V Xs (fF m false) [] a g)/\Hid ((plW g.Wt,a)=sM V Xs (H8 j) ([],[]))/\Hid (a.length+tK (plW g.Wt)=j)
def aiy (w:aj) (A:Option Addr) (n cap:Nat) (V:List (Int×Int)) (Xs:List It) (e:Ending) (w':aj):Prop:=
 ∃(T:Nat) (g:TkV) (a:List Int),e= .returned (.pointer (some ⟨T,0,none⟩))/\TkS w w' T A n cap V V Xs (fF Xs.length false) [] a g/\(plW g.Wt,a)=sM V Xs (H8 Xs.length) ([],[])
theorem Z8 (A B:Option Addr) (n cap m YD:Nat) (V:List (Int×Int)) (L:List It) (w:aj) (hv:Vec w A V) (hn:V.length=n) (a9:n<=400000) (b1:oq 0 V=true) (hL:ItS w B L) (Y:L.length=m) (hb:m<=400000) (H:wT L) (u:∀x∈L,wfI x):
  aX Tryz.prog 106 #[.slice A n cap,.slice B m YD] w (aiy w A n cap V (zi [] L)):=by
 have a5:=ah (λ(W:aj) (K:Ext w W)=>UJ B m YD L W (hL.ext K) Y ω);have b3:=λW:aj=>run_makeMap (P:=Tryz.prog) 210 W
 have b2:=λW:aj=>run_makeMap (P:=Tryz.prog) 215 W
 have b0:=TQ (m:Int) m rfl ω;replace Y:=ah Y;replace hn:=ah hn;replace hv:=ah hv;replace hL:=ah hL;replace H:=ah H;replace u:=ah u;go_enter Tryz.func106,Tryz.ntmps106
 go_upto_region 1 with fail
 go_cut [5,8,11,14,15] (λs a b c d wx=>∃T bS bW,s= .pointer (some ⟨T,0,none⟩)/\a= .map (some bS)/\d= .map (some bW)/\Hid (NewAt w A n cap m L T bS bW b c wx))
 case first=>
  clear H u hv hn
  go_region_with(go_at_call 140;refine(a5.out _ ?_).mono ?_;(first|exact((Ext.refl w).drew)|exact(((Ext.refl w).alloc _).drew)|exact((((Ext.refl w).alloc _).alloc _).drew)|exact(((((Ext.refl w).alloc _).alloc _).alloc _).drew));rintro e w3 ⟨v3,rfl,o3,x3⟩;obtain⟨A3,c3,rfl,d6,_⟩:=o3.open;have s3:=x3.size;simp at s3)
  all_goals
   go_wp2_with fail
   go_meet;refine⟨_,_,_,rfl,rfl,rfl,ah (Z9 (w3:=w3) ?_ (λi=>?_))⟩
   · (repeat(first|exact Ext.refl _|(with_reducible refine Ext.drew ?_)|(with_reducible refine Ext.alloc ?_ _)))
   ·have y1:=Ext.trans (a:=w) (by(repeat(first|exact Ext.refl _|(with_reducible refine Ext.drew ?_)|(with_reducible refine Ext.alloc ?_ _)))) x3
    have b8:=y1.size;exact⟨y1.trans i,(by(first|(simp only[heap_drew,wG,sI,if_true];(repeat(rw[if_neg ω];try simp only[if_true]));done)|exact(aJ i _ (by first|omega|(simp;omega))).trans ((aJ x3 _ (by simp only[heap_drew,sI];omega)).trans (by simp only[heap_drew,wG,sI,if_true];(repeat(rw[if_neg ω];try simp only[if_true])))))),(by(first|(simp only[heap_drew,wG,sI,if_true];(repeat(rw[if_neg ω];try simp only[if_true]));done)|exact(aJ i _ (by first|omega|(simp;omega))).trans ((aJ x3 _ (by simp only[heap_drew,sI];omega)).trans (by simp only[heap_drew,wG,sI,if_true];(repeat(rw[if_neg ω];try simp only[if_true])))))),(by(first|(simp only[heap_drew,wG,sI,if_true];(repeat(rw[if_neg ω];try simp only[if_true]));done)|exact(aJ i _ (by first|omega|(simp;omega))).trans ((aJ x3 _ (by simp only[heap_drew,sI];omega)).trans (by simp only[heap_drew,wG,sI,if_true];(repeat(rw[if_neg ω];try simp only[if_true])))))),ω,ω,ω,ω,(oZ.down o3 (by(repeat(first|exact Ext.refl _|(with_reducible refine Ext.drew ?_)|(with_reducible refine Ext.alloc ?_ _))))).ext i,⟨_,rfl,ω,(by(first|(simp only[heap_drew,wG,sI,if_true];(repeat(rw[if_neg ω];try simp only[if_true]));done)|exact(aJ i _ (by first|omega|(simp;omega))).trans ((aJ x3 _ (by simp only[heap_drew,sI];omega)).trans (by simp only[heap_drew,wG,sI,if_true];(repeat(rw[if_neg ω];try simp only[if_true]))))))⟩⟩
 case rest=>
  obtain⟨T,bS,bW,rfl,rfl,rfl,f⟩:=hcut;have a6:TB wc T #[.slice A n cap,.map (some bS),u11,u14,.slice none 0 0,.slice none 0 0,.map (some bW)]:=f.out.tb;have t2:wc.cell? ⟨T,2,none⟩=some u11:=a6.cell rfl;have z:=ah (WY w wc _ L f.out.its (by have:=Y.out;omega));have d1:u11.ownBlock≠some T:=λe=>by
   rcases f.out.its.2 with⟨e2,_⟩|⟨g9,aki,cur,e2,_,hgb,_⟩
   ·rw[e2] at e;cases e
   ·rw[e2] at e
    injection e with e;have U:=f.out.tb;rw[<-e,hgb] at U;injection U with U;injection U with _ U;exact absurd U δ
  obtain⟨AX,cX,eX,_,_⟩:=f.out.its.open;rw[Y.out] at eX;subst eX;clear a5 b3 b2 b0
  go_wp2_with fail
  refine z.out.mono ?_;rintro e w2 ⟨rfl,L',hp,hr,hI,ht⟩;obtain⟨g0,hg,N,a4⟩:=f.out.state hv.out hI ht ω;have b6:=WV H.out hp hr;subst b6;obtain⟨Xs,I⟩:∃Xs,zi [] L=Xs:=⟨_,rfl⟩;rw[I] at hg hp;replace I:=ah I;have q:Xs.length=m:=by rw[hp.length_eq];exact Y.out
  have X:∀x∈Xs,wfI x:=λx K=>u.out x (hp.mem_iff.1 K)
  have b9:w2.cell? ⟨T,2,none⟩=some (.slice AX m cX):=by rw[<-a4];exact hg.tb.cell rfl
  have Z:Hid (acj w T A n cap m V Xs (.int .i64 0) w2):=ah ⟨0,g0,[],cK _,rfl,ah hg,ah (by rw[N];rfl),ah (by rw[N];rfl)⟩;replace X:=ah X;replace q:=ah q;clear hg N a4 hI ht hr z f a6 hp u H t2
  go_wp2_with fail
  go_loopw [28] (acj w T A n cap m V Xs) (λvi _=>m-(intOf vi).toNat)
  case atStart=>exact Z.out
  case round=>
   clear Z;obtain⟨j,g,hs,d2,rfl,O,a2,M⟩:=hrel;by_cases a3:j<m
   ·obtain⟨x,K⟩:∃x,Xs[j]? =some x:=⟨Xs[j]'(by rw[q.out];exact a3),aO _⟩
    have a0:∀t∈g.Wt,t.2.2.length<=400000:=λt ht=>by
     have U:t.2.2.length<=tK (plW g.Wt):=P5 (p:=plW g.Wt) (t:=(t.1,t.2.2)) (dH.2 ⟨t,ht,rfl⟩);have:=M.out;omega
    have b7:=ah (WE w wr T A n cap V V Xs (fF m false) [] hs g j x O.out hn.out b1 a9 K (by rw[q.out];exact hb) (X.out x (aP K)) (by have:=M.out;omega) a0);have a8:=ah (Cj V Xs (H8 j) (j:Int) ([],[]) x (by rw[dx];exact K));have a7:=ah (WC V x (j:Int) (p:=plW g.Wt) hs (by rw[Jo];exact O.out.keys));have EP:=ah a3;have d5:(0:Int)<=(j:Int):=ω
    have d4:(j:Int)<(m:Int):=ω
    have d3:(j:Int)<400000:=ω
    clear a0 K
    go_wp2_with fail
    refine b7.out.mono ?_;rintro e w' ⟨rfl,g',a1,Q,b5,J⟩;replace Q:=ah Q;replace J:=ah J;clear b5;go_wp2
    go_roundw
    case rel=>
     refine⟨j+1,g',a1,EP.out,ν,Q,ah ?_,ah ?_⟩
     ·rw[ZJ,a8.out,<-a2.out];exact J.out
     ·have h9:=a7.out
      rw[<-J.out] at h9;have h8:=M.out;have d7:a1.length+tK (plW g'.Wt)=hs.length+tK (plW g.Wt)+1:=h9;omega
    case measure=>have:=EP.out;simp[intOf];omega
   ·have b4:j=m:=ω
    subst b4
    go_wp2_with fail
    go_ret;refine⟨T,g,hs,rfl,?_,?_⟩
    ·rw[I.out,q.out];exact O.out
    ·rw[I.out,q.out];exact a2.out
end
section
open Go.ChangeShapes Go.WideShapes Go.ChangeAt Go.RowKit Go.Sort
theorem Xf (w0:aj) (blk off cap a b N:Nat) (d:Array Int) (w:aj) (R:RoU w0 blk off N) (S:SWu w0 blk off N d w) (Q:a<b) (X:b<=N) (J:N<=400000000):
  aX Tryz.prog 254 #[.slice (some ⟨blk,off,none⟩) N cap,.int .i64 a,.int .i64 b] w λe w'=>e= .returned (.tuple #[])/\SWu w0 blk off N (reverseRange d a b) w':=by
 replace S:=ah S;go_enter Tryz.func254,Tryz.ntmps254;go_wp2
 go_loopw [6,7] (λu I wr=>∃(i j:Nat) (q:Array Int),u= .int .i64 i/\I= .int .i64 j/\i<=j+2/\i<=N/\j<N/\Hid (SWu w0 blk off N q wr)/\Hid (nQ i j q=nQ a (b-1) d)) (λu _ _=>N-(intOf u).toNat)
 case atStart=>exact⟨a,b-1,d,ν,by congr 1;omega,ω,ω,ω,S,ah rfl⟩
 case round=>
  clear S;obtain⟨i,j,q,rfl,rfl,K,hi,W,z,H⟩:=hrel;obtain⟨G,U,O,M⟩:=R.fam z.out;by_cases f:i<j
  ·go_wp2_with fail
   go_region
   all_goals go_wp2
   go_roundw
   case rel=>
        refine⟨i+1,j-1,swp q i j,ν,by congr 1;omega,ω,ω,ω,?_,?_⟩
        ·exact ah (z.out.IW R U _ i j ω ω)
        ·exact ah (by rw[<-H.out];conv=>rhs;rw[nQ,if_pos f])
   case measure=>simp[intOf];omega
  ·go_wp2
   go_end0
   exact⟨rfl,by unfold reverseRange;rw[<-H.out,nQ,if_neg f];exact z.out⟩
theorem I6 (w0:aj) (blk off cap lo hi first N:Nat) (d:Array Int) (w:aj) (R:RoU w0 blk off N) (S:SWu w0 blk off N d w) (X:lo<=hi) (hb:first+hi<=N) (Y:N<=400000000):
  aX Tryz.prog 271 #[.slice (some ⟨blk,off,none⟩) N cap,.int .i64 lo,.int .i64 hi,.int .i64 first] w λe w'=>e= .returned (.tuple #[])/\SWu w0 blk off N (gY bL hi first lo d) w':=by
 replace S:=ah S;go_enter Tryz.func271,Tryz.ntmps271;go_wp2
 go_loopw [8] (λW wr=>∃(root:Nat) (f:Array Int),W= .int .i64 root/\root<=hi/\Hid (SWu w0 blk off N f wr)/\Hid (gY bL hi first root f=gY bL hi first lo d)) (λW _=>hi-(intOf W).toNat)
 case atStart=>exact⟨lo,d,rfl,X,S,ah rfl⟩
 case round=>
  clear S;obtain⟨root,f,rfl,hr,H,I⟩:=hrel;obtain⟨G,a,j,i⟩:=R.fam H.out;by_cases h0:hi<=2*root+1
  ·go_wp2
   go_end0
   exact⟨rfl,by rw[<-I.out,sd_end bL f h0];exact H.out⟩
  ·have a0:¬((hi:Int)<=2*(root:Int)+1):=ω
   by_cases U:2*root+2<hi
   ·have Q:2*(root:Int)+1+1<(hi:Int):=ω
    go_wp2_with fail
    go_big_quiet(first|(go_at_call 256;refine qw _ _ _ _))
    go_wp2_with fail
    ·have M:bL f[first+(2*root+1)]! f[first+(2*root+2)]! =true:=by rw[<-a.out,<-a.out];assumption
     have q:=ah (H.out.drewN nq);clear H j i;clear a;generalize wr.drewN nq=u at q⊢;clear nq;obtain⟨G,a,j,i⟩:=R.fam q.out
     go_big_quiet(first|(go_at_call 256;refine qw _ _ _ _))
     go_wp2_with fail
     ·have K:bL f[first+root]! f[first+(2*root+2)]! =false:=by
       have:(!ltInt (G (first+root)) (G (first+(2*root+2))))=true:=by assumption
       rw[<-a.out,<-a.out];simpa using this
      (try simp only[jP,Exit.then]);refine aN (lg rfl _ _ _) rfl ?_
      exact⟨rfl,by rw[<-I.out,sd_right_stop bL f U M K];exact q.out.drewN _⟩
     ·have O:bL f[first+root]! f[first+(2*root+2)]! =true:=by
       have:(!ltInt (G (first+root)) (G (first+(2*root+2))))=false:=by assumption
       rw[<-a.out,<-a.out];simpa using this
      have z:=ah (q.out.drewN nq);clear q j i;clear a;generalize u.drewN nq=J at z⊢;clear nq;obtain⟨G,a,j,i⟩:=R.fam z.out
      go_region
      all_goals go_wp2
      go_roundw
      case rel=>exact⟨2*root+2,swp f (first+root) (first+(2*root+2)),by congr 1 <;> omega,ω,ah (SWu.IW R z.out a _ (first+root) (first+(2*root+2)) ω ω),ah (by rw[<-I.out,sd_right_go bL f U M O])⟩
      case measure=>simp[intOf];omega
    ·have M:bL f[first+(2*root+1)]! f[first+(2*root+2)]! =false:=by rw[<-a.out,<-a.out];assumption
     have q:=ah (H.out.drewN nq);clear H j i;clear a;generalize wr.drewN nq=u at q⊢;clear nq;obtain⟨G,a,j,i⟩:=R.fam q.out
     go_big_quiet(first|(go_at_call 256;refine qw _ _ _ _))
     go_wp2_with fail
     ·have K:bL f[first+root]! f[first+(2*root+1)]! =false:=by
       have:(!ltInt (G (first+root)) (G (first+(2*root+1))))=true:=by assumption
       rw[<-a.out,<-a.out];simpa using this
      (try simp only[jP,Exit.then]);refine aN (lg rfl _ _ _) rfl ?_
      exact⟨rfl,by rw[<-I.out,sd_left_stop bL f ω (λ_=>M) K];exact q.out.drewN _⟩
     ·have O:bL f[first+root]! f[first+(2*root+1)]! =true:=by
       have:(!ltInt (G (first+root)) (G (first+(2*root+1))))=false:=by assumption
       rw[<-a.out,<-a.out];simpa using this
      have z:=ah (q.out.drewN nq);clear q j i;clear a;generalize u.drewN nq=J at z⊢;clear nq;obtain⟨G,a,j,i⟩:=R.fam z.out
      go_region
      all_goals go_wp2
      go_roundw
      case rel=>exact⟨2*root+1,swp f (first+root) (first+(2*root+1)),by congr 1 <;> omega,ω,ah (SWu.IW R z.out a _ (first+root) (first+(2*root+1)) ω ω),ah (by rw[<-I.out,sd_left_go bL f ω (λ_=>M) O])⟩
      case measure=>simp[intOf];omega
   ·have Q:¬(2*(root:Int)+1+1<(hi:Int)):=ω
    have Z:decide (2*(root:Int)+1+1<(hi:Int))=false:=decide_eq_false Q
    go_wp2_with fail
    go_big_quiet(first|(go_at_call 256;refine qw _ _ _ _))
    go_wp2_with fail
    have q:=ah (H.out.drewN nq);clear H j i;clear a;generalize wr.drewN nq=u at q⊢;clear nq;obtain⟨G,a,j,i⟩:=R.fam q.out
    go_big_quiet(first|(go_at_call 256;refine qw _ _ _ _))
    go_wp2_with fail
    ·have K:bL f[first+root]! f[first+(2*root+1)]! =false:=by
      have:(!ltInt (G (first+root)) (G (first+(2*root+1))))=true:=by assumption
      rw[<-a.out,<-a.out];simpa using this
     (try simp only[jP,Exit.then]);refine aN (lg rfl _ _ _) rfl ?_
     exact⟨rfl,by rw[<-I.out,sd_left_stop bL f ω (λh=>absurd h U) K];exact q.out.drewN _⟩
    ·have O:bL f[first+root]! f[first+(2*root+1)]! =true:=by
      have:(!ltInt (G (first+root)) (G (first+(2*root+1))))=false:=by assumption
      rw[<-a.out,<-a.out];simpa using this
     have z:=ah (q.out.drewN nq);clear q j i;clear a;generalize u.drewN nq=J at z⊢;clear nq;obtain⟨G,a,j,i⟩:=R.fam z.out
     go_region
     all_goals go_wp2
     go_roundw
     case rel=>exact⟨2*root+1,swp f (first+root) (first+(2*root+1)),by congr 1 <;> omega,ω,ah (SWu.IW R z.out a _ (first+root) (first+(2*root+1)) ω ω),ah (by rw[<-I.out,sd_left_go bL f ω (λh=>absurd h U) O])⟩
     case measure=>simp[intOf];omega
theorem Ro (w0:aj) (blk off cap a n N:Nat) (z:Int) (d:Array Int) (w:aj) (R:RoU w0 blk off N) (S:SWu w0 blk off N d w) (hz:z-(a:Int)=(n:Int)) (a0:1<=n) (hb:a+n<=N) (I:N<=400000000):
  aX Tryz.prog 251 #[.slice (some ⟨blk,off,none⟩) N cap,.int .i64 a,.int .i64 z] w λe w'=>e= .returned (.tuple #[])/\SWu w0 blk off N (heapPop bL a n (nR bL n a ((n-1)/2+1) d)) w':=by
 replace S:=ah S;have K:((n:Int)-1)/2=(((n-1)/2+1:Nat):Int)-1:=ω
 replace K:=ah K;obtain⟨m,W⟩:∃m,m=(n-1)/2+1:=⟨_,rfl⟩;have a1:m<=n:=ω
 rw[<-W] at K⊢;clear W;go_enter Tryz.func251,Tryz.ntmps251;go_wp2
 go_loopw [9] (λj wr=>∃(k:Nat) (f:Array Int),j= .int .i64 ((k:Int)-1)/\k<=n/\Hid (SWu w0 blk off N f wr)/\Hid (nR bL n a k f=nR bL n a m d)) (λj _=>(intOf j+1).toNat)
 case atStart=>exact⟨m,d,by rw[K.out],ω,S,ah rfl⟩
 case round=>
  clear S;obtain⟨k,f,rfl,hk,i,H⟩:=hrel;cases k with
  |zero=>
   have Y:=ah (show f=nR bL n a m d by rw[<-H.out];rfl);clear H;rw[show((0:Nat):Int)-1= -1 from rfl]
   go_wp2_with fail
   go_loopw [10] (λj O=>∃(k:Nat) (f:Array Int),j= .int .i64 ((k:Int)-1)/\k<=n/\Hid (SWu w0 blk off N f O)/\Hid (heapPop bL a k f=heapPop bL a n (nR bL n a m d))) (λj _=>(intOf j+1).toNat)
   case atStart=>exact⟨n,f,by rfl,aD _,i,ah (by rw[Y.out])⟩
   case round=>
        clear i Y;clear f;obtain⟨k,f,rfl,hk,i,H⟩:=hrel;cases k with
        |zero=>
         go_wp2
         go_end0
         exact⟨rfl,by rw[<-H.out];exact i.out⟩
        |succ k=>
         have M:((k+1:Nat):Int)-1=(k:Int):=ω
         rw[M];obtain⟨G,X,J,Q⟩:=R.fam i.out;obtain⟨u,U⟩:=Gw J a (a+k) (.int .u32 (G (a+k))) ω ω;have Z:(0:Int)<=(a:Int)+(k:Int):=ω
         go_wp2_with fail
         go_region
         all_goals go_wp2_with fail
         refine(I6 w0 blk off cap 0 k a N (swp f a (a+k)) _ R (SWu.AP R i.out X a (a+k) ω ω) ω ω I).mono ?_;rintro e w1 ⟨rfl,q⟩;replace q:=ah q;clear i J Q U;clear X;go_wp2
         go_roundw
         case rel=>exact⟨k,gY bL k a 0 (swp f a (a+k)),by rfl,ω,q,ah (by rw[<-H.out];rfl)⟩
         case measure=>simp[intOf]
  |succ k=>
   have M:((k+1:Nat):Int)-1=(k:Int):=ω
   rw[M]
   go_wp2_with fail
   refine(I6 w0 blk off cap k n a N f _ R i.out ω ω I).mono ?_;rintro e w1 ⟨rfl,q⟩;replace q:=ah q;clear i;go_wp2
   go_roundw
   case rel=>exact⟨k,gY bL n a k f,by rfl,ω,q,ah (by rw[<-H.out];rfl)⟩
   case measure=>simp[intOf]
theorem Ui (w0:aj) (blk off cap a b N:Nat) (d:Array Int) (w:aj) (R:RoU w0 blk off N) (S:SWu w0 blk off N d w) (i:a<b) (j:b<=N) (f:N<=400000000):
  aX Tryz.prog 251 #[.slice (some ⟨blk,off,none⟩) N cap,.int .i64 a,.int .i64 b] w λe w'=>e= .returned (.tuple #[])/\SWu w0 blk off N (heapSort bL d a b) w':=
 Ro w0 blk off cap a (b-a) N b d w R S ω ω ω f
section
variable {p:Prop}
theorem abW (h:p:=by
 clear S2;obtain⟨q,rfl,hq1,hq2,SQ,HQ⟩:=hrel;obtain⟨G,HG,hcw,hfw⟩:=R.fam SQ.out;by_cases hle:i2<=q
 ·have hd:decide ((i2:Int)<=(q:Int))=true:=decide_eq_true ω
  have hz:(i2:Int)<=(q:Int):=ω
  cases hl:bL (G q) (G a) with
  |false=>
   go_wp2_with fail
   go_big_quiet(first|(go_at_call 256;refine qw _ _ _ _))
   go_wp2_with fail
   go_roundw
   case rel=>exact⟨q-1,by congr 1;omega,ω,ω,ah (SQ.out.drewN _),ah (by rw[<-HQ.out,<-scanDown_go _ _ _ _ hle ω (by rw[<-HG.out,<-HG.out,hl];rfl)])⟩
   case measure=>simp[intOf];omega
  |true=>
   go_wp2_with fail
   go_big_quiet(first|(go_at_call 256;refine qw _ _ _ _))
   go_wp2_with fail
   go_meet;exact⟨q,rfl,ah (by rw[<-HQ.out,scanDown_end _ _ _ _ (Or.inr (by rw[<-HG.out,<-HG.out,hl];rfl))]),hq1,hq2,ah (SQ.out.drewN _)⟩
 ·have hd:decide ((i2:Int)<=(q:Int))=false:=decide_eq_false ω
  have hz:¬(i2:Int)<=(q:Int):=ω
  go_wp2_with fail
  go_big_quiet(first|(go_at_call 256;refine qw _ _ _ _))
  go_wp2_with fail
  go_meet;exact⟨q,rfl,ah (by rw[<-HQ.out,scanDown_end _ _ _ _ (Or.inl hle)]),hq1,hq2,ah (SQ.out.drewN _)⟩):p:=h
theorem abV (h:p:=by
 go_wp2_with fail
 go_big_quiet(first|(go_at_call 256;refine qw _ _ _ _))
 go_wp2_with fail
 go_roundw
 case rel=>exact⟨p+1,ν,ω,ω,ah (SP.out.drewN _),ah (by rw[<-HP.out,<-scanUp_go _ _ _ _ hle (by rw[<-HG.out,<-HG.out,hl])])⟩
 case measure=>simp[intOf];omega):p:=h
theorem abU (h:p:=by
 go_wp2_with fail
 go_big_quiet(first|(go_at_call 256;refine qw _ _ _ _))
 go_wp2_with fail
 go_meet;exact⟨p,rfl,ah (by rw[<-HP.out,scanUp_end _ _ _ _ (Or.inr (by rw[<-HG.out,<-HG.out,hl]))]),hp1,hp2,ah (SP.out.drewN _)⟩):p:=h
theorem Qw (w0:aj) (blk off cap a b f N:Nat) (d:Array Int) (w:aj) (R:RoU w0 blk off N) (S:SWu w0 blk off N d w) (d4:a<=f) (d2:f<b) (hb:b<=N) (b9:N<=400000000):
  aX Tryz.prog 258 #[.slice (some ⟨blk,off,none⟩) N cap,.int .i64 a,.int .i64 b,.int .i64 f] w λe w'=>e= .returned (.tuple #[.int .i64 ((nS bL d a b f).1:Nat),.bool (nS bL d a b f).2.1])/\SWu w0 blk off N (nS bL d a b f).2.2 w':=by
 replace S:=ah S;obtain⟨Q,a8⟩:∃Q:Nat,Q=a+1:=⟨_,rfl⟩;obtain⟨I,a6⟩:∃I:Nat,I=b-1:=⟨_,rfl⟩;have b8:(a:Int)+1=(Q:Int):=ω
 have b6:(b:Int)-1=(I:Int):=ω
 have d8:a<Q:=ω
 have a3:Q<=I+1:=ω
 have d7:I<b:=ω
 obtain⟨J,U⟩:∃J,J=swp d a f:=⟨_,rfl⟩;obtain⟨T,hT⟩:∃T,T=nS bL d a b f:=⟨_,rfl⟩;rw[<-hT];have HT:=ah (show T=nS bL d a b f/\Q=a+1/\I=b-1/\J=swp d a f from⟨hT,a8,a6,U⟩);replace U:=ah U;clear hT a8 a6;go_enter Tryz.func258,Tryz.ntmps258
 go_wp2_with fail
 obtain⟨G,HG,hcw,hfw⟩:=R.fam S.out;obtain⟨u,a2⟩:=Gw hcw a f (.int .u32 (G f)) ω ω
 go_region
 have S1:Hid (SWu w0 blk off N J ((w.setCell ⟨blk,off+a,none⟩ (.int .u32 (G f))).setCell ⟨blk,off+f,none⟩ (.int .u32 (G a))).drew):=ah (by rw[U.out];exact SWu.AP R S.out HG a f ω ω);clear S hcw hfw a2 HG U;generalize((w.setCell ⟨blk,off+a,none⟩ (.int .u32 (G f))).setCell ⟨blk,off+f,none⟩ (.int .u32 (G a))).drew=w1 at*
 go_upto_block 0 with fail
 go_cut [10] (λs W=>∃p:Nat,s= .int .i64 p/\Hid (p=scanUp (λx=>bL x J[a]!) J I Q)/\Q<=p/\p<=I+1/\Hid (SWu w0 blk off N J W))
 case first=>
  go_wp2_with fail
  go_loopw [10] (λK wl=>∃p:Nat,K= .int .i64 p/\Q<=p/\p<=I+1/\Hid (SWu w0 blk off N J wl)/\Hid (scanUp (λx=>bL x J[a]!) J I p=scanUp (λx=>bL x J[a]!) J I Q)) (λK _=>I+1-(intOf K).toNat)
  case atStart=>exact⟨Q,rfl,aD _,a3,S1,ah rfl⟩
  case round=>
   clear S1;obtain⟨p,rfl,hp1,hp2,SP,HP⟩:=hrel;obtain⟨G,HG,hcw,hfw⟩:=R.fam SP.out;by_cases hle:p<=I
   ·have hd:decide ((p:Int)<=(I:Int))=true:=decide_eq_true ω
    have hz:(p:Int)<=(I:Int):=ω
    cases hl:bL (G p) (G a) with
    |true=>
     exact abV
    |false=>
     exact abU
   ·have hd:decide ((p:Int)<=(I:Int))=false:=decide_eq_false ω
    have hz:¬(p:Int)<=(I:Int):=ω
    go_wp2_with fail
    go_big_quiet(first|(go_at_call 256;refine qw _ _ _ _))
    go_wp2_with fail
    go_meet;exact⟨p,rfl,ah (by rw[<-HP.out,scanUp_end _ _ _ _ (Or.inl hle)]),hp1,hp2,ah (SP.out.drewN _)⟩
 case rest=>
  obtain⟨i2,rfl,O,b2,YF,S2⟩:=hcut;clear S1
  go_upto_block 2 with fail
  go_cut [11] (λs W=>∃q:Nat,s= .int .i64 q/\Hid (q=nI (λx=> !ltInt x J[a]!) J i2 I)/\q<=I/\i2<=q+1/\Hid (SWu w0 blk off N J W))
  case first=>
   go_wp2_with fail
   go_loopw [11] (λK wl=>∃q:Nat,K= .int .i64 q/\q<=I/\i2<=q+1/\Hid (SWu w0 blk off N J wl)/\Hid (nI (λx=> !ltInt x J[a]!) J i2 q=nI (λx=> !ltInt x J[a]!) J i2 I)) (λK _=>(intOf K).toNat)
   case atStart=>exact⟨I,rfl,aD _,YF,S2,ah rfl⟩
   case round=>
        exact abW
  case rest=>
   obtain⟨z,rfl,M,b0,b4,Y⟩:=hcut;clear S2;by_cases X:z<i2
   ·have hz:(z:Int)<(i2:Int):=ω
    have Z:=ah (show T=(z,true,swp J z a) by obtain⟨e1,e2,e3,e4⟩:=HT.out;rw[e1];exact part_first_break bL d a b f e2 e3 e4 O.out M.out X);obtain⟨G,HG,hcw,hfw⟩:=R.fam Y.out;obtain⟨u,a2⟩:=Gw hcw z a (.int .u32 (G a)) ω ω
    go_wp2_with fail
    go_region
    all_goals go_wp2_with fail
    all_goals exact aN (v:= .tuple #[.int .i64 (z:Nat),.bool true]) (by simp[results,Tryz.results258,go_sem]) rfl (by rw[Z.out];exact⟨rfl,SWu.AP R Y.out HG z a ω ω⟩)
   ·have hz:¬(z:Int)<(i2:Int):=ω
    have a4:=part_scans_lt bL a Q I J ω O.out M.out ω;obtain⟨G,HG,hcw,hfw⟩:=R.fam Y.out
    go_wp2_with fail
    go_region
    have S4:=ah (SWu.AP R Y.out HG i2 z ω ω);obtain⟨i3,a7⟩:∃i3:Nat,i3=i2+1:=⟨_,rfl⟩;obtain⟨j3,a5⟩:∃j3:Nat,j3=z-1:=⟨_,rfl⟩;obtain⟨d3,a1⟩:∃d3,d3=swp J i2 z:=⟨_,rfl⟩;obtain⟨L,hL⟩:∃L,L=partLoop bL a i3 j3 d3:=⟨_,rfl⟩;have Z:=ah (show T=(L.1,false,swp L.2 L.1 a) by
     obtain⟨e1,e2,e3,e4⟩:=HT.out;rw[e1,hL,a1,a7,a5];exact part_first_go bL d a b f e2 e3 e4 O.out M.out ω)
    have b7:(i2:Int)+1=(i3:Int):=ω
    have b5:(z:Int)-1=(j3:Int):=ω
    have b1:a<i3:=ω
    have b3:i3<=j3+1:=ω
    have a9:j3<b:=ω
    rw[<-a1] at S4;replace hL:=ah hL;clear Y hcw hfw HG a1 a7 a5 O M HT;generalize((wc.setCell ⟨blk,off+i2,none⟩ (.int .u32 (G z))).setCell ⟨blk,off+z,none⟩ (.int .u32 (G i2))).drew=w4 at*
    go_upto_block 4 with fail
    go_cut [11] (λs W=>∃q:Nat,s= .int .i64 q/\a<=q/\q<b/\Hid (q=L.1)/\Hid (SWu w0 blk off N L.2 W))
    case first=>
     go_wp2_with fail
     go_loopw [10,11] (λK vj wl=>∃(i j:Nat) (H:Array Int),K= .int .i64 i/\vj= .int .i64 j/\a<i/\i<=j+1/\j<b/\Hid (SWu w0 blk off N H wl)/\Hid (partLoop bL a i j H=L)) (λK vj _=>(intOf vj).toNat+1-(intOf K).toNat)
     case atStart=>exact⟨i3,j3,d3,rfl,rfl,b1,b3,a9,S4,ah hL.out.symm⟩
     case round=>
          clear S4 hL Z a4 hz X b2 YF b0 b4 b7 b5 b1 b3 a9 b8 b6;obtain⟨i,j,H,rfl,rfl,bi,a3,bj,S5,HL⟩:=hrel;generalize wr=w5 at*
          go_upto_block 6 with fail
          go_cut [10] (λs W=>∃p:Nat,s= .int .i64 p/\Hid (p=scanUp (λx=>bL x H[a]!) H j i)/\i<=p/\p<=j+1/\Hid (SWu w0 blk off N H W))
          case first=>
           go_wp2_with fail
           go_loopw [10] (λK wl=>∃p:Nat,K= .int .i64 p/\i<=p/\p<=j+1/\Hid (SWu w0 blk off N H wl)/\Hid (scanUp (λx=>bL x H[a]!) H j p=scanUp (λx=>bL x H[a]!) H j i)) (λK _=>j+1-(intOf K).toNat)
           case atStart=>exact⟨i,rfl,aD _,a3,S5,ah rfl⟩
           case round=>
            clear S5;obtain⟨p,rfl,hp1,hp2,SP,HP⟩:=hrel;obtain⟨G,HG,hcw,hfw⟩:=R.fam SP.out;by_cases hle:p<=j
            ·have hd:decide ((p:Int)<=(j:Int))=true:=decide_eq_true ω
             have hz:(p:Int)<=(j:Int):=ω
             cases hl:bL (G p) (G a) with
             |true=>
              exact abV
             |false=>
              exact abU
            ·have hd:decide ((p:Int)<=(j:Int))=false:=decide_eq_false ω
             have hz:¬(p:Int)<=(j:Int):=ω
             go_wp2_with fail
             go_big_quiet(first|(go_at_call 256;refine qw _ _ _ _))
             go_wp2_with fail
             go_meet;exact⟨p,rfl,ah (by rw[<-HP.out,scanUp_end _ _ _ _ (Or.inl hle)]),hp1,hp2,ah (SP.out.drewN _)⟩
          case rest=>
           obtain⟨i2,rfl,O,b2,YF,S2⟩:=hcut;clear S5
           go_upto_block 8 with fail
           go_cut [11] (λs W=>∃q:Nat,s= .int .i64 q/\Hid (q=nI (λx=> !ltInt x H[a]!) H i2 j)/\q<=j/\i2<=q+1/\Hid (SWu w0 blk off N H W))
           case first=>
            go_wp2_with fail
            go_loopw [11] (λK wl=>∃q:Nat,K= .int .i64 q/\q<=j/\i2<=q+1/\Hid (SWu w0 blk off N H wl)/\Hid (nI (λx=> !ltInt x H[a]!) H i2 q=nI (λx=> !ltInt x H[a]!) H i2 j)) (λK _=>(intOf K).toNat)
            case atStart=>exact⟨j,rfl,aD _,YF,S2,ah rfl⟩
            case round=>
             exact abW
           case rest=>
            obtain⟨z,rfl,M,b0,b4,Y⟩:=hcut;clear S2;by_cases X:z<i2
            ·have hz:(z:Int)<(i2:Int):=ω
             have a0:=ah (show(z,H)=L by rw[<-HL.out];exact(part_break bL a i j H O.out M.out X).symm)
             go_wp2_with fail
             go_meet;exact⟨z,rfl,ω,ω,ah (by rw[<-a0.out]),ah (by rw[<-a0.out];exact Y.out)⟩
            ·have hz:¬(z:Int)<(i2:Int):=ω
             have a4:=part_scans_lt bL a i j H ω O.out M.out ω;have a0:=ah (show partLoop bL a (i2+1) (z-1) (swp H i2 z)=L by rw[<-HL.out];exact(part_go bL a i j H O.out M.out ω).symm);obtain⟨G,HG,hcw,hfw⟩:=R.fam Y.out
             go_wp2_with fail
             go_region
             all_goals go_wp2_with fail
             go_roundw
             case rel=>exact⟨i2+1,z-1,swp H i2 z,ν,by congr 1;omega,ω,ω,ω,ah (SWu.AP R Y.out HG i2 z ω ω),a0⟩
             case measure=>simp[intOf];omega
    case rest=>
     obtain⟨q,rfl,d6,d5,hq,S6⟩:=hcut;clear S4;obtain⟨G,HG,hcw,hfw⟩:=R.fam S6.out;obtain⟨u,a2⟩:=Gw hcw q a (.int .u32 (G a)) ω ω
     go_wp2_with fail
     go_region
     all_goals go_wp2_with fail
     all_goals exact aN (v:= .tuple #[.int .i64 (q:Nat),.bool false]) (by simp[results,Tryz.results258,go_sem]) rfl (by rw[Z.out,<-hq.out];exact⟨rfl,SWu.AP R S6.out HG q a ω ω⟩)
end
end
end Go.Proofs.YtejbpijamdlgcaaGreatDoor

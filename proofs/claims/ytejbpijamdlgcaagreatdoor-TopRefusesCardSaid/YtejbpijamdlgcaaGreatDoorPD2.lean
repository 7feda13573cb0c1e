/-
  Lemmas of this seat; no claim.
-/
import Derived.Test.YtejbpijamdlgcaaGreatDoorPD1
import Derived.Test.YtejbpijamdlgcaaGreatDoorPR1
import Derived.Test.YtejbpijamdlgcaaGreatDoorPB1
import Derived.Test.YtejbpijamdlgcaaGreatDoorPP3
set_option linter.unusedVariables false
set_option linter.unusedSimpArgs false
set_option maxRecDepth 100000
set_option maxHeartbeats 16000000
open And renaming intro→bq
open Go renaming Calls→aX,World→aj,bodyPost_ret→aN,cell_of_row→ak,cell_regrown→av,frozen_of_row→aK,heap_alloc_new→aT,heap_setCell_same→aB,results→dK,wpQuiet_nil→bQ,wp_region_quiet_below→aL
open Go.IntKind renaming i64→dO,u32→aA
open Go.IntWalk renaming i64_in→cO,u32_in→iX
open Go.Lib renaming hid→ah
open Go.World renaming cell?_alloc_some→au
open Int renaming toNat_natCast→dx
open List renaming append_assoc→aY,append_nil→bZ,drop_eq_nil_of_le→gW,drop_zero→dX,filter_append→iC,length_append→ay,length_drop→bP,length_map→gI,length_pos_iff→jC,length_singleton→dJ,length_take→bN,mem_map→dH,mem_of_getElem?→aP,not_mem_nil→jk,size_toArray→mK
open List.Pairwise renaming nil→jd
open Nat renaming le_refl→aD,le_trans→aM,zero_le→cK
open Prod.mk renaming injEq→dI
namespace Go.Proofs.YtejbpijamdlgcaaGreatDoor
open Go.ChangeShapes Go.WideShapes Go.ChangeAt Go.RowKit Go.Sort
section
attribute [local go_sem] au calm oK oG
theorem U6 {P:Program} {c:Code} {Q:Exit->Act->aj->Prop} {a:Act} {W W':aj} (h:W=W') (g:c.wp P Q a W):c.wp P Q a W':=h▸g
theorem JX {R:Nat->Prop} {w:aj} {d:Nat} {S:DS} {q:DM} (h:pK R w d S q) (hK:DOK S) (hT:Tabs w) (hl:S.L.length<=200000) (hV:S.V.length<=400000) (hD:S.D.length<=400000) (Lj:S.ver<=1000000000) (p:Int) (hp: -9223372036854775808<=p/\p<=9223372036854775807) (t:List UInt8) (ht:t.length<=100000):
  aX Tryz.prog 47 #[.pointer (some ⟨d,0,none⟩),Vi p,.string ⟨t.toArray⟩] w (rZ w d R (yV S p t) (Ba S p t)):=by
 have H:yV S p t≠0->Ba S p t=S:=λg=>by unfold Ba;rw[if_neg (λe=>g e.1)]
 have n3:=h.cell (j:=15) (v:= .bool S.closed) rfl;cases b3:S.closed with
 |true=>
  have hi:yV S p t=6:=by unfold yV;rw[b3];rfl
  rw[H (by rw[hi];decide),hi];have I:=ah (rZ.same h 6 (qJ δ));rw[b3] at n3;clear h;go_enter Tryz.func47,Tryz.ntmps47;go_wp2;go_ret;exact I.out _ (Ext.refl _)
 |false=>
  rw[b3] at n3;have Q:=ah (validStr_any ⟨t.toArray⟩ w (by show t.toArray.size<=_;rw[mK];omega) hT);rw[show(⟨t.toArray⟩:ByteArray).data.toList=t from by simp] at Q;cases b0:Lib.validD t with
  |false=>
   have hi:yV S p t=1:=by unfold yV;rw[b3,b0];rfl
   rw[H (by rw[hi];decide),hi];rw[b0] at Q;have I:=ah (rZ.same h 1 (qJ δ));clear h;go_enter Tryz.func47,Tryz.ntmps47
   go_wp2_with fail
   refine Q.out.mono ?_;rintro e W' ⟨rfl,x⟩;go_wp2;go_ret;exact I.out _ x
  |true=>
   rw[b0] at Q;obtain⟨c2,c3,c4,c5,c6,c7,c8,c9,c10⟩:=h.BN;obtain⟨tt,ad,b6⟩:=h.ou.ls;have a5:=h.ou.ent;by_cases hb:p<0\/((om S.E).length:Int)<p
   ·have hi:yV S p t=3:=by unfold yV;rw[b3,b0,if_neg δ,if_neg δ,if_pos hb]
    rw[H (by rw[hi];decide),hi];have I:=ah (rZ.same h 3 (qJ δ));have a7:=ah (λ(W:aj) (e:Ext w W)=>(b6.ext e).YG ω p hp (by rw[a5];exact hb));rw[qJ δ] at a7;clear h b6;go_enter Tryz.func47,Tryz.ntmps47
    go_wp2_with fail
    refine Q.out.mono ?_;rintro e W' ⟨rfl,x⟩;replace c2:=x.keep c2;replace c3:=x.keep c3;replace c4:=x.keep c4;replace c5:=x.keep c5;replace c6:=x.keep c6;replace c7:=x.keep c7;replace c8:=x.keep c8;replace c9:=x.keep c9;replace c10:=x.keep c10
    go_wp2_with fail
    refine(a7.out _ x).mono ?_;rintro e W1 ⟨rfl,x1⟩;have u:=ah (((x.trans x1).alloc (.cells #[Vu 0,Vu 0] 55)).alloc (.cells #[Vu 0,Vu 0] 55));clear c2 c3 c4 c5 c6 c7 c8 c9 c10 x x1;go_wp2;go_ret;exact I.out _ u.out
   ·obtain⟨k,rfl⟩:∃k:Nat,p=(k:Int):=⟨p.toNat,ω⟩
    have o2:k<=(om S.E).length:=ω
    have a7:=ah (λ(W:aj) (e:Ext w W)=>(b6.ext e).between ω k (by rw[a5];exact o2));rw[a5] at a7;have p2:=Tz hK;have q3:=hK.c1;have q2:=hK.c0;have q1:=hK.l1;have q0:=hK.l0;have b2:yV S (k:Int) t=if S.lim+1<nxt S+(oJ t).length then 4 else 0:=by
       unfold yV;rw[b3,b0,if_neg δ,if_neg δ,if_neg hb]
    have a8:=ah (λ(W:aj)=>runeCount_any ⟨t.toArray⟩ W (by show t.toArray.size<_;rw[mK];omega));rw[Bj,show(⟨t.toArray⟩:ByteArray).data.toList=t from by simp] at a8;have n8:=aM (xI t) ht;obtain⟨n,hn⟩:∃n,(oJ t).length=n:=⟨_,rfl⟩;rw[hn] at b2 a8 n8;replace hn:=ah hn;replace b2:=ah b2;replace H:=ah H;have c0:=h.cell (j:=0) (v:=Vu S.cl) rfl;have c1:=h.cell (j:=1) (v:=Vu S.lim) rfl;have o8:=h.cell (j:=11) (v:= .slice q.A S.V.length q.ca) rfl;have h7:=ah (λ(W:aj) (e:Ext w W)=>JC q.A S.V.length q.ca S.V S.cl W (h.ou.vec.ext e) rfl hK.BM ω);rw[show nW S.V S.cl=nxt S from rfl] at h7;have d8:=ah (λ(W:aj)=>GK S.cl (nxt S) (n:Int) (S.lim+1) W ω ω ω ω ω ω);generalize d1:xW S.E k=bw at*;obtain⟨⟨l1,l2⟩,r1,r2⟩:=bw;simp only at a7;replace h:=ah h;replace b6:=ah b6;replace d1:=ah d1;generalize d6:nxt S=nx at*;replace d6:=ah d6;have p9:aA.wrap (S.lim+1)=S.lim+1:=iX _ ω;go_enter Tryz.func47,Tryz.ntmps47
    go_wp2_with fail
    refine Q.out.mono ?_;rintro e W' ⟨rfl,x⟩;replace c2:=x.keep c2;replace c3:=x.keep c3;replace c4:=x.keep c4;replace c5:=x.keep c5;replace c6:=x.keep c6;replace c7:=x.keep c7;replace c8:=x.keep c8;replace c9:=x.keep c9;replace c10:=x.keep c10
    go_wp2_with fail
    refine(a7.out _ x).mono ?_;rintro e W1 ⟨rfl,x1⟩;have u:=ah (((x.trans x1).alloc (.cells #[Vu l1,Vu l2] 55)).alloc (.cells #[Vu r1,Vu r2] 55));have b7:((W1.alloc (.cells #[Vu l1,Vu l2] 55)).alloc (.cells #[Vu r1,Vu r2] 55)).heap[W1.heap.size]? =some (.cells #[Vu l1,Vu l2] 55 (0,0)):=Ext.blk ((Ext.refl _).alloc _) (aT W1 _);have b8:((W1.alloc (.cells #[Vu l1,Vu l2] 55)).alloc (.cells #[Vu r1,Vu r2] 55)).heap[W1.heap.size+1]? =some (.cells #[Vu r1,Vu r2] 55 (0,0)):=by
       have:=aT (W1.alloc (.cells #[Vu l1,Vu l2] 55)) (.cells #[Vu r1,Vu r2] 55);rwa[show(W1.alloc (.cells #[Vu l1,Vu l2] 55)).heap.size=W1.heap.size+1 by simp] at this
    clear c2 c3 c4 c5 c6 c7 c8 c9 c10 x x1 Q a7
    go_wp2_with fail
    generalize(W1.alloc (.cells #[Vu l1,Vu l2] 55)).alloc (.cells #[Vu r1,Vu r2] 55)=W2 at*;generalize W1.heap.size+1=p8 at*;generalize W1.heap.size=p7 at*;have e0:=u.out.keep c0;have n2:=u.out.keep o8;refine qX 15 [rwI 12 (Vu nx),rw1 14 (λz W=>∃q,z=Vp q/\W2.heap.size<=q/\W.heap[q]? =some (.cells #[Vu 0,Vu 0] 55 (0,0)))] ⟨λ_ _ _ _ h _=>h,(by rintro _ _ _ _ ⟨q,Z,U,h3⟩ e;exact⟨q,Z,U,e.blk h3⟩),trivial⟩ λρ hI=>?_
    refine .s 12 (λW u y=>by
       have a0:=u.keep e0;have a1:=u.keep n2;exact oz) ?_
    refine .kv hI 0 (Vu nx) (λW X=>h7.out W (u.out.trans X)) ?_;refine .s 1 (λW u y=>oz) ?_;refine .o 1 [] (λW X y f N hN=>?_) ?_
    ·go_simp
     exact hN _ _ (λ_ e=>by cases e) ⟨_,rfl,X.size,aT W _⟩ ((Ext.refl W).alloc _)
    refine .fin λW hR ⟨_,⟨i,o9,n4,vD⟩,_⟩=>?_
    rw[show ρ 14=_ from o9];have f0:W.frozen? ⟨i,0,none⟩=false:=aK W i 0 _ _ vD;have f1:W.frozen? ⟨i,1,none⟩=false:=aK W i 1 _ _ vD;have k0:W.cell? ⟨i,0,none⟩=some (Vu 0):=ak W i 0 _ _ _ vD;have k1:W.cell? ⟨i,1,none⟩=some (Vu 0):=ak W i 1 _ _ _ vD;have j0:(W.setCell ⟨i,0,none⟩ (Vu S.cl)).heap[i]? =some (.cells #[Vu S.cl,Vu 0] 55 (0,0)):=aB W i 0 _ _ _ vD;have j1:((W.setCell ⟨i,0,none⟩ (Vu S.cl)).setCell ⟨i,1,none⟩ (Vu nx)).heap[i]? =some (.cells #[Vu S.cl,Vu nx] 55 (0,0)):=aB _ i 1 _ _ _ j0;have x3:Ext W2 ((W.setCell ⟨i,0,none⟩ (Vu S.cl)).setCell ⟨i,1,none⟩ (Vu nx)):=(hR.setCell n4 _).setCell n4 _;have g4:=ah (u.out.trans x3);have O:=ah (x3.blk b7);have J:=ah (x3.blk b8);replace vD:=ah j1;clear j0 j1 x3 hR e0 n2 u b7 b8 h7
    go_wp2_with fail
    generalize(W.setCell ⟨i,0,none⟩ (Vu S.cl)).setCell ⟨i,1,none⟩ (Vu nx)=W3 at*;clear f0 f1 k0 k1;have e1:=g4.out.keep c1;have k0:W3.cell? ⟨i,0,none⟩=some (Vu S.cl):=ak W3 i 0 _ _ _ vD.out;have k1:W3.cell? ⟨i,1,none⟩=some (Vu nx):=ak W3 i 1 _ _ _ vD.out;obtain⟨⟨a1,a2,a3⟩,d2⟩:∃x,tV S.cl nx (n:Int) (S.lim+1)=x:=⟨_,rfl⟩;rw[d2] at d8;simp only at d8;replace d2:=ah d2;refine tY 14 13 [rwI 2 (Vi (n:Int)),rwI 8 (.tuple #[idv a1 a2,qD a3]),rwB 12 (λz W=>∃q,z=Vp q/\W3.heap.size<=q/\W.heap[q]? =some (.cells #[Vu 0,Vu 0] 55 (0,0))),rw2 13 12 (λ_ z W=>∃q,z=Vp q/\W3.heap.size<=q/\W.heap[q]? =some (.cells #[Vu a1,Vu a2] 55 (0,0)))] (Ext W3) (λ_=>True) Ext (λ_ _=>True) ((Ext.refl _).drew) trivial (λ_ _=>Ext.trans) (λ_ _ _ _=>trivial)
       ⟨(λ_ _ _ _ h _=>h),(λ_ _ _ _ _ _ h _=>h),(λ_ _ _ _ h _=>h),(λ_ _ _ _ _ _ h _=>h),(by rintro _ _ _ _ ⟨q,Z,U,h3⟩ e;exact⟨q,Z,U,e.blk h3⟩),(λh=>by cases h),(by rintro _ _ _ _ ⟨q,Z,U,h3⟩ e;exact⟨q,Z,U,e.blk h3⟩),(λ_ h=>absurd rfl h),trivial⟩ λi8 i2=>?_
    refine .s1 2 false [] (λW u _ _=>by
       have u0:=u.keep k0;have u1:=u.keep k1;exact oz) ?_
    refine .kv1 i2 0 _ (λW X=>a8.out W) ?_;refine .s1 5 false [] (λW u _ _=>by
       have u0:=u.keep e1;exact oz) ?_
    refine .kv1 i2 1 _ (λW X=>d8.out W) ?_;refine .s1 3 false [] (λW u _ _=>oz) ?_;refine .o1 2 false [] (λW X _ _ N hN=>?_) ?_
    ·go_simp
     exact hN _ _ (λ_ e=>by cases e) ⟨_,rfl,X.size,aT W _⟩ ((Ext.refl W).alloc _)
    refine .o0 3 [2] (λW X _ f N hN=>?_) ?_
    ·obtain⟨⟨qb,a6,b1,a4⟩,_⟩:=f
     have a6:i8 12=_:=a6;have f0:W.frozen? ⟨qb,0,none⟩=false:=aK W qb 0 _ _ a4;have f1:W.frozen? ⟨qb,1,none⟩=false:=aK W qb 1 _ _ a4;have k0:W.cell? ⟨qb,0,none⟩=some (Vu 0):=ak W qb 0 _ _ _ a4;have k1:W.cell? ⟨qb,1,none⟩=some (Vu 0):=ak W qb 1 _ _ _ a4;have j0:(W.setCell ⟨qb,0,none⟩ (Vu a1)).heap[qb]? =some (.cells #[Vu a1,Vu 0] 55 (0,0)):=aB W qb 0 _ _ _ a4;have j1:((W.setCell ⟨qb,0,none⟩ (Vu a1)).setCell ⟨qb,1,none⟩ (Vu a2)).heap[qb]? =some (.cells #[Vu a1,Vu a2] 55 (0,0)):=aB _ qb 1 _ _ _ j0
     go_simp
     exact hN _ _ (λ_ e=>by cases e) ⟨qb,a6,b1,j1⟩ ((X.setCell b1 _).setCell b1 _) trivial
    refine .fin λW hR ⟨_,_,_,pE,_⟩=>?_
    obtain⟨g9,p0,p4,Ll⟩:=pE rfl;rw[show i8 12=_ from p0];have n5:=ah g4.out.size;have b4:=ah (g4.out.trans hR);replace O:=ah (hR.blk O.out);replace J:=ah (hR.blk J.out);replace vD:=ah (hR.blk vD.out);replace Ll:=ah Ll;clear hR k0 k1 e1 a8 d8 g4 hI i2 pE;generalize W=W4 at*;have q7:=p2.1;by_cases l3:S.lim+1<nx+(n:Int)
    ·have d3:(a1,a2,a3)=(0,0,4):=by rw[<-d2.out];unfold tV;rw[if_neg ω,if_pos ω]
     simp only[dI] at d3;obtain⟨rfl,rfl,rfl⟩:=d3;have hi:=ah (show yV S (k:Int) t=4 by rw[b2.out,if_pos l3]);have I:=ah (rZ.same h.out 4 (qJ δ) W4 b4.out);rw[qJ (by decide:(4:Int)≠0)];clear O J vD Ll b4 h;go_wp2;go_ret;rw[hi.out,H.out (by rw[hi.out];decide)];exact I.out
    ·have d3:(a1,a2,a3)=(S.cl,nx+(n:Int),0):=by rw[<-d2.out];unfold tV;rw[if_neg ω,if_neg ω]
     simp only[dI] at d3;obtain⟨rfl,rfl,rfl⟩:=d3;have hi:=ah (show yV S (k:Int) t=0 by rw[b2.out,if_neg l3]);rw[xQ];by_cases d5:t=[]
     ·subst d5
      have I:=ah (rZ.same h.out 0 xQ W4 b4.out);have n6:=ah (show Ba S (k:Int) []=S by unfold Ba;rw[if_neg (λe=>e.2 rfl)]);clear O J vD Ll b4 h;go_wp2;go_ret;rw[hi.out,n6.out];exact I.out
     ·have n9:t.isEmpty=false:=by cases t with|nil=>exact absurd rfl d5|cons x l=>rfl
      have n0:W4.cell? ⟨i,0,none⟩=some (Vu S.cl):=ak W4 i 0 _ _ _ vD.out;have n1:W4.cell? ⟨i,1,none⟩=some (Vu nx):=ak W4 i 1 _ _ _ vD.out;have m0:W4.cell? ⟨p7,0,none⟩=some (Vu l1):=ak W4 p7 0 _ _ _ O.out;have m1:W4.cell? ⟨p7,1,none⟩=some (Vu l2):=ak W4 p7 1 _ _ _ O.out;have o0:W4.cell? ⟨p8,0,none⟩=some (Vu r1):=ak W4 p8 0 _ _ _ J.out;have o1:W4.cell? ⟨p8,1,none⟩=some (Vu r2):=ak W4 p8 1 _ _ _ J.out;have g5:TM [(⟨S.cl,nx,l1,l2,r1,r2,t⟩:Rn)]:=by
       intro r hr;obtain rfl:r=_:=by simpa using hr
       have l5:=ab5 hK.kn hK.wfL (gdL S.D S.L) k;rw[show oQ S.L (gdL S.D S.L)=S.E from rfl,d1.out] at l5;simp only at l5;have k9:0<(oJ t).length:=by
           cases t with
           |nil=>exact absurd rfl d5
           |cons a r=>rw[uh _ ι];simp
       refine⟨?_,?_⟩
       ·unfold rW
        rw[decide_eq_true_eq];refine⟨b0,k9,by show S.cl≠0;omega,?_⟩;show nx+((oJ t).length:Int)-1<=4294967294;rw[hn.out];omega
       ·unfold wfR
        simp only;omega
      have h0:=ah (Gm (some ⟨W4.heap.size,0,none⟩) 1 1 [(⟨S.cl,nx,l1,l2,r1,r2,t⟩:Rn)] _ (RnS.new W4 _) rfl g5 ω (by rw[show nY [(⟨S.cl,nx,l1,l2,r1,r2,t⟩:Rn)]=rX ⟨S.cl,nx,l1,l2,r1,r2,t⟩ by simp[nY],JW];show(oJ t).length<=_;rw[hn.out];omega));have m3:=ah (show nY [(⟨S.cl,nx,l1,l2,r1,r2,t⟩:Rn)]=BO S (k:Int) t by
       unfold BO;rw[dx,d1.out,d6.out];simp[nY,rX])
      rw[m3.out] at h0
      go_wp2_with fail
      refine h0.out.mono ?_;rintro e W5 ⟨vM,rfl,oM,x5⟩;obtain⟨AM,cM,rfl,q4,iM⟩:=oM.open;have g8:=((Ext.refl W4).alloc (.cells #[Vu S.cl,Vu nx,Vu l1,Vu l2,Vu r1,Vu r2,.string ⟨t.toArray⟩] 64)).trans x5;have g0:=ah (b4.out.trans g8);replace Ll:=ah (g8.blk Ll.out);replace iM:=ah iM;clear n0 n1 m0 m1 o0 o1 O J vD b4 g8 x5 oM h0 n9 g5;obtain⟨b9,i7⟩:=VK hK hi.out;have m2:(BO S (k:Int) t).length=n:=by unfold BO;rw[wF,hn.out]
      have o4:=ah (show Ba S (k:Int) t={ S with L:=S.L++BO S (k:Int) t,V:=setOf S.V S.cl (nx+(n:Int)),ver:=S.ver+1 } by
       unfold Ba;rw[if_pos ⟨hi.out,d5⟩,d6.out,hn.out])
      generalize hM:BO S (k:Int) t=M at*;clear hM m3 d1 b2 H;have h5:=h.out.ext g0.out;obtain⟨e2,e3,e4,e5,e6,e7,e8,e9,i6⟩:=h5.BN;have i5:=h5.cell (j:=13) (v:= .slice q.C S.D.length q.cc) rfl;have g6:=ah (λ(W:aj) (e:Ext W5 W)=>(NG (h5.ou.ls.ext e) AM q.C M.length cM S.D.length q.cc M S.D (iM.out.ext e) rfl (h5.ou.sps.ext e) rfl hK.DY hD b9 (λx X=>(i7 x X).1) ω).mono (by
       rintro e9 w9 ⟨z,rfl,⟨F1,g1,g2⟩,g3⟩;exact⟨_,rfl,⟨z,rfl,F1,g1,λb hb=>(g2 b hb).imp id λg=>aM (aM g0.out.size e.size) g⟩,g3⟩:∀e9 w9,_->∃v,e9= .returned v/\(∃z:Lv,v= .tuple #[lsv z,.nilIface]/\NwL q.F w.heap.size (S.L++M) (q.G++gdL S.D M) w9 z)/\Ext W w9))
      generalize i1:S.L++M=Ln at*;generalize i3:q.G++gdL S.D M=Gn at*;clear h5;replace i1:=ah i1;replace i3:=ah i3;replace m2:=ah m2;replace b9:=ah b9;replace i7:=ah i7;replace a5:=ah a5
      go_wp2_with fail
      refine tY 15 14 [rw1 9 (λz9 W=>∃z2:Lv,z9= .tuple #[lsv z2,.nilIface]/\NwL q.F w.heap.size Ln Gn W z2),rw1 11 (λz9 W=>∃z2:Lv,z9=lsv z2/\NwL q.F w.heap.size Ln Gn W z2),rw1 12 (λz9 _=>z9= .nilIface),rwB 13 (λz9 W=>∃q,z9=Vp q/\W5.heap.size<=q/\BxL W q zLv),rw2 14 13 (λ_ v W=>∃q9 z2,v=Vp q9/\W5.heap.size<=q9/\BxL W q9 z2/\NwL q.F w.heap.size Ln Gn W z2)] (Ext W5) (λ_=>True) Ext (KLC W5) ((Ext.refl _).drew) trivial (λ_ _=>Ext.trans) (λ_ _ _ _=>trivial)
       ⟨(by rintro _ _ _ _ ⟨yv,Z,U⟩ e;exact⟨yv,Z,U.ext e⟩),(λ_ _=>by rintro _ _ _ _ ⟨yv,Z,U⟩ e;exact⟨yv,Z,U.klc e⟩),(by rintro _ _ _ _ ⟨yv,Z,U⟩ e;exact⟨yv,Z,U.ext e⟩),(λ_ _=>by rintro _ _ _ _ ⟨yv,Z,U⟩ e;exact⟨yv,Z,U.klc e⟩),(λ_ _ _ _ h _=>h),(λ_ _ _ _ _ _ h _=>h),(by rintro _ _ _ _ ⟨q,Z,U,h3⟩ e;exact⟨q,Z,U,h3.ext e⟩),(λh=>by cases h),(by rintro _ _ _ _ ⟨q,yv,Z,U,h3,h4⟩ e;exact⟨q,yv,Z,U,h3.ext e,h4.ext e⟩),(λ_ h=>absurd rfl h),trivial⟩ λρ hI=>?_
      refine .s1 9 false [] (λW u _ _=>by
       have e2:=u.keep e2;have e3:=u.keep e3;have e4:=u.keep e4;have e5:=u.keep e5;have e6:=u.keep e6;have e7:=u.keep e7;have e8:=u.keep e8;have e9:=u.keep e9;have i6:=u.keep i6;have i5:=u.keep i5;exact oz) ?_
      refine .o1 0 false [] (λW X _ _ N hN=>?_) ?_
      ·go_simp
       exact(g6.out W X).mono (by rintro e W2 ⟨v,rfl,Z,U⟩;exact⟨_,rfl,hN _ _ (λ_ e=>by cases e) Z U⟩)
      refine .s1 1 false [] (λW u _ _=>oz) ?_;refine .o1 1 false [0] (λW X _ f N hN=>?_) ?_
      ·obtain⟨⟨yv,e9,m4⟩,_⟩:=f
       have e9:ρ 9=_:=e9
       go_simp
       exact hN _ _ (λ_ e=>by cases e) ⟨yv,rfl,m4⟩ (Ext.refl _)
      refine .o1 2 false [0] (λW X _ f N hN=>?_) ?_
      ·obtain⟨⟨yv,e9,m4⟩,_⟩:=f
       have e9:ρ 9=_:=e9
       go_simp
       exact hN _ _ (λ_ e=>by cases e) rfl (Ext.refl _)
      refine .o1 3 false [] (λW X _ _ N hN=>?_) ?_
      ·go_simp
       exact hN _ _ (λ_ e=>by cases e) ⟨_,rfl,X.size,BxL.new W zLv⟩ ((Ext.refl W).alloc _)
      refine .o0 4 [3,1] (λW X _ f N hN=>?_) ?_
      ·obtain⟨⟨qb,a6,b1,a4⟩,⟨yv,i4,o5⟩,_⟩:=f
       have a6:ρ 13=_:=a6;have i4:ρ 11=_:=i4;have hk:=Qt yv b1 a4;exact QO (x:= .tmp 13) (z:= .tmp 85) rfl a6 i4 a4 λv=>hN v _ (λ_ e=>by cases e) ⟨qb,yv,a6,b1,a4.put yv,o5.klc hk⟩ (hk.1 X) hk
      refine .fin λW hR ⟨_,_,m8,_,pE,_⟩=>?_
      obtain⟨p5,zn,p1,q8,Yb,i0⟩:=pE rfl;rw[show ρ 13=_ from p1,show ρ 12=_ from m8 rfl];clear hI m8 pE g6 e2 e3 e4 e5 e6 e7 e8 e9 i6 i5;generalize W=W6 at*;have d9:=ah (g0.out.trans hR);replace Ll:=ah (hR.blk Ll.out);have h6:=h.out.ext d9.out;clear g0 hR iM;have r0:=h.out.ou.low;have l4:g9≠d:=by
       have:w.heap.size<=W3.heap.size:=n5.out;omega
      obtain⟨k0,k1,k2,k3,k4,k5,k6,k7,k8⟩:=Yb.cells;obtain⟨⟨_,_,_,_,_⟩,j0,j1,j2,j3,j4,j5,j6,j7,j8⟩:=acr.vals (show W6.heap[d]? =some (.cells (Ai _ _ _ _ _ _ _ _) _ (0,0)) from h6.box);have f2:=h6.thaw 2;have f3:=h6.thaw 3;have f4:=h6.thaw 4;have f5:=h6.thaw 5;have f6:=h6.thaw 6;have f7:=h6.thaw 7;have f8:=h6.thaw 8;have f9:=h6.thaw 9;have o7:=h6.thaw 10;have O:=ah (FW (show W6.heap[d]? =some (.cells (Ai _ _ _ _ _ _ _ _) _ (0,0)) from h6.box) zn);have a9:=ah (Oi W6 d zn);clear h6 Yb;obtain⟨W7,h8⟩:∃W7,W7=Qu W6 d zn:=⟨_,rfl⟩;rw[<-h8] at O a9;have m7:=ah (h.out.ou.vec.ext d9.out)
      go_upto_region 19 with fail
      refine U6 h8 ?_;clear h8 k0 k1 k2 k3 k4 k5 k6 k7 k8 j0 j1 j2 j3 j4 j5 j6 j7 j8 f2 f3 f4 f5 f6 f7 f8 f9 o7;have m9:=a9.out.blk Ll.out l4;have v1:W7.cell? ⟨g9,1,none⟩=some (Vu (nx+(n:Int))):=ak W7 g9 1 _ _ _ m9;obtain⟨⟨z0,g7,_,_,i9⟩,_⟩:=acr.vals O.out;have l9:=ah (Row.rx m7.out a9.out λa ha=>(h.out.ou.rA a ha).2);have b5:=ah (λ(W:aj) (e:Ext W7 W)=>acQ q.A S.V.length q.ca S.V S.cl (nx+(n:Int)) W (Row.ext l9.out e) rfl h.out.ou.nA hK.BM hV);rw[show Ql S.V S.cl (nx+(n:Int))=setOf S.V S.cl (nx+(n:Int)) from if_neg ω] at b5;generalize l8:setOf S.V S.cl (nx+(n:Int))=Vn at*;replace l8:=ah l8;have n7:w.heap.size<=W7.heap.size:=aM d9.out.size a9.out.size;refine qX 14 [rw1 11 (λz W=>∃A c,z= .slice A Vn.length c/\Vn.length<=c/\Vec W A Vn/\wV w.heap.size A)] ⟨(by rintro _ _ _ _ ⟨A,c,Z,U,h3,h4⟩ e;exact⟨A,c,Z,U,h3.ext e,h4⟩),trivial⟩ λρ hI=>?_
      refine .s 11 (λW u _=>by
       have e0:=u.keep z0;have e1:=u.keep g7;have e2:=u.keep v1;exact oz) ?_
      refine .k 0 (R:=λz W=>∃A c,z= .slice A Vn.length c/\Vn.length<=c/\Vec W A Vn/\wV w.heap.size A) (λW' X=>(b5.out W' X).mono (by rintro e w1 ⟨A1,n1,c1,rfl,rfl,U,h3,h4,h5⟩;exact⟨_,rfl,⟨A1,c1,rfl,h4,U,λa ha=>aM (aM n7 X.size) (h5 a ha)⟩,h3⟩)) ?_;refine .s 2 (λW u _=>oz) ?_;refine .fin λW8 hR ⟨⟨A',c',eA,o3,h9,m6⟩,_⟩=>?_
      rw[show ρ 11=_ from eA];clear hI b5 z0 g7 i9 v1 m9 l9 m7;have J:=hR.blk O.out;have q6:W8.frozen? ⟨d,11,none⟩=false:=aK W8 d 11 _ _ J;have g7:W8.cell? ⟨d,11,none⟩=some (.slice q.A S.V.length q.ca):=ak W8 d 11 _ _ _ J;have d7:(W8.setCell ⟨d,11,none⟩ (.slice A' Vn.length c')).heap[d]? =some (.cells (Ai (Vu S.cl) (Vu S.lim) zn (.slice A' Vn.length c') (.slice q.B S.Wt.length q.cb) (.slice q.C S.D.length q.cc) (Vi (S.ver:Int)) (.bool S.closed)) 87 (0,0)):=aB W8 d 11 _ _ _ J;have i9:(W8.setCell ⟨d,11,none⟩ (.slice A' Vn.length c')).cell? ⟨d,14,none⟩=some (Vi (S.ver:Int)):=ak _ d 14 _ _ _ d7;have q5:(W8.setCell ⟨d,11,none⟩ (.slice A' Vn.length c')).frozen? ⟨d,14,none⟩=false:=aK _ d 14 _ _ d7;have vD:((W8.setCell ⟨d,11,none⟩ (.slice A' Vn.length c')).setCell ⟨d,14,none⟩ (Vi ((S.ver:Int)+1))).heap[d]? =some (.cells (Ai (Vu S.cl) (Vu S.lim) zn (.slice A' Vn.length c') (.slice q.B S.Wt.length q.cb) (.slice q.C S.D.length q.cc) (Vi ((S.ver:Int)+1)) (.bool S.closed)) 87 (0,0)):=aB _ d 14 _ _ _ d7;have j9:=ah ((a9.out.trans (RX.ext hR)).trans (((RX.refl d W8).set 11 (.slice A' Vn.length c') (.inr rfl)).set 14 (Vi ((S.ver:Int)+1)) (.inr rfl)));have p3:=ah (((RX.refl d W8).set 11 (.slice A' Vn.length c') (.inr rfl)).set 14 (Vi ((S.ver:Int)+1)) (.inr rfl));have p6:dO.wrap ((S.ver:Int)+1)=(S.ver:Int)+1:=cO _ ω;replace vD:=ah vD;replace h9:=ah h9;replace i0:=ah i0;clear J d7 hR O a9 Ll
      go_wp2_with fail
      go_ret;generalize(W8.setCell ⟨d,11,none⟩ (.slice A' Vn.length c')).setCell ⟨d,14,none⟩ (Vi ((S.ver:Int)+1))=W9 at*;obtain⟨F1,o6,m5⟩:=i0.out;rw[hi.out,o4.out];have Y:=h.out.ou;have d4:RX d w W9:=(RX.ext d9.out).trans j9.out;refine⟨_,⟨zn,A',c',q.B,q.cb,q.C,q.cc,F1,Gn⟩,by rw[xQ];rfl,Y.next d4.size ?_ (o6.rx j9.out λb hb e=>?_) m5 ?_ (Row.rx h9.out p3.out λa ha e=>?_) (.inr m6) o3 (Row.rx Y.its d4 λa ha=>(Y.rB a ha).2) (.inl rfl) Y.nB (Row.rx Y.sps d4 λa ha=>(Y.rC a ha).2) (.inl rfl) Y.nC,d4,λb hb=>hb⟩
      ·exact vD.out
      ·rcases m5 b hb with g|g
       ·exact(Y.rF b g).2 e
       ·omega
      ·show Marks S.D Ln Gn
       rw[<-i1.out,<-i3.out];exact MJ Y.mks Y.ls.gin
      ·have:=m6 a ha
       omega
end
section
attribute [local go_sem] au
theorem SX (A:Option Addr) (n c:Nat) (l:List I2) (w:aj) (hv:OdS w A l) (J:l.length=n) (M:∀a∈l,0<=a.1/\a.1<=4294967295/\0<=a.2/\a.2<=4294967294) (hb:n<=400000):
  aX Tryz.prog 88 #[.slice A n c] w (aiv w (pY (l.map spA))):=by
 have X:=CU n ω (n:Int) rfl;replace J:=ah J;replace hv:=ah hv;replace M:=ah M;go_enter Tryz.func88,Tryz.ntmps88;go_wp2
 go_loopw [3,11] (λv i W=>∃k:Nat,k<=n/\i=Vi (k:Nat)/\Hid (qg w W v ((l.take k).map spA))/\Ext w W) (λ_ i _=>n-(intOf i).toNat)
 case atStart=>exact⟨0,cK _,rfl,ah (qg.room (Ext.refl w) n ω),(Ext.refl _).alloc _⟩
 case round=>
  clear X;obtain⟨k,hk,rfl,U,K⟩:=hrel;by_cases Y:k<n
  ·obtain⟨b,o,a,rfl,I,d0,d1⟩:=hv.out.at (k:=k) (by rw[J.out];exact Y)
   have c0:=K.keep d0;have c1:=K.keep d1;have a6:=M.out a (aP I);have hs:=ah (show(l.take (k+1)).map spA=(l.take k).map spA++[(a.1,a.2,a.2+1)] by rw[List.take_add_one,I,List.map_append];rfl);have Z:=ah (show((l.take k).map spA).length<=400000 by rw[gI,bN];omega);have a5:aA.wrap (a.2+1)=a.2+1:=iX _ ω;clear I d0 d1;obtain⟨q,f⟩:=a;simp only at*;have x1:Ext wr (wr.alloc (.cells #[Vu q,Vu f] 55)):=(Ext.refl _).alloc _;have q0:(wr.alloc (.cells #[Vu q,Vu f] 55)).cell? ⟨wr.heap.size,0,none⟩=some (Vu q):=ι
   have q1:(wr.alloc (.cells #[Vu q,Vu f] 55)).cell? ⟨wr.heap.size,1,none⟩=some (Vu f):=ι
   have hg:∀(W:aj),W=wr.alloc (.cells #[Vu q,Vu f] 55)->True:=λ_ _=>trivial
   have Q:=ah ((U.out.ext x1).alloc (.cells #[Vu q,Vu f,Vu (f+1)] 98));have N:=ah ((K.trans x1).alloc (.cells #[Vu q,Vu f,Vu (f+1)] 98));have O:=ah (SpS.new2 wr (.cells #[Vu q,Vu f] 55) q f (f+1))
   go_wp2_with(first
        |(at_builtin
          refine rM (w0:=w) rfl (.tmp 15) (.tmp 24) rfl _ ((l.take k).map spA) rfl Q.out N.out _ 1 1 [(q,f,f+1)] rfl rfl O.out (by rw[dJ];have:=Z.out;omega) ?_;intro v3 w3 o3 x3 _))
   rw[<-hs.out] at o3
   go_roundw
   case rel=>exact⟨k+1,ω,ν,ah o3,x3⟩
   case measure=>simp[intOf];omega
  ·obtain rfl:k=n:=ω
   have j:(l.take k).map spA=l.map spA:=by rw[List.take_of_length_le (by rw[J.out];omega)]
   have u:=U.out;rw[j] at u;obtain⟨A4,c4,e4,h4⟩:=SpS.own u;subst e4;have z:(l.map spA).length=k:=by rw[gI,J.out]
   rw[z];have H:wfS (l.map spA):=λp I=>by
        obtain⟨a,ha,rfl⟩:=dH.1 I;have:=M.out a ha;unfold spA;simp only;omega
   have hc:=ah (Xn A4 k c4 (l.map spA) wr h4 z H hb);clear U u j H h4 z
   go_wp2_with fail
   refine hc.out.mono ?_;rintro e w2 ⟨A5,n5,c5,rfl,a4,a3,a0,x5⟩;go_wp2;go_ret;exact⟨A5,n5,c5,rfl,a4,a3,a0,K.trans x5⟩
theorem NA (a b:Int×Int×Int) (w:aj):aX Tryz.prog 111 #[spv a.1 a.2.1 a.2.2,spv b.1 b.2.1 b.2.2] w λe w'=>e= .returned (.bool (uw a b))/\Ext w w':=by
 obtain⟨u,M,I⟩:=a;obtain⟨q,H,K⟩:=b;obtain⟨R,i⟩:∃R,uw (u,M,I) (q,H,K)=R:=⟨_,rfl⟩;rw[i];have x2:Ext w ((w.alloc (.cells #[Vu u,Vu M,Vu I] 98)).alloc (.cells #[Vu q,Vu H,Vu K] 98)):=((Ext.refl w).alloc _).alloc _;unfold uw at i;simp only at i;by_cases j:u<q
 ·have N:decide (u<q)=true:=decide_eq_true j
  have f:true=R:=by rw[<-i];simp[j]
  replace f:=ah f;clear i j;go_enter Tryz.func111,Tryz.ntmps111;go_wp2;go_ret;exact⟨by rw[<-f.out];rfl,x2⟩
 ·have N:decide (u<q)=false:=decide_eq_false j
  by_cases z:u=q
  ·subst z
   have f:decide (I<=H)=R:=by rw[<-i];simp
   replace f:=ah f;clear i j;cases J:decide (I<=H) with
   |true=>
    rw[J] at f;go_enter Tryz.func111,Tryz.ntmps111;go_wp2;go_ret;exact⟨by rw[<-f.out];rfl,x2⟩
   |false=>
    rw[J] at f;go_enter Tryz.func111,Tryz.ntmps111;go_wp2;go_ret;exact⟨by rw[<-f.out];rfl,x2⟩
  ·have O:(u==q)=false:=by simpa using z
   have f:false=R:=by rw[<-i];simp[j,z]
   replace f:=ah f;clear i j z;go_enter Tryz.func111,Tryz.ntmps111;go_wp2;go_ret;exact⟨by rw[<-f.out];rfl,x2⟩
theorem uV.neS {b p:Nat} {W:aj} {v:Value} {l:List (Int×Int×Int)} (h:uV b W v l) (a:p<b):some p≠v.ownBlock:=λe=>by have:=(h.lt p e.symm).1;omega
theorem uV.neT {b:Nat} {W:aj} {v:Value} {l:List (Int×Int×Int)} (h:uV b W v l) {p:Nat} (a:W.heap.size<=p):some p≠v.ownBlock:=λe=>by have:=(h.lt p e.symm).2;omega
def aiB (w:aj) (a b n:Nat) (x z:Int) (R:List (Int×Int×Int)) (v:Value) (W:aj):Prop:=
 ∃(lo:List (Int×Int×Int)) (y:Int),Hid (uV b W v lo)/\Hid (zT W a x y z)/\Ext w W/\b<=W.heap.size/\lo.length<=n/\Hid (lo++Eb (x,y,z)=R)
def aiA (w:aj) (a b n:Nat) (x z:Int) (set R:List (Int×Int×Int)) (v i:Value) (W:aj):Prop:=
 ∃(k:Nat) (lo:List (Int×Int×Int)) (y:Int),k<=n/\i=Vi (k:Nat)/\Hid (uV b W v lo)/\Hid (zT W a x y z)/\Ext w W/\b<=W.heap.size/\lo.length<=k/\Hid (lo++xS (x,y,z) (set.drop k)=R)
theorem abJ (s:Int×Int×Int) (A:Option Addr) (n c:Nat) (set:List (Int×Int×Int)) (w:aj) (hv:SpS w A set) (hn:set.length=n) (hb:n<=400000):
  aX Tryz.prog 112 #[spv s.1 s.2.1 s.2.2,.slice A n c] w λe w'=>∃v,e= .returned v/\qg w w' v (xS s set)/\Ext w w':=by
 obtain⟨x,y,z⟩:=s;obtain⟨R,hR⟩:∃R,xS (x,y,z) set=R:=⟨_,rfl⟩;rw[hR];replace hn:=ah hn;replace hv:=ah hv;replace hR:=ah hR;go_enter Tryz.func112,Tryz.ntmps112
 go_upto_region 2 with fail
 have x0:Ext w (w.alloc (.cells #[Vu x,Vu y,Vu z] 98)):=(Ext.refl _).alloc _;have b0:=ah (zT.new w x y z);have f:w.heap.size<(w.alloc (.cells #[Vu x,Vu y,Vu z] 98)).heap.size:=ι
 generalize w.alloc (.cells #[Vu x,Vu y,Vu z] 98)=W0 at*;obtain⟨b,W⟩:∃b,W0.heap.size=b:=⟨_,rfl⟩;rw[W] at f;obtain⟨pb,a5⟩:∃pb,w.heap.size=pb:=⟨_,rfl⟩;rw[a5] at f b0⊢;have U:w.heap.size<=pb:=ω
 replace W:=ah W;replace a5:=ah a5
 go_upto_block 0 with fail
 go_cut [5] (aiB w pb b n x z R)
 case first=>
  go_wp2_with fail
  go_loopw [5,10] (aiA w pb b n x z set R) (λ_ i _=>n-(intOf i).toNat)
  case atStart=>exact⟨0,[],y,cK _,rfl,ah (uV.nil _ _),b0,x0,by rw[W.out];exact aD _,aD _,ah (by rw[dX];exact hR.out)⟩
  case round=>
   clear b0 x0 hR;obtain⟨k,lo,y,hk,rfl,K,Z,O,H,a6,hrel⟩:=hrel;by_cases a9:k<n
   ·obtain⟨bb,oo,o1,j,Q,rfl,hp,d0,d1,d2⟩:=hv.out.at (k:=k) (by rw[hn.out];exact a9)
    have c0:=O.keep d0;have c1:=O.keep d1;have c2:=O.keep d2;have I:=hrel.out;rw[drop_at hp] at I;clear hp hrel d0 d1 d2;have y1:Ext wr (wr.alloc (.cells #[Vu o1,Vu j,Vu Q] 98)):=(Ext.refl _).alloc _;have bo:=ah (zT.new wr o1 j Q);have M:=ah (NA (x,y,z) (o1,j,Q) (wr.alloc (.cells #[Vu o1,Vu j,Vu Q] 98)));obtain⟨e0,e1,e2,f1,f2⟩:=(Z.out.ext y1).cells;obtain⟨p0,p1,p2,_,_⟩:=bo.out.cells;cases ha:uw (x,y,z) (o1,j,Q) with
    |true=>
     rw[ha] at M;have hd:=ah (show lo++Eb (x,y,z)=R by rw[<-I,xS,if_pos ha]);clear I ha
     go_wp2_with fail
     refine M.out.mono ?_;rintro e w2 ⟨rfl,x2⟩;replace x2:=y1.trans x2
     go_wp2_with fail
     go_meet;exact⟨lo,y,ah (K.out.ext x2),ah (Z.out.ext x2),O.trans x2,aM H x2.size,ω,hd⟩
    |false=>
     rw[ha] at M;rw[xS,if_neg (by simp[ha])] at I;clear ha;by_cases J:y<j
     ·have g1:decide (y<j)=true:=decide_eq_true J
      rw[if_pos J,<-aY] at I;replace I:=ah I;clear J
      go_wp2_with fail
      refine M.out.mono ?_;rintro e w2 ⟨rfl,x2⟩;have a:=y1.trans x2;have N:=a.alloc (.cells #[Vu x,Vu y,Vu j] 98);have a2:=ah (K.out.ext N);have b2:=ah (Z.out.ext N);have b3:=ah ((bo.out.ext x2).ext ((Ext.refl _).alloc (.cells #[Vu x,Vu y,Vu j] 98)));have a0:=ah (O.trans N);have X:=aM H N.size;have a8:=ah (K.out.neS f);have a7:=ah (K.out.neT (aD _));have a3:=ah (λ(W3:aj) (g:(w2.alloc (.cells #[Vu x,Vu y,Vu j] 98)).grownBy W3 _)=>a0.out.grown g λk hk=>aM U (aM (Nat.le_of_lt f) (K.out.lt k hk).1));obtain⟨e0,e1,e2,f1,f2⟩:=(Z.out.ext a).cells;obtain⟨p0,p1,p2,_,_⟩:=(bo.out.ext x2).cells;clear a N
      go_wp2_with(first
       |(at_builtin
         refine y8 rfl (.tmp 22) (.tmp 30) rfl b _ lo rfl a2.out X _ 1 1 [(x,y,j)] rfl rfl (SpS.new _ x y j) (by rw[dJ];omega) ?_;intro v3 w3 q g3 _;have Y:=b2.out.grown g3 a8.out;obtain⟨e0,e1,e2,f1,f2⟩:=Y.cells;obtain⟨p0,p1,p2,_,_⟩:=(b3.out.grown g3 a7.out).cells;have x3:=a3.out w3 g3))
      have a1:=aM X g3.size
      go_roundw
      case rel=>exact⟨k+1,lo++[(x,y,j)],Q,ω,ν,ah (ownsRow_setCell_below q f _),ah (Y.set1 Q),x3.setCell U _,by simpa[World.setCell] using a1,by rw[ay,dJ];omega,I⟩
      case measure=>simp[intOf];omega
     ·have g1:decide (y<j)=false:=decide_eq_false J
      rw[if_neg J,List.nil_append] at I;replace I:=ah I
      go_wp2_with fail
      refine M.out.mono ?_;rintro e w2 ⟨rfl,x2⟩;have a:=y1.trans x2;obtain⟨e0,e1,e2,f1,f2⟩:=(Z.out.ext a).cells;obtain⟨p0,p1,p2,_,_⟩:=(bo.out.ext x2).cells;have Y:=Z.out.ext a;have q:=K.out.ext a;have a1:=aM H a.size;have x3:=O.trans a;clear a x2 y1;go_wp2
      go_roundw
      case rel=>exact⟨k+1,lo,Q,ω,ν,ah (ownsRow_setCell_below q f _),ah (Y.set1 Q),x3.setCell U _,by simpa[World.setCell] using a1,ω,I⟩
      case measure=>simp[intOf];omega
   ·have hd:=ah (show lo++Eb (x,y,z)=R by
     have:=hrel.out;rw[gW (by rw[hn.out];omega)] at this;exact this)
    go_wp2_with fail
    go_meet;exact⟨lo,y,K,Z,O,H,ω,hd⟩
 case rest=>
  obtain⟨lo,y,K,Z,O,H,a6,hd⟩:=hcut;clear b0 x0 hR;obtain⟨e0,e1,e2,f1,f2⟩:=Z.out.cells;by_cases u:y<z
  ·have g1:decide (y<z)=true:=decide_eq_true u
   have b1:=ah (show lo++[(x,y,z)]=R by rw[<-hd.out,Eb,if_pos u]);have N:=(Ext.refl wc).alloc (.cells #[Vu x,Vu y,Vu z] 98);have a2:=ah (K.out.ext N);have a0:=ah (O.trans N);have X:=aM H N.size;have a3:=ah (λ(W3:aj) (g:(wc.alloc (.cells #[Vu x,Vu y,Vu z] 98)).grownBy W3 _)=>a0.out.grown g λk hk=>aM U (aM (Nat.le_of_lt f) (K.out.lt k hk).1));clear u hd N
   go_wp2_with(first
        |(at_builtin
          refine y8 rfl (.tmp 41) (.tmp 43) rfl b _ lo rfl a2.out X _ 1 1 [(x,y,z)] rfl rfl (SpS.new _ x y z) (by rw[dJ];omega) ?_;intro v3 w3 q g3 _))
   go_ret;rw[b1.out] at q;exact⟨v3,rfl,⟨q.1,q.2.imp id λ⟨g,cap,a4,h1,h2,h3⟩=>⟨g,cap,a4,h1,ω,h3⟩⟩,a3.out w3 g3⟩
  ·have g1:decide (y<z)=false:=decide_eq_false u
   have q:=K.out;rw[show lo=R by rw[<-hd.out,Eb,if_neg u,bZ]] at q;replace q:=ah q;clear u hd;go_wp2;go_ret;exact⟨_,rfl,⟨q.out.1,q.out.2.imp id λ⟨g,cap,a4,h1,h2,h3⟩=>⟨g,cap,a4,h1,ω,h3⟩⟩,O⟩
def ais (w:aj) (n:Nat) (a R:List (Int×Int×Int)) (b v i:Value) (W:aj):Prop:=
 ∃(k:Nat) (lo f:List (Int×Int×Int)) (B:Option Addr) (e cb:Nat),k<=n/\i=Vi (k:Nat)/\b= .slice B e cb/\Hid (f.length=e)/\e<=cb/\e<=400000/\Hid (oC zS f=true)/\Hid (SpS w B f)/\Hid (qg w W v lo)/\Ext w W/\Hid (lo++AZ (a.drop k) f=R)
theorem NK (A B:Option Addr) (n c nb cb:Nat) (a b:List (Int×Int×Int)) (w:aj) (hv:SpS w A a) (hn:a.length=n) (hu:SpS w B b) (a8:b.length=nb) (b0:nb<=cb) (ha:oC zS a=true) (a6:oC zS b=true) (hb:n+nb<=400000):
  aX Tryz.prog 74 #[.slice A n c,.slice B nb cb] w λe w'=>∃v,e= .returned v/\qg w w' v (AZ a b)/\Ext w w':=by
 obtain⟨R,hR⟩:∃R,AZ a b=R:=⟨_,rfl⟩;rw[hR];have e5:R.length<=400000:=by rw[<-hR];have:=LB ha a6;omega
 replace hn:=ah hn;replace hv:=ah hv;replace hR:=ah hR;replace ha:=ah ha;go_enter Tryz.func74,Tryz.ntmps74;go_wp2
 go_loopw [1,5,10] (ais w n a R) (λ_ _ i _=>n-(intOf i).toNat)
 case atStart=>exact⟨0,[],b,B,nb,cb,cK _,rfl,rfl,ah a8,b0,ω,ah a6,ah hu,ah (qg.nil _ _),Ext.refl _,ah (by rw[dX];exact hR.out)⟩
 case round=>
  have d7:n<=400000:=ω
  clear hR hu a8 a6 hb b0;obtain⟨k,lo,bl,B2,a0,d6,hk,rfl,rfl,d5,b6,d8,b8,b2,ho,hx,hrel⟩:=hrel;by_cases b9:k<n
  ·obtain⟨bb,oo,x,y,z,rfl,hp,d0,d1,d2⟩:=hv.out.at (k:=k) (by rw[hn.out];exact b9)
   have c0:=hx.keep d0;have c1:=hx.keep d1;have c2:=hx.keep d2;have X:y<z:=(yJ ha.out (x,y,z) (aP hp)).2.1;have hr:=hrel.out;rw[drop_at hp,AZ] at hr;clear hp hrel d0 d1 d2;have y1:Ext wr (wr.alloc (.cells #[Vu x,Vu y,Vu z] 98)):=(Ext.refl _).alloc _;obtain⟨J,a1⟩:∃J,wB (x,y,z) bl=J:=⟨_,rfl⟩;rw[a1] at hr;have bo:=ah (zT.new wr x y z);replace hr:=ah hr;replace X:=ah X
   go_upto_region 4 with fail
   go_upto_block 2 with fail
   go_cut [1] (λs wx=>∃(Z:Option Addr) (f j:Nat),s= .slice Z f j/\Hid (J.length=f)/\f<=j/\f<=a0/\Hid (SpS w Z J)/\Ext (wr.alloc (.cells #[Vu x,Vu y,Vu z] 98)) wx)
   case first=>
        clear hr
        go_wp2_with fail
        go_loopg [1] a0 (λg s W=>∃(I:List (Int×Int×Int)) (Z:Option Addr) (f j:Nat),s= .slice Z f j/\f<=g/\Hid (I.length=f)/\f<=j/\f<=a0/\Hid (SpS w Z I)/\Ext (wr.alloc (.cells #[Vu x,Vu y,Vu z] 98)) W/\Hid (wB (x,y,z) I=J))
        case atStart=>exact⟨bl,B2,a0,d6,rfl,aD _,d5,b6,aD _,b2,Ext.refl _,ah a1⟩
        case round=>
         obtain⟨I,Z,f,j,rfl,d9,M,Y,a5,N,q,U⟩:=hrel;obtain⟨p0,p1,p2,_,_⟩:=(bo.out.ext q).cells;replace p0:=av p0;replace p1:=av p1;replace p2:=av p2;by_cases h0:f=0
         ·subst h0
          have e0:I=[]:=List.eq_nil_of_length_eq_zero M.out;have hz:=U.out;rw[e0] at hz;have a4:=ah (show J.length=0 by rw[<-hz];rfl);have a3:=ah (show SpS w Z J by rw[<-hz];exact SpS.nil _ _);clear e0 hz U
          go_wp2_with fail
          refine aL κ κ ?_
          repeat go_big_quiet_step(fail)
          refine bQ ?_;intro _ Q;obtain⟨⟨dq,osq⟩,K⟩:=Q;subst K;have x1:=Ext.nX wr dq osq
          go_wp2_with fail
          go_meet;exact⟨Z,0,j,rfl,a4,Y,a5,a3,q.trans x1⟩
         ·obtain⟨b3,o3,q1,q2,q3,rfl,hq,e0,e1,e2⟩:=(N.out.ext (hx.trans (y1.trans q))).at (k:=0) (by rw[M.out];omega)
          rw[Nat.zero_mul,Nat.add_zero] at e0 e1 e2;replace e0:=av e0;replace e1:=av e1;replace e2:=av e2;have g1:decide ((0:Int)<(f:Int))=true:=by rw[decide_eq_true_eq];omega
          have g2:decide (0<f)=true:=by rw[decide_eq_true_eq];omega
          have g3:(0:Int)<(f:Int):=ω
          have H:=ah (λW=>NA (q1,q2,q3) (x,y,z) W);have a2:I=(q1,q2,q3)::I.drop 1:=by have:=drop_at hq;rwa[dX] at this
          have u:=U.out;rw[a2,wB] at u;cases O:uw (q1,q2,q3) (x,y,z) with
          |true=>
           rw[O] at H;rw[if_pos O] at u;replace u:=ah u;have d4:=ah (show(I.drop 1).length=f-1 by rw[bP,M.out]);have b1:=ah (N.out.cut M.out Y (show 1<=f by omega));have e3:=Um (some ⟨b3,o3,none⟩) f j 1 ω 1 rfl;clear U a2 hq O
           go_wp2_with fail
           refine aL κ κ ?_
           repeat go_big_quiet_step((with_reducible exact Calls.oh (H.out _)))
           refine bQ ?_;intro _ Q;obtain⟨⟨dq,osq⟩,K⟩:=Q;subst K;have x1:=Ext.nX wr dq osq;go_wp2
           go_roundg (f-1)
           case measure=>omega
           case rel=>exact⟨I.drop 1,_,f-1,j-1,rfl,aD _,d4,ω,ω,b1,q.trans x1,u⟩
          |false=>
           rw[O] at H;rw[if_neg (by simp[O]),<-a2] at u;have a4:=ah (show J.length=f by rw[<-u];exact M.out);have a3:=ah (show SpS w (some ⟨b3,o3,none⟩) J by rw[<-u];exact N.out);clear U a2 hq O u
           go_wp2_with fail
           refine aL κ κ ?_
           repeat go_big_quiet_step((with_reducible exact Calls.oh (H.out _)))
           refine bQ ?_;intro _ Q;obtain⟨⟨dq,osq⟩,K⟩:=Q;subst K;have x1:=Ext.nX wr dq osq
           go_wp2_with fail
           go_meet;exact⟨_,f,j,rfl,a4,Y,a5,a3,q.trans x1⟩
   case rest=>
        obtain⟨Z,f,j,rfl,M,Y,a5,N,q⟩:=hcut;have xx:=hx.trans (y1.trans q);obtain⟨p0,p1,p2,_,_⟩:=(bo.out.ext q).cells;have a9:=ah (abJ (x,y,z) Z f j J wc (N.out.ext xx) M.out ω);have a7:=ah (ho.out.ext (y1.trans q));have b7:=ah (show oC zS J=true by rw[<-a1];exact Bh b8.out);have d3:=ah (show lo.length+(xS (x,y,z) J).length<=400000 by
         have:=congrArg List.length hr.out;rw[ay,ay] at this;omega)
        have b4:=ah (show(lo++xS (x,y,z) J)++AZ (a.drop (k+1)) J=R by rw[<-hr.out,aY]);clear hr a1 y1 q ho
        go_wp2_with fail
        refine a9.out.mono ?_;rintro e w2 ⟨v2,rfl,o2,x2⟩;obtain⟨A4,c4,e4,h4⟩:=SpS.own o2;subst e4;have b5:=ah (a7.out.ext x2);have x3:=xx.trans x2;replace h4:=ah h4;clear o2 a9 a7
        go_wp2_with(first
         |(at_builtin
           refine rM (w0:=w) rfl (.tmp 26) (.tmp 29) rfl _ lo rfl b5.out x3 A4 _ c4 (xS (x,y,z) J) rfl rfl h4.out (by have:=d3.out;omega) ?_;intro v5 w5 o5 x5 _))
        go_roundw
        case rel=>exact⟨k+1,lo++xS (x,y,z) J,J,Z,f,j,ω,ν,rfl,M,Y,ω,b7,N,ah o5,x5,b4⟩
        case measure=>simp[intOf];omega
  ·have hd:=ah (show lo=R by
        have:=hrel.out;rw[gW (by rw[hn.out];omega),AZ,bZ] at this;exact this)
   go_wp2;go_ret;exact⟨_,rfl,by rw[<-hd.out];exact ho.out,hx⟩
section
variable {D:List (Int×Int×Int)} {S:DS}
theorem afJ (h:DOK S) {k n:Nat} {a:I2} (f:a∈uX S.E k n):nZ S.L a=true:=by
 unfold uX at f;obtain⟨i,hi,rfl⟩:=dH.1 f;have j:=zm S.E 0 i (List.mem_of_mem_drop (List.mem_of_mem_take hi));have e:S.E[i]? =some (S.E[i]'(by omega)):=List.getElem?_eq_getElem ω;rw[vW e,<-xk h.kn (gdL S.D S.L)];exact ES.2 ⟨_,aP e,by simp[qY]⟩
theorem VO (h:DOK S) {k n:Nat}:∀a∈uX S.E k n,0<=a.1/\a.1<=4294967295/\0<=a.2/\a.2<=4294967294:=λa f=>by
 have e:=afJ h f;have q:=aaJ h.wfL _ e;have j:=(h.cnt a.1 a.2).1 e;have i:=(Iw a.1 h.wfV).2;omega
theorem adl (S:DS) (a:og S.L=true) (k n:Nat):(uX S.E k n).length<=S.L.length:=by
 have:(uX S.E k n).length<=(om S.E).length:=by
  unfold uX;rw[gI,bN,bP];omega
 have f:=rO S.E 0;have e:S.E.length=S.L.length:=KD a _;unfold om at this;omega
theorem ZF {X:List (Int×Int×Int)} (a:oC zS D=true):pY (D++pY X)=pY (D++X):=
 EB (tH _) (tH _) λc k=>by
  rw[uR,uR,iC,iC,qc,qc,tq (tH X),uR]
theorem ZE {T:List (Int×Int×Int)} (e:oC zS D=true) (a:oC zS T=true) (c k:Int):oL (pY (D++T)) c k=(oL D c k||oL T c k):=by
 rw[uR,iC,tq e,tq a,qc]
theorem Mk1.marks {T:List (Int×Int×Int)} {L:List It} {G f:List I2} (h:Marks D L G) (i:Mk1 L G f (λa=>oL T a.1 a.2)) (q:oC zS D=true) (j:oC zS T=true):Marks (pY (D++T)) L f:=λa e=>by
 rw[i a e,h a e,ZE q j]
theorem SpS.rxd {W W':aj} {d:Nat} {q:DM} {A:Option Addr} {l:List (Int×Int×Int)} (h:SpS W A l) (H:W.heap[d]? =some (.cells (Lr S q) 87 (0,0))) (j:RX d W W'):SpS W' A l:=by
 cases l with
 |nil=>exact λg=>by simp[flat] at g
 |cons x l=>
  refine Row.rx h j λa I e=>?_
  obtain⟨b,o,f,z⟩:=h (by simp[flat,encS]);rw[I] at f;injection f with f;subst f;simp only at e;subst e;have c:=z 2 _ rfl;rw[ak W b _ _ _ _ H] at c;have u:Vu x.2.2∈(Lr S q).toList.drop 2:=by
   refine aP (i:=o) ?_;rw[List.getElem?_drop,Array.getElem?_toList,Nat.add_comm];exact c
  simp[Lr] at u
theorem UC {R:Nat->Prop} {w:aj} {d:Nat} {q:DM} (h:pK R w d S q) (hK:DOK S) (hl:S.L.length<=100000) (hD:S.D.length<=200000) (Lj:S.ver<=1000000000) (p m:Int) (hp: -9223372036854775808<=p/\p<=9223372036854775807) (hm: -9223372036854775808<=m/\m<=9223372036854775807):
  aX Tryz.prog 49 #[.pointer (some ⟨d,0,none⟩),Vi p,Vi m] w (rZ w d R (Fa S p m) (E9 S p m)):=by
 have K:Fa S p m≠0->E9 S p m=S:=λg=>by unfold E9;rw[if_neg (λe=>g e.1)]
 have b5:=h.cell (j:=15) (v:= .bool S.closed) rfl;cases O:S.closed with
 |true=>
  have hi:Fa S p m=6:=by unfold Fa;rw[O];rfl
  rw[K (by rw[hi];decide),hi];have u:=ah (rZ.same h 6 (qJ δ));rw[O] at b5;clear h;go_enter Tryz.func49,Tryz.ntmps49;go_wp2;go_ret;exact u.out _ (Ext.refl _)
 |false=>
  rw[O] at b5;obtain⟨c2,c3,c4,c5,c6,c7,c8,c9,c10⟩:=h.BN;obtain⟨tt,ad,M⟩:=h.ou.ls;have N:=h.ou.ent;by_cases hb:p<0\/m<0\/((om S.E).length:Int)<p\/((om S.E).length:Int)-p<m
  ·have hi:Fa S p m=3:=by unfold Fa;rw[O,if_neg δ,if_pos hb]
   rw[K (by rw[hi];decide),hi];have u:=ah (rZ.same h 3 (qJ δ));have z:=ah (M.acN ω p m hp hm (by rw[N];exact hb));rw[qJ δ] at z;clear h M;go_enter Tryz.func49,Tryz.ntmps49
   go_wp2_with fail
   refine z.out.mono ?_;rintro e W1 ⟨A1,a7,rfl,x1⟩;clear c2 c3 c4 c5 c6 c7 c8 c9 c10;go_wp2;go_ret;exact u.out _ x1
  ·obtain⟨k,rfl⟩:∃k:Nat,p=(k:Int):=⟨p.toNat,ω⟩
   obtain⟨n,rfl⟩:∃n:Nat,m=(n:Int):=⟨m.toNat,ω⟩;have hi:=ah (show Fa S (k:Int) (n:Int)=0 by unfold Fa;rw[O,if_neg δ,if_neg hb]);have z:=ah (M.acO ω k n (by rw[N];omega));rw[N] at z;by_cases d7:n=0
   ·subst d7
    have u:=ah (rZ.same h 0 xQ);have d3:=ah (show E9 S (k:Int) ((0:Nat):Int)=S by unfold E9;rw[if_neg (λe=>e.2 rfl)]);clear h M;go_enter Tryz.func49,Tryz.ntmps49
    go_wp2_with fail
    refine z.out.mono ?_;rintro e W1 ⟨A1,a7,rfl,o1,x1⟩;clear c2 c3 c4 c5 c6 c7 c8 c9 c10;go_wp2;go_ret;rw[hi.out,d3.out];exact u.out _ x1
   ·obtain⟨T,hT⟩:∃T,pY ((uX S.E k n).map spA)=T:=⟨_,rfl⟩
    have b2:oC zS T=true:=by rw[<-hT];exact tH _
    have e5:wfS ((uX S.E k n).map spA):=by
       intro x hx;obtain⟨a,Q,rfl⟩:=dH.1 hx;have:=VO hK a Q;unfold spA;simp only;omega
    have e0:wfS T:=by rw[<-hT];exact I9 e5
    have e9:=adl S hK.kn k n;have f0:T.length<=100000:=by
       rw[<-hT];exact aM (CS _) (by rw[gI];omega)
    have e1:=ah (show E9 S (k:Int) (n:Int)={ S with D:=pY (S.D++T),ver:=S.ver+1 } by
       unfold E9;rw[if_pos ⟨hi.out,ω⟩,dx,dx,<-hT,ZF hK.DY])
    have a1:=ah (λ(A:Option Addr) (c:Nat) (W:aj) (hv:OdS W A (uX S.E k n))=>SX A (uX S.E k n).length c (uX S.E k n) W hv rfl (VO hK) ω);rw[hT] at a1;have hh:=ah (λ(A:Option Addr) (c:Nat) (W:aj) (e:Ext w W) (hv:SpS W A T)=>J6 (h.ou.ls.ext e) A T.length c T hv rfl e0 ω S.V hK.cnt ω);generalize b6:uX S.E k n=ids at*;replace b6:=ah b6;replace hT:=ah hT;replace h:=ah h;have g1:=h.out.ou.low;clear M;go_enter Tryz.func49,Tryz.ntmps49
    go_wp2_with fail
    refine z.out.mono ?_;rintro e W1 ⟨A1,a7,rfl,o1,x1⟩;clear c2 c3 c4 c5 c6 c7 c8 c9 c10
    go_wp2_with fail
    refine(a1.out A1 a7 W1 o1).mono ?_;rintro e W2 ⟨AT,nT,cT,rfl,d6,d8,sT,x2⟩;subst d6;have J:=x1.trans x2;obtain⟨c2,c3,c4,c5,c6,c7,c8,c9,c10⟩:=(h.out.ext J).BN;clear o1 x1 x2 z a1
    go_wp2_with fail
    refine(hh.out AT cT W2 J sT).mono ?_;rintro e W3 ⟨f,G',rfl,hN,a4,x3⟩;clear c2 c3 c4 c5 c6 c7 c8 c9 c10 hh;have vD:=BxL.new W3 f;have x4:Ext W3 (W3.alloc (.cells #[.slice f.A f.n f.c,.pointer f.l,.pointer f.r,Vi f.h,Vi f.m,Vi f.s,Vq f.lo,Vq f.hi,.pointer f.p] 85)):=(Ext.refl _).alloc _;have a9:=ah (sT.ext (x3.trans x4));have a5:=ah ((J.trans x3).trans x4);have e2:=ah (hN.ext x4);replace a4:=ah a4;have H:=h.out.ext a5.out;have d2:=J.size;clear hN x3 x4 sT J
    go_upto_region 12 with fail
    generalize W3.alloc (.cells #[.slice f.A f.n f.c,.pointer f.l,.pointer f.r,Vi f.h,Vi f.m,Vi f.s,Vq f.lo,Vq f.hi,.pointer f.p] 85)=W4 at*;generalize W3.heap.size=e7 at*;obtain⟨k0,k1,k2,k3,k4,k5,k6,k7,k8⟩:=vD.cells;obtain⟨⟨_,_,_,_,_⟩,j0,j1,j2,j3,j4,j5,j6,j7,j8⟩:=acr.vals (show W4.heap[d]? =some (.cells (Ai _ _ _ _ _ _ _ _) _ (0,0)) from H.box);have f2:=H.thaw 2;have f3:=H.thaw 3;have f4:=H.thaw 4;have f5:=H.thaw 5;have f6:=H.thaw 6;have f7:=H.thaw 7;have f8:=H.thaw 8;have f9:=H.thaw 9;have e4:=H.thaw 10;have a0:=ah (FW (show W4.heap[d]? =some (.cells (Ai _ _ _ _ _ _ _ _) _ (0,0)) from H.box) f);have I:=ah (Oi W4 d f);obtain⟨W7,a2⟩:∃W7,W7=Qu W4 d f:=⟨_,rfl⟩;rw[<-a2] at a0 I;have b9:=ah (a9.out.rxd H.box I.out);have d1:=ah (Row.rx H.ou.sps I.out λa Q=>(H.ou.rC a Q).2);clear H vD a9
    go_upto_region 13 with fail
    refine U6 a2 ?_;clear a2 k0 k1 k2 k3 k4 k5 k6 k7 k8 j0 j1 j2 j3 j4 j5 j6 j7 j8 f2 f3 f4 f5 f6 f7 f8 f9 e4;obtain⟨⟨_,_,_,b8,a8⟩,_⟩:=acr.vals a0.out;have b1:=ah (MQ q.C AT S.D.length T.length q.cc cT S.D T W7 d1.out b9.out rfl rfl h.out.ou.nC d8 hK.DY b2 ω);have d4:w.heap.size<=W7.heap.size:=aM a5.out.size I.out.size
    go_wp2_with fail
    refine b1.out.mono ?_;rintro e U ⟨A',nn,c',rfl,d5,d9,a3,hR,b4⟩;subst d5;generalize a6:pY (S.D++T)=Dn at*;replace a6:=ah a6;have Z:=hR.blk a0.out;clear b8 a8;have g0:U.frozen? ⟨d,13,none⟩=false:=aK U d 13 _ _ Z;have e6:U.cell? ⟨d,13,none⟩=some (.slice q.C S.D.length q.cc):=ak U d 13 _ _ _ Z;have Y:(U.setCell ⟨d,13,none⟩ (.slice A' Dn.length c')).heap[d]? =some (.cells (Ai (Vu S.cl) (Vu S.lim) f (.slice q.A S.V.length q.ca) (.slice q.B S.Wt.length q.cb) (.slice A' Dn.length c') (Vi (S.ver:Int)) (.bool S.closed)) 87 (0,0)):=aB U d 13 _ _ _ Z;have a8:(U.setCell ⟨d,13,none⟩ (.slice A' Dn.length c')).cell? ⟨d,14,none⟩=some (Vi (S.ver:Int)):=ak _ d 14 _ _ _ Y;have f1:(U.setCell ⟨d,13,none⟩ (.slice A' Dn.length c')).frozen? ⟨d,14,none⟩=false:=aK _ d 14 _ _ Y;have vD:((U.setCell ⟨d,13,none⟩ (.slice A' Dn.length c')).setCell ⟨d,14,none⟩ (Vi ((S.ver:Int)+1))).heap[d]? =some (.cells (Ai (Vu S.cl) (Vu S.lim) f (.slice q.A S.V.length q.ca) (.slice q.B S.Wt.length q.cb) (.slice A' Dn.length c') (Vi ((S.ver:Int)+1)) (.bool S.closed)) 87 (0,0)):=aB _ d 14 _ _ _ Y;have b7:=ah (((RX.refl d U).set 13 (.slice A' Dn.length c') (.inr rfl)).set 14 (Vi ((S.ver:Int)+1)) (.inr rfl));have b0:=ah ((I.out.trans (RX.ext hR)).trans b7.out);have e8:dO.wrap ((S.ver:Int)+1)=(S.ver:Int)+1:=cO _ ω;replace vD:=ah vD;replace a3:=ah a3;clear Z Y hR a0 I b1
    go_wp2_with fail
    go_ret;generalize(U.setCell ⟨d,13,none⟩ (.slice A' Dn.length c')).setCell ⟨d,14,none⟩ (Vi ((S.ver:Int)+1))=W9 at*;obtain⟨F1,e3,b3⟩:=e2.out;rw[hi.out,e1.out];have i:=h.out.ou;have X:RX d w W9:=(RX.ext a5.out).trans b0.out;refine⟨_,⟨f,q.A,q.ca,q.B,q.cb,A',c',F1,G'⟩,by rw[xQ];rfl,i.next X.size ?_ (e3.rx b0.out λb hb e=>?_) (λb hb=>(b3 b hb).imp id λg=>aM d2 g) ?_ (Row.rx i.vec X λa Q=>(i.rA a Q).2) (.inl rfl) i.nA (Row.rx i.its X λa Q=>(i.rB a Q).2) (.inl rfl) i.nB ?_ (.inr λa Q=>aM d4 (b4 a Q)) ?_,X,λb hb=>hb⟩
    ·exact vD.out
    ·rcases b3 b hb with g|g
     ·exact(i.rF b g).2 e
     ·omega
    ·show Marks Dn S.L G'
     rw[<-a6.out];exact Mk1.marks i.mks a4.out hK.DY b2
    ·exact Row.rx a3.out b7.out λa Q e=>by have:=b4 a Q;omega
    ·exact d9
end
section
def newS (c l:Int):DS:=⟨c,l,[],[],[],[],0,false⟩
variable {R:Nat->Prop} {S S':DS} {c:Int} {d:Nat} {q:DM} {w:aj}
theorem TF {l:Int} (j:0<c) (i:c<=4294967295) (f:0<=l) (e:l<=4294967294):DOK (newS c l):=
 ⟨j,i,f,e,rfl,(λx a=>by cases a),rfl,(λx a=>by cases a),(λc k=>⟨λh=>by simp[newS,nZ] at h,λh=>by simp[newS,nW] at h;omega⟩),jd,(λx a=>by cases a),rfl,(λx a=>by cases a),by show(0:Int)<=l+1;omega⟩
theorem JD (c l:Int) (w:aj) (i:c≠0) (j:l<=4294967294):aX Tryz.prog 8 #[Vu c,Vu l] w λe w'=>e= .returned (.tuple #[.pointer (some ⟨w.heap.size,0,none⟩),.nilIface])/\w'.heap[w.heap.size]? =some (.cells (Lr (newS c l) ⟨zLv,none,0,none,0,none,0,λ_=>False,[]⟩) 87 (0,0))/\Ext w w':=by
 have f:(c==0)=false:=by simpa using i
 have a:decide (4294967294<l)=false:=decide_eq_false ω;go_enter Tryz.func8,Tryz.ntmps8
 go_wp2_with fail
 exact aN (v:= .tuple #[.pointer (some ⟨w.heap.size,0,none⟩),.nilIface]) (by simp[dK,Tryz.results8,go_sem]) rfl ⟨rfl,aT w _,(Ext.refl _).alloc _⟩
theorem aas (W:aj):LCx (λ_=>False) W zLv [] []:=
 ⟨.nil,λ_=>0,⟨⟨.leaf [],⟨none,0,0,none,none,0,0,0,0,0⟩,rfl,rfl,.inl rfl,rfl,rfl,rfl,rfl,rfl,⟨rfl,rfl,none,0,rfl,aD _,EnS.nil _ _,λh=>absurd h ι⟩,λb f=>f.elim⟩,rfl,⟨rfl,λx e=>(jk e).elim,λa b j=>by cases j⟩,jd,λa=>by simp[hin,nZ],λg i=>(jk i).elim,λx e=>(jk e).elim,λb f=>f.elim,rfl⟩⟩
theorem Vz {W:aj} {l:Int} (h:W.heap[d]? =some (.cells (Lr (newS c l) ⟨zLv,none,0,none,0,none,0,λ_=>False,[]⟩) 87 (0,0))) (f:w.heap.size<=d):pK (λb=>w.heap.size<=b) W d (newS c l) ⟨zLv,none,0,none,0,none,0,λ_=>False,[]⟩:=
 ⟨⟨f,aas W,(λb i=>i.elim),(λa e=>by simp[newS,nZ] at e),Row.nil W none,(λa e=>by cases e),aD _,Row.nil W none,(λa e=>by cases e),aD _,Row.nil W none,(λa e=>by cases e),aD _,(Array.getElem?_eq_some_iff.1 h).1⟩,h⟩
theorem zR.doc {w':aj} (h:zR w) (f:pK R w d S q) (a:RX d w w'):zR w':=by
 refine a.cell h λe=>?_
 have c:=f.cell (j:=0) (v:=Vu S.cl) rfl;rw[<-e] at c;unfold zR at h;rw[h] at c;cases c
def Dk (w:aj) (d:Nat) (R:Nat->Prop) (s:ByteArray) (c:Int) (S:DS) (e:Ending) (w':aj):Prop:=∃(R':Nat->Prop) (q:DM) (v:Value),e= .returned (.tuple #[Vi (if c=0 then(S.ver:Int) else 0),v])/\aco w' s c v/\pK R' w' d S q/\RX d w w'/\∀b,R' b->R b\/w.heap.size<=b
theorem Hl (h:pK R w d S q) (K:zR w) (p:Int) (t:ByteArray) (j:aX Tryz.prog 47 #[.pointer (some ⟨d,0,none⟩),Vi p,.string t] w (rZ w d R c S')):
  aX Tryz.prog 26 #[.pointer (some ⟨d,0,none⟩),Vi p,.string t] w (Dk w d R ⟨#[73,110,115,101,114,116]⟩ c S'):=by
 replace j:=ah j;go_enter Tryz.func26,Tryz.ntmps26
 go_wp2_with fail
 refine j.out.mono ?_;rintro e O ⟨M,I,rfl,u,i,J⟩;have H:=ah (IL u (K.doc h i) ⟨#[73,110,115,101,114,116]⟩ c);obtain⟨z,f⟩:∃z,(if c=0 then(S'.ver:Int) else 0)=z:=⟨_,rfl⟩;rw[f] at H;replace f:=ah f
 go_wp2_with fail
 refine H.out.mono ?_;rintro e N ⟨v,rfl,hv,x2⟩;have a:=ah (bq hv (bq (u.ext x2) (i.trans (RX.ext x2))));clear hv u i x2
 go_wp2_with fail
 exact aN (v:= .tuple #[Vi z,v]) (by simp[dK,Tryz.results26,go_sem]) rfl ⟨M,I,v,by rw[f.out],a.out.1,a.out.2.1,a.out.2.2,J⟩
theorem RY (h:pK R w d S q) (K:zR w) (p m:Int) (j:aX Tryz.prog 49 #[.pointer (some ⟨d,0,none⟩),Vi p,Vi m] w (rZ w d R c S')):
  aX Tryz.prog 28 #[.pointer (some ⟨d,0,none⟩),Vi p,Vi m] w (Dk w d R ⟨#[68,101,108,101,116,101]⟩ c S'):=by
 replace j:=ah j;go_enter Tryz.func28,Tryz.ntmps28
 go_wp2_with fail
 refine j.out.mono ?_;rintro e O ⟨M,I,rfl,u,i,J⟩;have H:=ah (IL u (K.doc h i) ⟨#[68,101,108,101,116,101]⟩ c);obtain⟨z,f⟩:∃z,(if c=0 then(S'.ver:Int) else 0)=z:=⟨_,rfl⟩;rw[f] at H;replace f:=ah f
 go_wp2_with fail
 refine H.out.mono ?_;rintro e N ⟨v,rfl,hv,x2⟩;have a:=ah (bq hv (bq (u.ext x2) (i.trans (RX.ext x2))));clear hv u i x2
 go_wp2_with fail
 exact aN (v:= .tuple #[Vi z,v]) (by simp[dK,Tryz.results28,go_sem]) rfl ⟨M,I,v,by rw[f.out],a.out.1,a.out.2.1,a.out.2.2,J⟩
theorem KP (h:pK R w d S q) (K:zR w) (A:Option Addr) (n cap:Nat) (j:aX Tryz.prog 46 #[.pointer (some ⟨d,0,none⟩),.slice A n cap] w (rZ w d R c S')):
  aX Tryz.prog 22 #[.pointer (some ⟨d,0,none⟩),.slice A n cap] w (Dk w d R ⟨#[65,112,112,108,121]⟩ c S'):=by
 replace j:=ah j;go_enter Tryz.func22,Tryz.ntmps22
 go_wp2_with fail
 refine j.out.mono ?_;rintro e O ⟨M,I,rfl,u,i,J⟩;have H:=ah (IL u (K.doc h i) ⟨#[65,112,112,108,121]⟩ c);obtain⟨z,f⟩:∃z,(if c=0 then(S'.ver:Int) else 0)=z:=⟨_,rfl⟩;rw[f] at H;replace f:=ah f
 go_wp2_with fail
 refine H.out.mono ?_;rintro e N ⟨v,rfl,hv,x2⟩;have a:=ah (bq hv (bq (u.ext x2) (i.trans (RX.ext x2))));clear hv u i x2
 go_wp2_with fail
 exact aN (v:= .tuple #[Vi z,v]) (by simp[dK,Tryz.results22,go_sem]) rfl ⟨M,I,v,by rw[f.out],a.out.1,a.out.2.1,a.out.2.2,J⟩
end
end
section
attribute [local go_sem] au calm oK oG
theorem aeH:∀{rs:List Rn},(∀r∈rs,rW r=true)->rs.length<=(nY rs).length
 |[],_=>cK _
 |r::rs,h=>by
  have i:=aeH (rs:=rs) λx e=>h x (List.mem_cons_of_mem _ e)
  have a:=h r ι;unfold rW at a;have f:=(of_decide_eq_true a).2.1;rw[um,ay,JW,List.length_cons];omega
theorem Nw {R:Nat->Prop} {w:aj} {d:Nat} {S:DS} {q:DM} (h:pK R w d S q) (hK:DOK S) (hT:Tabs w) (A:Option Addr) (n c:Nat) (b:List UInt8) (hb:Bys w A b) (hn:b.length=n) (hc:n<=c) (m6:n<=20000) (n5:∀rs ds e,parse b=some (rs,ds,e)->e=n->ds.length<=20000) (m7:∀rs ds,uo b=some (rs,ds)->ds.length<=20000) (hl:S.L.length<=100000) (q6:S.Wt.length<=20000) (hV:S.V.length<=100000) (hD:S.D.length<=130000) (Lj:S.ver<=1000000000):
  aX Tryz.prog 46 #[.pointer (some ⟨d,0,none⟩),.slice A n c] w (rZ w d R (zP S b) (Du S b)):=by
 have Q:zP S b≠0->Du S b=S:=λg=>by unfold Du;rw[if_neg g]
 have l5:=h.cell (j:=15) (v:= .bool S.closed) rfl;cases b2:S.closed with
 |true=>
  have hi:zP S b=6:=by unfold zP;rw[b2];rfl
  rw[Q (by rw[hi];decide),hi];have i:=ah (rZ.same h 6 (qJ δ));rw[b2] at l5;clear h;go_enter Tryz.func46,Tryz.ntmps46;go_wp2;go_ret;exact i.out _ (Ext.refl _)
 |false=>
  rw[b2] at l5;have Y:=ah (Uk hT hb hn hc m6 (λrs ds e I O=>aM (n5 rs ds e I O) ω));cases hg:uo b with
  |none=>
   have hi:zP S b=2:=by unfold zP;rw[b2,hg];rfl
   rw[Q (by rw[hi];decide),hi];rw[hg] at Y;have i:=ah (rZ.same h 2 (qJ δ));replace Y:=ah (show aX Tryz.prog 69 #[.slice A n c] w λe w'=>e= .returned (.tuple #[ac6,.iface 75 (.int .i64 2)])/\Ext w w' from Y.out.mono (by rintro e w' ⟨I,O⟩;exact⟨by rw[I,qJ δ],O⟩));clear h;go_enter Tryz.func46,Tryz.ntmps46
   go_wp2_with fail
   refine Y.out.mono ?_;rintro e W1 ⟨rfl,x1⟩;have hE:=ah (x1.alloc (.cells #[.slice none 0 0,.slice none 0 0] 44));go_wp2;go_ret;exact i.out _ hE.out
  |some v=>
   obtain⟨rs,ds⟩:=v;rw[hg] at Y;obtain⟨e6,p7,q5⟩:=UW hg;obtain⟨g1,g2,g3,g4,_⟩:=Hw hg;have e7:TM rs:=λr hr=>⟨e6.may r hr,(g3 r hr).1⟩
   have o6:ds.length<=20000:=m7 rs ds hg;have p6:rs.length<=20000:=by have:=aeH e6.may;omega
   by_cases a9:(nY rs).any (Dr S)=true
   ·have hi:zP S b=2:=by unfold zP;rw[b2,hg];simp only;rw[if_neg δ,if_pos a9]
    rw[Q (by rw[hi];decide),hi];have i:=ah (rZ.same h 2 (qJ δ));have d5:=ah (λ(B:Option Addr) (cB:Nat) (W:aj) (e:Ext w W) (hv:ItS W B (nY rs))=>M5 (h.ext e) hK.rise ω B (nY rs).length cB (nY rs) hv rfl ω);clear h;go_enter Tryz.func46,Tryz.ntmps46
    go_wp2_with fail
    refine Y.out.mono ?_;rintro e W1 ⟨vr,vd,rfl,b6,b7,x1⟩;obtain⟨Ar,cr,rfl,n0,rr⟩:=b6.open;obtain⟨Ad,cd,rfl,sd⟩:=SpS.own b7;have x2:=x1.alloc (.cells #[.slice Ar rs.length cr,.slice Ad ds.length cd] 44);have d3:=ah (Gm Ar rs.length cr rs _ (rr.ext ((Ext.refl W1).alloc (.cells #[.slice Ar rs.length cr,.slice Ad ds.length cd] 44))) rfl e7 ω ω);clear b6 b7 sd rr
    go_wp2_with fail
    refine d3.out.mono ?_;rintro e W2 ⟨vI,rfl,oI,x3⟩;obtain⟨AI,cI,rfl,n2,iI⟩:=oI.open;have x4:=x2.trans x3;clear oI
    go_wp2_with fail
    refine(d5.out AI cI W2 x4 iI).mono ?_;rintro e W3 ⟨vF,rfl,_,x5⟩;rw[if_pos a9,qJ δ];have hE:=ah (x4.trans x5);clear iI x1 x2 x3 x4 x5;go_wp2;go_ret;exact i.out _ hE.out
   ·have i0:(nY rs).any (Dr S)=false:=by simpa using a9
    have hA:=UY hK hg i0;have d5:=ah (λ(B:Option Addr) (cB:Nat) (W:aj) (e:Ext w W) (hv:ItS W B (nY rs))=>M5 (h.ext e) hK.rise ω B (nY rs).length cB (nY rs) hv rfl ω);have q8:(rU S (nY rs)).length<=20000:=aM (List.length_filter_le _ _) ω;have d4:zP S b=if 1000<(r9 S.V (S.Wt++rU S (nY rs))).2.1.length then 5 else 0:=by
       unfold zP;rw[b2,hg];simp only;rw[if_neg δ,if_neg a9]
    have i7:=ah (λ(B:Option Addr) (cB:Nat) (W:aj) (e:Ext w W) (hv:ItS W B (S.Wt++rU S (nY rs))) (n4:(S.Wt++rU S (nY rs)).length<=cB)=>Zl q.A B S.V.length q.ca (S.Wt++rU S (nY rs)).length cB S.V (S.Wt++rU S (nY rs)) W (h.ou.vec.ext e) rfl h.ou.nA hK.BM hK.wfV hv rfl n4 (by rw[ay];omega) hA.apart (λx hx=>⟨(hA.all x hx).1,(hA.all x hx).2.1,(hA.all x hx).2.2.2.2⟩));replace d4:=ah d4;replace hA:=ah hA;replace Q:=ah Q;replace h:=ah h;go_enter Tryz.func46,Tryz.ntmps46
    go_wp2_with fail
    refine Y.out.mono ?_;rintro e W1 ⟨vr,vd,rfl,b6,b7,x1⟩;obtain⟨Ar,cr,rfl,n0,rr⟩:=b6.open;obtain⟨Ad,cd,rfl,sd⟩:=SpS.own b7;have x2:=x1.alloc (.cells #[.slice Ar rs.length cr,.slice Ad ds.length cd] 44);have a7:=aT W1 (.cells #[.slice Ar rs.length cr,.slice Ad ds.length cd] 44);have d3:=ah (Gm Ar rs.length cr rs _ (rr.ext ((Ext.refl W1).alloc (.cells #[.slice Ar rs.length cr,.slice Ad ds.length cd] 44))) rfl e7 ω ω);replace sd:=sd.ext ((Ext.refl W1).alloc (.cells #[.slice Ar rs.length cr,.slice Ad ds.length cd] 44));clear b6 b7 rr
    go_wp2_with fail
    refine d3.out.mono ?_;rintro e W2 ⟨vI,rfl,oI,x3⟩;obtain⟨AI,cI,rfl,n2,iI⟩:=oI.open;have x4:=x2.trans x3;clear oI
    go_wp2_with fail
    refine(d5.out AI cI W2 x4 iI).mono ?_;rintro e W3 ⟨vF,rfl,oF,x5⟩;replace oF:=oF i0;obtain⟨AF,cF,rfl,p9,iF⟩:=oF.open;rw[i0,if_neg δ,xQ];have hE:=ah (x4.trans x5);replace a7:=ah ((x3.trans x5).blk a7);replace sd:=ah (sd.ext (x3.trans x5));replace iF:=ah iF;generalize b4:rU S (nY rs)=N at*;clear iI x1 x2 x3 x4 x5 d5 d3 Y oF;have Z:=h.out.ext hE.out;have l4:=Z.cell (j:=11) (v:= .slice q.A S.V.length q.ca) rfl;have l3:=Z.cell (j:=12) (v:= .slice q.B S.Wt.length q.cb) rfl;have iW:=ah Z.ou.its;clear Z;generalize b1:r9 S.V (S.Wt++N)=tt at*;obtain⟨X,t2,t3⟩:=tt;replace b1:=ah b1;replace b4:=ah b4
    go_wp2_with fail
    have J7:=ah (λ(p:Nat) (W:aj) (e:Ext W3 W) (hp:W.heap[p]? =some (.cells #[.slice q.B S.Wt.length q.cb,.slice AF N.length cF] 39 (0,0)))=>R3 p 2 2 [⟨q.B,q.cb,S.Wt⟩,⟨AF,cF,N⟩] W (λj x hx=>by
       rcases j with _|_|j
       ·obtain rfl:(⟨q.B,q.cb,S.Wt⟩:SlI)=x:=by simpa using hx
        exact⟨ak W p 0 _ _ _ hp,iW.out.ext e⟩
       ·obtain rfl:(⟨AF,cF,N⟩:SlI)=x:=by simpa using hx
        exact⟨ak W p 1 _ _ _ hp,iF.out.ext e⟩
       ·simp at hx) rfl ω (by simp only[yu,List.map_cons,List.map_nil,List.sum_cons,List.sum_nil];omega))
    rw[show Ig [(⟨q.B,q.cb,S.Wt⟩:SlI),⟨AF,cF,N⟩]=S.Wt++N by simp[Ig]] at J7;generalize hU:S.Wt++N=U at*;replace hU:=ah hU;refine qX 18 [rw1 9 (λz W=>∃p,z= .slice (some ⟨p,0,none⟩) 2 2/\W.heap[p]? =some (.cells #[.slice q.B S.Wt.length q.cb,.slice AF N.length cF] 39 (0,0))),rw1 10 (λz W=>∃A c,z= .slice A U.length c/\U.length<=c/\ItS W A U),rw1 11 (λz W=>∃(Aa:Option Addr) (ca:Nat) (Ab:Option Addr) (cb:Nat) (A:Option Addr) (c:Nat),z= .tuple #[.slice Aa X.length ca,.slice Ab t2.length cb,.slice A t3.length c]/\(X.length<=ca/\wV w.heap.size Aa)/\(t2.length<=cb/\wV w.heap.size Ab)/\(t3.length<=c/\wV w.heap.size A)/\ItS W Aa X/\ItS W Ab t2/\Vec W A t3),
       rw1 13 (λz W=>∃A c,z= .slice A X.length c/\X.length<=c/\wV w.heap.size A/\ItS W A X),rw1 14 (λz W=>∃A c,z= .slice A t2.length c/\t2.length<=c/\wV w.heap.size A/\ItS W A t2),rw1 15 (λz W=>∃A c,z= .slice A t3.length c/\t3.length<=c/\wV w.heap.size A/\Vec W A t3)]
       ⟨(by rintro _ _ _ _ ⟨p,I,O⟩ e;exact⟨p,I,e.blk O⟩),(by rintro _ _ _ _ ⟨A,c,I,O,Z⟩ e;exact⟨A,c,I,O,Z.ext e⟩),(by rintro _ _ _ _ ⟨Aa,ca,Ab,cb,A,c,I,O,Z,h4,h5,h6,h7⟩ e;exact⟨Aa,ca,Ab,cb,A,c,I,O,Z,h4,h5.ext e,h6.ext e,h7.ext e⟩),(by rintro _ _ _ _ ⟨A,c,I,O,Z,h4⟩ e;exact⟨A,c,I,O,Z,h4.ext e⟩),(by rintro _ _ _ _ ⟨A,c,I,O,Z,h4⟩ e;exact⟨A,c,I,O,Z,h4.ext e⟩),(by rintro _ _ _ _ ⟨A,c,I,O,Z,h4⟩ e;exact⟨A,c,I,O,Z,h4.ext e⟩),trivial⟩ λρ hI=>?_
    refine .s 9 (λW hE _=>by
       have u1:=hE.keep l4;have u2:=hE.keep l3;exact oz) ?_
    refine .o 0 [] (λW hx y f N hN=>?_) ?_
    ·go_simp
     exact hN _ _ (λ_ e=>by cases e) ⟨_,rfl,aT W _⟩ ((Ext.refl W).alloc _)
    refine .o 1 [0] (λW hx y f N hN=>?_) ?_
    ·obtain⟨⟨p,b8,g7⟩,_⟩:=f
     have b8:ρ 9=_:=b8
     go_simp
     refine(J7.out p W hx g7).mono ?_;rintro e w1 ⟨v1,rfl,o1,x1⟩;obtain⟨A1,c1,rfl,I,O⟩:=o1.open;exact⟨_,rfl,hN _ _ (λ_ e=>by cases e) ⟨A1,c1,rfl,I,O⟩ x1⟩
    refine .o 2 [1] (λW hx y f N hN=>?_) ?_
    ·obtain⟨⟨A1,c1,b8,g7,m4⟩,_⟩:=f
     have b8:ρ 10=_:=b8
     go_simp
     refine(i7.out A1 c1 W (hE.out.trans hx) m4 g7).mono ?_;rintro e w1 ⟨Aa,ca,Ab,cb,A,c,rfl,I,O,Z,h4,h5,h6,x1⟩;have g5:=(hE.out.trans hx).size;exact⟨_,rfl,hN _ _ (λ_ e=>by cases e) ⟨Aa,ca,Ab,cb,A,c,rfl,⟨I.1,λa ha=>aM g5 (I.2 a ha)⟩,⟨O.1,λa ha=>aM g5 (O.2 a ha)⟩,⟨Z.1,λa ha=>aM g5 (Z.2 a ha)⟩,h4,h5,h6⟩ x1⟩
    refine .s 1 (λW hE _=>oz) ?_;refine .o 3 [2] (λW hx y f N hN=>?_) ?_
    ·obtain⟨⟨Aa,ca,Ab,cb,A,c,e1,I,O,Z,h4,h5,h6⟩,_⟩:=f
     have e1:ρ 11=_:=e1
     go_simp
     exact hN _ _ (λ_ e=>by cases e) ⟨Aa,ca,rfl,I.1,I.2,h4⟩ (Ext.refl _)
    refine .o 4 [2] (λW hx y f N hN=>?_) ?_
    ·obtain⟨⟨Aa,ca,Ab,cb,A,c,e1,I,O,Z,h4,h5,h6⟩,_⟩:=f
     have e1:ρ 11=_:=e1
     go_simp
     exact hN _ _ (λ_ e=>by cases e) ⟨Ab,cb,rfl,O.1,O.2,h5⟩ (Ext.refl _)
    refine .o 5 [2] (λW hx y f N hN=>?_) ?_
    ·obtain⟨⟨Aa,ca,Ab,cb,A,c,e1,I,O,Z,h4,h5,h6⟩,_⟩:=f
     have e1:ρ 11=_:=e1
     go_simp
     exact hN _ _ (λ_ e=>by cases e) ⟨A,c,rfl,Z.1,Z.2,h6⟩ (Ext.refl _)
    refine .s 2 (λW hE _=>oz) ?_;refine .fin λW hR ⟨_,_,_,⟨Ac,cc,q1,q4,q0,a2⟩,⟨Aw,cw,q2,m2,i5,J⟩,⟨Av,cv,q3,m3,i6,M⟩,_⟩=>?_
    rw[show ρ 13=_ from q1,show ρ 14=_ from q2,show ρ 15=_ from q3];clear hI J7 i7 l4 l3 iW iF;generalize W=W4 at*;have a8:=ah (hE.out.trans hR);replace a7:=ah (hR.blk a7.out);replace sd:=ah (sd.out.ext hR);replace a2:=ah a2;replace J:=ah J;replace M:=ah M;clear hR hE;by_cases a5:1000<t2.length
    ·have hi:=ah (show zP S b=5 by rw[d4.out];exact if_pos a5)
     have m9:decide ((1000:Int)<(t2.length:Int))=true:=decide_eq_true ω;have m8:decide (1000<t2.length)=true:=decide_eq_true a5;have i:=ah (rZ.same h.out 5 (qJ δ) W4 a8.out);clear h a7 sd a2 J M a8;go_wp2;go_ret;rw[hi.out,Q.out (by rw[hi.out];decide)];exact i.out
    ·have hi:=ah (show zP S b=0 by rw[d4.out];exact if_neg a5)
     have m9:decide ((1000:Int)<(t2.length:Int))=false:=decide_eq_false ω;have m8:decide (1000<t2.length)=false:=decide_eq_false a5;have d1:=e6.DY;have p8:ds.length<=20000:=o6;obtain⟨T,hT⟩:∃T,AZ ds S.D=T:=⟨_,rfl⟩;have k9:oC zS T=true:=by rw[<-hT];exact Em d1 hK.DY
     have n6:wfS T:=by rw[<-hT];exact Y0 e6.wfD hK.wfD
     have n7:T.length<=150000:=by rw[<-hT];exact aM (LB d1 hK.DY) ω
     have g0:=ah (λ(W:aj) (e:Ext W4 W)=>NK Ad q.C ds.length cd S.D.length q.cc ds S.D W (sd.out.ext e) rfl (h.out.ou.sps.ext (a8.out.trans e)) rfl h.out.ou.nC d1 hK.DY ω);rw[hT] at g0;replace hT:=ah hT;have e2:=(h.out.ext a8.out).cell (j:=13) (v:= .slice q.C S.D.length q.cc) rfl;have s1:W4.cell? ⟨W1.heap.size,1,none⟩=some (.slice Ad ds.length cd):=ak W4 W1.heap.size 1 _ _ _ a7.out
     go_wp2_with fail
     refine qX 7 [rw1 6 (λz W=>∃A c,z= .slice A T.length c/\T.length<=c/\SpS W A T/\wV w.heap.size A)] ⟨(by rintro _ _ _ _ ⟨A,c,I,O,Z,h4⟩ e;exact⟨A,c,I,O,Z.ext e,h4⟩),trivial⟩ λρ hI=>?_
     refine .s 6 (λW hE _=>by
      have u1:=hE.keep e2;have u2:=hE.keep s1;exact oz) ?_
     refine .k 0 (R:=λz W=>∃A c,z= .slice A T.length c/\T.length<=c/\SpS W A T/\wV w.heap.size A) (λW' hx=>(g0.out W' hx).mono (by
      rintro e w1 ⟨v1,rfl,o1,x1⟩;obtain⟨A1,c1,rfl,I⟩:=SpS.own o1;have hf:=uy o1 rfl;exact⟨_,rfl,⟨A1,c1,rfl,hf.1,I,λa ha=>aM (a8.out.trans hx).size (hf.2 a ha)⟩,x1⟩)) ?_
     refine .fin λW5 hR ⟨⟨AT,cT,qT,n1,sT,fT⟩,_⟩=>?_
     rw[show ρ 6=_ from qT];clear hI g0 e2 s1;have e0:=ah (a8.out.trans hR);replace a2:=ah (a2.out.ext hR);replace J:=ah (J.out.ext hR);replace M:=ah (M.out.ext hR);clear hR a8 a7 sd;have h5:=h.out.ext e0.out;have e2:=h5.cell (j:=13) (v:= .slice q.C S.D.length q.cc) rfl;have i8:=ah (MQ q.C AT S.D.length T.length q.cc cT S.D T W5 h5.ou.sps sT rfl rfl h.out.ou.nC n1 hK.DY k9 ω);clear h5
     go_wp2_with fail
     refine i8.out.mono ?_;rintro e W6 ⟨AD,nn,cD,rfl,m5,n3,sD,x6,fD⟩;subst m5;replace fD:wV w.heap.size AD:=λa ha=>aM e0.out.size (fD a ha)
     generalize b5:pY (S.D++T)=Dn at*;replace b5:=ah b5;have d9:=ah (e0.out.trans x6);replace a2:=ah (a2.out.ext x6);replace J:=ah (J.out.ext x6);replace M:=ah (M.out.ext x6);replace sT:=sT.ext x6;have h6:=h.out.ext d9.out;have hh:=ah (J6 h6.ou.ls AT T.length cT T sT rfl n6 ω S.V hK.cnt ω);obtain⟨c2,c3,c4,c5,c6,c7,c8,c9,c10⟩:=h6.BN;clear h6 e2 x6 e0 i8 sT
     go_wp2_with fail
     refine hh.out.mono ?_;rintro e W7 ⟨u,G',rfl,hN,n8,x7⟩;clear c2 c3 c4 c5 c6 c7 c8 c9 c10 hh;have Yb:=BxL.new W7 u;have x8:Ext W7 (W7.alloc (.cells #[.slice u.A u.n u.c,.pointer u.l,.pointer u.r,Vi u.h,Vi u.m,Vi u.s,Vq u.lo,Vq u.hi,.pointer u.p] 85)):=(Ext.refl _).alloc _;have p5:(W7.alloc (.cells #[.slice u.A u.n u.c,.pointer u.l,.pointer u.r,Vi u.h,Vi u.m,Vi u.s,Vq u.lo,Vq u.hi,.pointer u.p] 85)).heap.size=W7.heap.size+1:=ι
     have d8:=ah (d9.out.trans x7);replace a2:=ah (a2.out.ext x7);replace J:=ah (J.out.ext x7);replace M:=ah (M.out.ext x7);replace sD:=ah (sD.ext x7);have o7:=d9.out.size;obtain⟨F1,d7,g9⟩:=hN;have p0:=ah d7.lt;have i9:Fh S.L X=true:=by have:=hA.out.can;rw[b4.out,hU.out,b1.out] at this;exact this
     have p1:∀x∈X,wfI x:=by have:=hA.out.wf;rw[b4.out,hU.out,b1.out] at this;exact λx hx=>(this x hx).1
     have p4:X.length<=40000:=by
      have:=hA.out.tk.perm.length_eq;rw[b4.out,hU.out,b1.out,ay] at this;have q7:U.length<=40000:=by rw[<-hU.out,ay];omega
      simp only at this;omega
     have e8:=ah (NG (d7.ext x8) Ac AD X.length cc Dn.length cD X Dn (a2.out.ext x8) rfl (sD.out.ext x8) rfl (by rw[<-b5.out];exact tH _) (by
      have:=CS (S.D++T);rw[b5.out,ay] at this;omega) i9 p1 ω)
     have o8:=d7.gin;clear x7 d7 d9
     go_upto_region 17 with fail
     generalize W7.alloc (.cells #[.slice u.A u.n u.c,.pointer u.l,.pointer u.r,Vi u.h,Vi u.m,Vi u.s,Vq u.lo,Vq u.hi,.pointer u.p] 85)=W8 at*;generalize o9:W7.heap.size=e9 at*;obtain⟨k0,k1,k2,k3,k4,k5,k6,k7,k8⟩:=Yb.cells
     go_wp2_with fail
     refine e8.out.mono ?_;rintro e W9 ⟨z2,rfl,⟨F2,l2,d6⟩,x9⟩;have a0:=Yb.ext x9;clear k0 k1 k2 k3 k4 k5 k6 k7 k8 e8 Yb;obtain⟨k0,k1,k2,k3,k4,k5,k6,k7,k8⟩:=a0.cells;have f0:=a0.thaw 0;have f1:=a0.thaw 1;have f2:=a0.thaw 2;have f3:=a0.thaw 3;have f4:=a0.thaw 4;have f5:=a0.thaw 5;have f6:=a0.thaw 6;have f7:=a0.thaw 7;have f8:=a0.thaw 8;have e4:=ah (sH W9 e9 z2);have vD:=ah (a0.put z2);have i1:=ah (x8.trans x9);obtain⟨a3,h8⟩:∃a3,a3=vR W9 e9 z2:=⟨_,rfl⟩;rw[<-h8] at e4 vD;clear a0 x9 x8
     go_upto_region 20 with fail
     refine U6 h8 ?_;clear h8 k0 k1 k2 k3 k4 k5 k6 k7 k8 f0 f1 f2 f3 f4 f5 f6 f7 f8;have b0:=ah (RX.down i1.out ω e4.out);have h0:=ah (l2.rx e4.out λb hb e=>by
      rcases d6 b hb with g|g
      ·have:=p0.out b g;omega
      ·omega)
     have H:=h.out.ext (d8.out.trans b0.out);replace J:=ah (J.out.ext b0.out);replace M:=ah (M.out.ext b0.out);replace sD:=ah (sD.out.ext b0.out);have o5:=ah (d8.out.trans b0.out);have r1:w.heap.size<=e9:=by rw[<-o9];exact d8.out.size
     clear l2 i1 e4 a2 b0 d8;obtain⟨k0,k1,k2,k3,k4,k5,k6,k7,k8⟩:=vD.out.cells;obtain⟨⟨_,m1,m0,l9,_⟩,j0,j1,j2,j3,j4,j5,j6,j7,j8⟩:=acr.vals (show a3.heap[d]? =some (.cells (Ai _ _ _ _ _ _ _ _) _ (0,0)) from H.box);have f2:=H.thaw 2;have f3:=H.thaw 3;have f4:=H.thaw 4;have f5:=H.thaw 5;have f6:=H.thaw 6;have f7:=H.thaw 7;have f8:=H.thaw 8;have f9:=H.thaw 9;have o4:=H.thaw 10;have o3:=H.thaw 11;have o2:=H.thaw 12;have n9:=H.thaw 13;have i4:=FW (show a3.heap[d]? =some (.cells (Ai _ _ _ _ _ _ _ _) _ (0,0)) from H.box) z2;have i3:((Qu a3 d z2).setCell ⟨d,11,none⟩ (.slice Av t3.length cv)).heap[d]? =some (.cells (Ai (Vu S.cl) (Vu S.lim) z2 (.slice Av t3.length cv) (.slice q.B S.Wt.length q.cb) (.slice q.C S.D.length q.cc) (Vi (S.ver:Int)) (.bool S.closed)) 87 (0,0)):=aB _ d 11 _ _ _ i4;have i2:(((Qu a3 d z2).setCell ⟨d,11,none⟩ (.slice Av t3.length cv)).setCell ⟨d,12,none⟩ (.slice Aw t2.length cw)).heap[d]? =some (.cells (Ai (Vu S.cl) (Vu S.lim) z2 (.slice Av t3.length cv) (.slice Aw t2.length cw) (.slice q.C S.D.length q.cc) (Vi (S.ver:Int)) (.bool S.closed)) 87 (0,0)):=aB _ d 12 _ _ _ i3;have a4:((((Qu a3 d z2).setCell ⟨d,11,none⟩ (.slice Av t3.length cv)).setCell ⟨d,12,none⟩ (.slice Aw t2.length cw)).setCell ⟨d,13,none⟩ (.slice AD Dn.length cD)).heap[d]? =some (.cells (Ai (Vu S.cl) (Vu S.lim) z2 (.slice Av t3.length cv) (.slice Aw t2.length cw) (.slice AD Dn.length cD) (Vi (S.ver:Int)) (.bool S.closed)) 87 (0,0)):=aB _ d 13 _ _ _ i2;have a6:=(((Oi a3 d z2).set 11 (.slice Av t3.length cv) (.inr rfl)).set 12 (.slice Aw t2.length cw) (.inr rfl)).set 13 (.slice AD Dn.length cD) (.inr rfl);obtain⟨a1,h9⟩:∃a1,a1=(((Qu a3 d z2).setCell ⟨d,11,none⟩ (.slice Av t3.length cv)).setCell ⟨d,12,none⟩ (.slice Aw t2.length cw)).setCell ⟨d,13,none⟩ (.slice AD Dn.length cD):=⟨_,rfl⟩;rw[<-h9] at a4 a6;replace a4:=ah a4;replace a6:=ah a6;clear i4 i3 i2 H
     go_upto_region 21 with fail
     refine U6 h9 ?_;clear h9 k0 k1 k2 k3 k4 k5 k6 k7 k8 f2 f3 f4 f5 f6 f7 f8 f9 o4 o3 o2 n9 j0 j1 j2 j3 j4 j5 j6 j7 j8 m1 m0 l9;have r4:=h.out.ou.low;have l8:pY (S.D++ds)=Dn:=by rw[<-b5.out,<-hT.out];exact(PO d1 hK.DY).symm
     have j9:T=[]↔Dn=S.D:=by rw[<-hT.out,Y1 d1 hK.DY,l8]
     have g8:Marks Dn S.L G':=by
      rw[<-b5.out];exact Mk1.marks h.out.ou.mks n8 hK.DY k9
     have hF:∀b,F2 b->q.F b\/w.heap.size<=b:=λb hb=>by
      rcases d6 b hb with g|g
      ·exact(g9 b g).imp id λg=>aM o7 g
      ·exact .inr ω
     have i:=ah (λ(nv:Nat) (d2:aj) (hr:RX d a1 d2) (e5:d2.heap[d]? =some (.cells (Ai (Vu S.cl) (Vu S.lim) z2 (.slice Av t3.length cv) (.slice Aw t2.length cw) (.slice AD Dn.length cD) (Vi (nv:Int)) (.bool S.closed)) 87 (0,0)))=>(by
      have hw:RX d w d2:=((RX.ext o5.out).trans a6.out).trans hr;have e3:RX d a3 d2:=a6.out.trans hr;refine⟨_,⟨z2,Av,cv,Aw,cw,AD,cD,F2,G'++gdL Dn X⟩,by rw[xQ],h.out.ou.next hw.size e5 (h0.out.rx e3 λb hb e=>?_) hF (MJ g8 o8) (Row.rx M.out e3 λa ha e=>?_) (.inr i6) m3 (Row.rx J.out e3 λa ha e=>?_) (.inr i5) m2 (Row.rx sD.out e3 λa ha e=>?_) (.inr fD) n3,hw,λb hb=>hb⟩
      ·rcases hF b hb with g|g
       ·exact(h.out.ou.rF b g).2 e
       ·omega
      ·have:=i6 a ha;omega
      ·have:=i5 a ha;omega
      ·have:=fD a ha;omega:rZ w d R 0 { S with L:=S.L++X,V:=t3,Wt:=t2,D:=Dn,ver:=nv } (.returned .nilIface) d2))
     have b3:∀nv:Nat,nv=(if N≠[]\/X≠[]\/Dn≠S.D then S.ver+1 else S.ver)->Du S b={ S with L:=S.L++X,V:=t3,Wt:=t2,D:=Dn,ver:=nv }:=λnv he=>by
      unfold Du;rw[if_pos hi.out,hg];simp only;rw[b4.out,hU.out,b1.out,l8,he]
     replace b3:=ah b3;have p3:a1.cell? ⟨d,14,none⟩=some (Vi (S.ver:Int)):=ak a1 d 14 _ _ _ a4.out;have q9:a1.frozen? ⟨d,14,none⟩=false:=aK a1 d 14 _ _ a4.out;have r0:=n7;have XZ:dO.wrap ((N.length:Int)+(X.length:Int))=(N.length:Int)+(X.length:Int):=cO _ ω;have r2:dO.wrap ((N.length:Int)+(X.length:Int)+(T.length:Int))=(N.length:Int)+(X.length:Int)+(T.length:Int):=cO _ ω;have r3:dO.wrap ((S.ver:Int)+1)=(S.ver:Int)+1:=cO _ ω;by_cases hv:N≠[]\/X≠[]\/Dn≠S.D
     ·have p2:0<N.length+X.length+T.length:=by
       rcases hv with g|g|g
       ·have:=jC.2 g;omega
       ·have:=jC.2 g;omega
       ·have:=jC.2 (mt j9.1 g);omega
      have e5:(a1.setCell ⟨d,14,none⟩ (Vi ((S.ver:Int)+1))).heap[d]? =some (.cells (Ai (Vu S.cl) (Vu S.lim) z2 (.slice Av t3.length cv) (.slice Aw t2.length cw) (.slice AD Dn.length cD) (Vi ((S.ver:Int)+1)) (.bool S.closed)) 87 (0,0)):=aB a1 d 14 _ _ _ a4.out;have b9:=ah (i.out (S.ver+1) _ ((RX.refl d a1).set 14 (Vi ((S.ver:Int)+1)) (.inr rfl)) e5);have g6:=ah (b3.out (S.ver+1) (by rw[if_pos hv]));have g1:decide ((0:Int)<(N.length:Int)+(X.length:Int)+(T.length:Int))=true:=decide_eq_true ω;clear e5 i b3 a4 a6 h0 M J sD g8 hF d6 g9 hv hA h
      go_wp2_with fail
      go_ret;rw[hi.out,g6.out];exact b9.out
     ·have hz:N.length=0/\X.length=0/\T.length=0:=by
       have I:N=[]:=by by_cases g:N=[];exact g;exact absurd (.inl g) hv
       have O:X=[]:=by by_cases g:X=[];exact g;exact absurd (.inr (.inl g)) hv
       have Z:Dn=S.D:=by by_cases g:Dn=S.D;exact g;exact absurd (.inr (.inr g)) hv
       rw[I,O,j9.2 Z];exact⟨rfl,rfl,rfl⟩
      have b9:=ah (i.out S.ver a1 (RX.refl d a1) a4.out);have g6:=ah (b3.out S.ver (by rw[if_neg hv]));have g1:decide ((0:Int)<(N.length:Int)+(X.length:Int)+(T.length:Int))=false:=decide_eq_false ω;clear i b3 a4 a6 h0 M J sD g8 hF d6 g9 hv hA h hz
      go_wp2_with fail
      go_ret;rw[hi.out,g6.out];exact b9.out
end
end Go.Proofs.YtejbpijamdlgcaaGreatDoor

/-
  Lemmas of this seat; no claim.
-/
import Derived.Test.YtncfhbpejchbfaaGreatDoorPD1
import Derived.Test.YtncfhbpejchbfaaGreatDoorPR1
import Derived.Test.YtncfhbpejchbfaaGreatDoorPB1
import Derived.Test.YtncfhbpejchbfaaGreatDoorPP3
set_option linter.unusedVariables false
set_option linter.unusedSimpArgs false
set_option maxRecDepth 100000
set_option maxHeartbeats 16000000
open And renaming intro→aS
open Go renaming Calls→aO,World→ae,bodyPost_ret→aB,cell_of_row→aj,cell_regrown→ai,frozen_of_row→aw,heap_alloc_new→aI,heap_setCell_same→al,wpQuiet_nil→bh,wp_region_quiet_below→ax
open Go.IntKind renaming i64→cJ
open Go.IntWalk renaming i64_in→bP
open Go.Lib renaming hid→ac
open Go.World renaming cell?_alloc_some→ah
open List renaming append_assoc→aK,append_nil→bB,drop_eq_nil_of_le→eu,drop_zero→cH,length_append→ag,length_pos_iff→ft,length_singleton→cy,not_mem_nil→ep,size_toArray→iH
open List.Pairwise renaming nil→eR
open Nat renaming le_refl→am,le_trans→az,zero_le→bN
open Prod.mk renaming injEq→bg
open Go.Proofs.Tryz
open Go.Proofs.Tryz renaming prog→pg
namespace Go.Proofs.YtncfhbpejchbfaaGreatDoor
open Go.ChangeShapes Go.WideShapes Go.ChangeAt Go.RowKit Go.Sort
section
attribute [local go_sem] ah calm jL jH
theorem Xn {P:Program} {c:Code} {Q:Exit->Act->ae->Prop} {a:Act} {W W':ae} (h:W=W') (g:c.wp P Q a W):c.wp P Q a W':=h▸g
theorem Q7 {R:Nat->Prop} {w:ae} {d:Nat} {S:DS} {q:DM} (h:kV R w d S q) (hK:DOK S) (hT:Tabs w) (hl:S.L.length<=200000) (hV:S.V.length<=400000) (hD:S.D.length<=400000) (r5:S.ver<=1000000000) (p:Int) (hp: -9223372036854775808<=p/\p<=9223372036854775807) (t:List UInt8) (ht:t.length<=100000):
  aO pg 25 #[.pointer (some ⟨d,0,none⟩),Vi p,.string ⟨t.toArray⟩] w (oZ w d R (zD S p t) (yD S p t)):=by
 have H:zD S p t≠0->yD S p t=S:=λg=>by unfold yD;rw[if_neg (λe=>g e.1)]
 have n6:=h.cell (j:=15) (v:= .bool S.closed) rfl;cases b3:S.closed with
 |true=>
  have hi:zD S p t=6:=by unfold zD;rw[b3];rfl
  rw[H (by rw[hi];decide),hi];have I:=ac (oZ.same h 6 (mV δ));rw[b3] at n6;clear h;go_enter func25,ntmps25;go_wp2;go_ret;exact I.out _ (Ext.refl _)
 |false=>
  rw[b3] at n6;have Q:=ac (validStr_any ⟨t.toArray⟩ w (by show t.toArray.size<=_;rw[iH];omega) hT);rw[show(⟨t.toArray⟩:ByteArray).data.toList=t from by simp] at Q;cases b0:Lib.validD t with
  |false=>
   have hi:zD S p t=1:=by unfold zD;rw[b3,b0];rfl
   rw[H (by rw[hi];decide),hi];rw[b0] at Q;have I:=ac (oZ.same h 1 (mV δ));clear h;go_enter func25,ntmps25
   go_wp2_with fail
   refine Q.out.mono ?_;rintro e W' ⟨rfl,x⟩;go_wp2;go_ret;exact I.out _ x
  |true=>
   rw[b0] at Q;obtain⟨c2,c3,c4,c5,c6,c7,c8,c9,c10⟩:=h.DF;obtain⟨tt,ad,b6⟩:=h.jF.ls;have a5:=h.jF.ent;by_cases hb:p<0\/((jC S.E).length:Int)<p
   ·have hi:zD S p t=3:=by unfold zD;rw[b3,b0,if_neg δ,if_neg δ,if_pos hb]
    rw[H (by rw[hi];decide),hi];have I:=ac (oZ.same h 3 (mV δ));have a7:=ac (λ(W:ae) (e:Ext w W)=>(b6.ext e).WW ω p hp (by rw[a5];exact hb));rw[mV δ] at a7;clear h b6;go_enter func25,ntmps25
    go_wp2_with fail
    refine Q.out.mono ?_;rintro e W' ⟨rfl,x⟩;replace c2:=x.keep c2;replace c3:=x.keep c3;replace c4:=x.keep c4;replace c5:=x.keep c5;replace c6:=x.keep c6;replace c7:=x.keep c7;replace c8:=x.keep c8;replace c9:=x.keep c9;replace c10:=x.keep c10
    go_wp2_with fail
    refine(a7.out _ x).mono ?_;rintro e W1 ⟨rfl,x1⟩;have u:=ac (((x.trans x1).alloc (.cells #[Vu 0,Vu 0] 38)).alloc (.cells #[Vu 0,Vu 0] 38));clear c2 c3 c4 c5 c6 c7 c8 c9 c10 x x1;go_wp2;go_ret;exact I.out _ u.out
   ·obtain⟨k,rfl⟩:∃k:Nat,p=(k:Int):=⟨p.toNat,ω⟩
    have o5:k<=(jC S.E).length:=ω
    have a7:=ac (λ(W:ae) (e:Ext w W)=>(b6.ext e).between ω k (by rw[a5];exact o5));rw[a5] at a7;have p2:=QE hK;have q6:=hK.c1;have q5:=hK.c0;have q4:=hK.l1;have q3:=hK.l0;have b2:zD S (k:Int) t=if S.lim+1<nxt S+(jK t).length then 4 else 0:=by
       unfold zD;rw[b3,b0,if_neg δ,if_neg δ,if_neg hb]
    have a8:=ac (λ(W:ae)=>runeCount_any ⟨t.toArray⟩ W (by show t.toArray.size<_;rw[iH];omega));rw[xR,show(⟨t.toArray⟩:ByteArray).data.toList=t from by simp] at a8;have o3:=az (qL t) ht;obtain⟨n,hn⟩:∃n,(jK t).length=n:=⟨_,rfl⟩;rw[hn] at b2 a8 o3;replace hn:=ac hn;replace b2:=ac b2;replace H:=ac H;have c0:=h.cell (j:=0) (v:=Vu S.cl) rfl;have c1:=h.cell (j:=1) (v:=Vu S.lim) rfl;have p1:=h.cell (j:=11) (v:= .slice q.A S.V.length q.ca) rfl;have h8:=ac (λ(W:ae) (e:Ext w W)=>GD q.A S.V.length q.ca S.V S.cl W (h.jF.vec.ext e) rfl hK.yB ω);rw[show jq S.V S.cl=nxt S from rfl] at h8;have d9:=ac (λ(W:ae)=>Eb S.cl (nxt S) (n:Int) (S.lim+1) W ω ω ω ω ω ω);generalize d1:tN S.E k=bw at*;obtain⟨⟨l1,l2⟩,r1,r2⟩:=bw;simp only at a7;replace h:=ac h;replace b6:=ac b6;replace d1:=ac d1;generalize d6:nxt S=nx at*;replace d6:=ac d6;have q2:IntKind.u32.wrap (S.lim+1)=S.lim+1:=IntWalk.u32_in _ ω;go_enter func25,ntmps25
    go_wp2_with fail
    refine Q.out.mono ?_;rintro e W' ⟨rfl,x⟩;replace c2:=x.keep c2;replace c3:=x.keep c3;replace c4:=x.keep c4;replace c5:=x.keep c5;replace c6:=x.keep c6;replace c7:=x.keep c7;replace c8:=x.keep c8;replace c9:=x.keep c9;replace c10:=x.keep c10
    go_wp2_with fail
    refine(a7.out _ x).mono ?_;rintro e W1 ⟨rfl,x1⟩;have u:=ac (((x.trans x1).alloc (.cells #[Vu l1,Vu l2] 38)).alloc (.cells #[Vu r1,Vu r2] 38));have b7:((W1.alloc (.cells #[Vu l1,Vu l2] 38)).alloc (.cells #[Vu r1,Vu r2] 38)).heap[W1.heap.size]? =some (.cells #[Vu l1,Vu l2] 38 (0,0)):=Ext.blk ((Ext.refl _).alloc _) (aI W1 _);have b8:((W1.alloc (.cells #[Vu l1,Vu l2] 38)).alloc (.cells #[Vu r1,Vu r2] 38)).heap[W1.heap.size+1]? =some (.cells #[Vu r1,Vu r2] 38 (0,0)):=by
       have:=aI (W1.alloc (.cells #[Vu l1,Vu l2] 38)) (.cells #[Vu r1,Vu r2] 38);rwa[show(W1.alloc (.cells #[Vu l1,Vu l2] 38)).heap.size=W1.heap.size+1 by simp] at this
    clear c2 c3 c4 c5 c6 c7 c8 c9 c10 x x1 Q a7
    go_wp2_with fail
    generalize(W1.alloc (.cells #[Vu l1,Vu l2] 38)).alloc (.cells #[Vu r1,Vu r2] 38)=W2 at*;generalize W1.heap.size+1=p8 at*;generalize W1.heap.size=p7 at*;have e0:=u.out.keep c0;have n5:=u.out.keep p1;refine mg 15 [rwI 12 (Vu nx),rw1 14 (λz W=>∃q,z=Vp q/\W2.heap.size<=q/\W.heap[q]? =some (.cells #[Vu 0,Vu 0] 38 (0,0)))] ⟨λ_ _ _ _ h _=>h,(by rintro _ _ _ _ ⟨q,Z,U,h3⟩ e;exact⟨q,Z,U,e.blk h3⟩),trivial⟩ λρ hI=>?_
    refine .s 12 (λW u y=>by
       have a0:=u.keep e0;have a1:=u.keep n5;exact jD) ?_
    refine .kv hI 0 (Vu nx) (λW X=>h8.out W (u.out.trans X)) ?_;refine .s 1 (λW u y=>jD) ?_;refine .o 1 [] (λW X y f N hN=>?_) ?_
    ·go_simp
     exact hN _ _ (λ_ e=>by cases e) ⟨_,rfl,X.size,aI W _⟩ ((Ext.refl W).alloc _)
    refine .fin λW hR ⟨_,⟨i,p4,n7,uq⟩,_⟩=>?_
    rw[show ρ 14=_ from p4];have f0:W.frozen? ⟨i,0,none⟩=false:=aw W i 0 _ _ uq;have f1:W.frozen? ⟨i,1,none⟩=false:=aw W i 1 _ _ uq;have k0:W.cell? ⟨i,0,none⟩=some (Vu 0):=aj W i 0 _ _ _ uq;have k1:W.cell? ⟨i,1,none⟩=some (Vu 0):=aj W i 1 _ _ _ uq;have j0:(W.setCell ⟨i,0,none⟩ (Vu S.cl)).heap[i]? =some (.cells #[Vu S.cl,Vu 0] 38 (0,0)):=al W i 0 _ _ _ uq;have j1:((W.setCell ⟨i,0,none⟩ (Vu S.cl)).setCell ⟨i,1,none⟩ (Vu nx)).heap[i]? =some (.cells #[Vu S.cl,Vu nx] 38 (0,0)):=al _ i 1 _ _ _ j0;have x3:Ext W2 ((W.setCell ⟨i,0,none⟩ (Vu S.cl)).setCell ⟨i,1,none⟩ (Vu nx)):=(hR.setCell n7 _).setCell n7 _;have g5:=ac (u.out.trans x3);have O:=ac (x3.blk b7);have J:=ac (x3.blk b8);replace uq:=ac j1;clear j0 j1 x3 hR e0 n5 u b7 b8 h8
    go_wp2_with fail
    generalize(W.setCell ⟨i,0,none⟩ (Vu S.cl)).setCell ⟨i,1,none⟩ (Vu nx)=W3 at*;clear f0 f1 k0 k1;have e1:=g5.out.keep c1;have k0:W3.cell? ⟨i,0,none⟩=some (Vu S.cl):=aj W3 i 0 _ _ _ uq.out;have k1:W3.cell? ⟨i,1,none⟩=some (Vu nx):=aj W3 i 1 _ _ _ uq.out;obtain⟨⟨a1,a2,a3⟩,d2⟩:∃x,om S.cl nx (n:Int) (S.lim+1)=x:=⟨_,rfl⟩;rw[d2] at d9;simp only at d9;replace d2:=ac d2;refine ou 14 13 [rwI 2 (Vi (n:Int)),rwI 8 (.tuple #[idv a1 a2,lF a3]),rwB 12 (λz W=>∃q,z=Vp q/\W3.heap.size<=q/\W.heap[q]? =some (.cells #[Vu 0,Vu 0] 38 (0,0))),rw2 13 12 (λ_ z W=>∃q,z=Vp q/\W3.heap.size<=q/\W.heap[q]? =some (.cells #[Vu a1,Vu a2] 38 (0,0)))] (Ext W3) (λ_=>True) Ext (λ_ _=>True) ((Ext.refl _).drew) trivial (λ_ _=>Ext.trans) (λ_ _ _ _=>trivial)
       ⟨(λ_ _ _ _ h _=>h),(λ_ _ _ _ _ _ h _=>h),(λ_ _ _ _ h _=>h),(λ_ _ _ _ _ _ h _=>h),(by rintro _ _ _ _ ⟨q,Z,U,h3⟩ e;exact⟨q,Z,U,e.blk h3⟩),(λh=>by cases h),(by rintro _ _ _ _ ⟨q,Z,U,h3⟩ e;exact⟨q,Z,U,e.blk h3⟩),(λ_ h=>absurd rfl h),trivial⟩ λk9 i3=>?_
    refine .s1 2 false [] (λW u _ _=>by
       have u0:=u.keep k0;have u1:=u.keep k1;exact jD) ?_
    refine .kv1 i3 0 _ (λW X=>a8.out W) ?_;refine .s1 5 false [] (λW u _ _=>by
       have u0:=u.keep e1;exact jD) ?_
    refine .kv1 i3 1 _ (λW X=>d9.out W) ?_;refine .s1 3 false [] (λW u _ _=>jD) ?_;refine .o1 2 false [] (λW X _ _ N hN=>?_) ?_
    ·go_simp
     exact hN _ _ (λ_ e=>by cases e) ⟨_,rfl,X.size,aI W _⟩ ((Ext.refl W).alloc _)
    refine .o0 3 [2] (λW X _ f N hN=>?_) ?_
    ·obtain⟨⟨qb,a6,b1,a4⟩,_⟩:=f
     have a6:k9 12=_:=a6;have f0:W.frozen? ⟨qb,0,none⟩=false:=aw W qb 0 _ _ a4;have f1:W.frozen? ⟨qb,1,none⟩=false:=aw W qb 1 _ _ a4;have k0:W.cell? ⟨qb,0,none⟩=some (Vu 0):=aj W qb 0 _ _ _ a4;have k1:W.cell? ⟨qb,1,none⟩=some (Vu 0):=aj W qb 1 _ _ _ a4;have j0:(W.setCell ⟨qb,0,none⟩ (Vu a1)).heap[qb]? =some (.cells #[Vu a1,Vu 0] 38 (0,0)):=al W qb 0 _ _ _ a4;have j1:((W.setCell ⟨qb,0,none⟩ (Vu a1)).setCell ⟨qb,1,none⟩ (Vu a2)).heap[qb]? =some (.cells #[Vu a1,Vu a2] 38 (0,0)):=al _ qb 1 _ _ _ j0
     go_simp
     exact hN _ _ (λ_ e=>by cases e) ⟨qb,a6,b1,j1⟩ ((X.setCell b1 _).setCell b1 _) trivial
    refine .fin λW hR ⟨_,_,_,jV,_⟩=>?_
    obtain⟨h0,p5,p9,IZ⟩:=jV rfl;rw[show k9 12=_ from p5];have n8:=ac g5.out.size;have b4:=ac (g5.out.trans hR);replace O:=ac (hR.blk O.out);replace J:=ac (hR.blk J.out);replace uq:=ac (hR.blk uq.out);replace IZ:=ac IZ;clear hR k0 k1 e1 a8 d9 g5 hI i3 jV;generalize W=W4 at*;have r3:=p2.1;by_cases l8:S.lim+1<nx+(n:Int)
    ·have d3:(a1,a2,a3)=(0,0,4):=by rw[<-d2.out];unfold om;rw[if_neg ω,if_pos ω]
     simp only[bg] at d3;obtain⟨rfl,rfl,rfl⟩:=d3;have hi:=ac (show zD S (k:Int) t=4 by rw[b2.out,if_pos l8]);have I:=ac (oZ.same h.out 4 (mV δ) W4 b4.out);rw[mV (by decide:(4:Int)≠0)];clear O J uq IZ b4 h;go_wp2;go_ret;rw[hi.out,H.out (by rw[hi.out];decide)];exact I.out
    ·have d3:(a1,a2,a3)=(S.cl,nx+(n:Int),0):=by rw[<-d2.out];unfold om;rw[if_neg ω,if_neg ω]
     simp only[bg] at d3;obtain⟨rfl,rfl,rfl⟩:=d3;have hi:=ac (show zD S (k:Int) t=0 by rw[b2.out,if_neg l8]);rw[yM];by_cases d5:t=[]
     ·subst d5
      have I:=ac (oZ.same h.out 0 yM W4 b4.out);have n9:=ac (show yD S (k:Int) []=S by unfold yD;rw[if_neg (λe=>e.2 rfl)]);clear O J uq IZ b4 h;go_wp2;go_ret;rw[hi.out,n9.out];exact I.out
     ·have o4:t.isEmpty=false:=by cases t with|nil=>exact absurd rfl d5|cons x l=>rfl
      have n0:W4.cell? ⟨i,0,none⟩=some (Vu S.cl):=aj W4 i 0 _ _ _ uq.out;have n1:W4.cell? ⟨i,1,none⟩=some (Vu nx):=aj W4 i 1 _ _ _ uq.out;have m0:W4.cell? ⟨p7,0,none⟩=some (Vu l1):=aj W4 p7 0 _ _ _ O.out;have m1:W4.cell? ⟨p7,1,none⟩=some (Vu l2):=aj W4 p7 1 _ _ _ O.out;have o0:W4.cell? ⟨p8,0,none⟩=some (Vu r1):=aj W4 p8 0 _ _ _ J.out;have o1:W4.cell? ⟨p8,1,none⟩=some (Vu r2):=aj W4 p8 1 _ _ _ J.out;have g6:QM [(⟨S.cl,nx,l1,l2,r1,r2,t⟩:Rn)]:=by
       intro r hr;obtain rfl:r=_:=by simpa using hr
       have m2:=aay hK.kn hK.wfL (gdL S.D S.L) k;rw[show kr S.L (gdL S.D S.L)=S.E from rfl,d1.out] at m2;simp only at m2;have l5:0<(jK t).length:=by
           cases t with
           |nil=>exact absurd rfl d5
           |cons a r=>rw[oH _ ι];simp
       refine⟨?_,?_⟩
       ·unfold mZ
        rw[decide_eq_true_eq];refine⟨b0,l5,by show S.cl≠0;omega,?_⟩;show nx+((jK t).length:Int)-1<=4294967294;rw[hn.out];omega
       ·unfold wfR
        simp only;omega
      have h7:=ac (DJ (some ⟨W4.heap.size,0,none⟩) 1 1 [(⟨S.cl,nx,l1,l2,r1,r2,t⟩:Rn)] _ (RnS.new W4 _) rfl g6 ω (by rw[show jr [(⟨S.cl,nx,l1,l2,r1,r2,t⟩:Rn)]=mF ⟨S.cl,nx,l1,l2,r1,r2,t⟩ by simp[jr],He];show(jK t).length<=_;rw[hn.out];omega));have m6:=ac (show jr [(⟨S.cl,nx,l1,l2,r1,r2,t⟩:Rn)]=yE S (k:Int) t by
       unfold yE;rw[Int.toNat_natCast,d1.out,d6.out];simp[jr,mF])
      rw[m6.out] at h7
      go_wp2_with fail
      refine h7.out.mono ?_;rintro e W5 ⟨vM,rfl,oM,x5⟩;obtain⟨AM,cM,rfl,q7,iM⟩:=oM.open;have g9:=((Ext.refl W4).alloc (.cells #[Vu S.cl,Vu nx,Vu l1,Vu l2,Vu r1,Vu r2,.string ⟨t.toArray⟩] 40)).trans x5;have g4:=ac (b4.out.trans g9);replace IZ:=ac (g9.blk IZ.out);replace iM:=ac iM;clear n0 n1 m0 m1 o0 o1 O J uq b4 g9 x5 oM h7 o4 g6;obtain⟨b9,j9⟩:=Tq hK hi.out;have m5:(yE S (k:Int) t).length=n:=by unfold yE;rw[pX,hn.out]
      have o7:=ac (show yD S (k:Int) t={ S with L:=S.L++yE S (k:Int) t,V:=setOf S.V S.cl (nx+(n:Int)),ver:=S.ver+1 } by
       unfold yD;rw[if_pos ⟨hi.out,d5⟩,d6.out,hn.out])
      generalize hM:yE S (k:Int) t=M at*;clear hM m6 d1 b2 H;have h5:=h.out.ext g4.out;obtain⟨e2,e3,e4,e5,e6,e7,e8,e9,i7⟩:=h5.DF;have i6:=h5.cell (j:=13) (v:= .slice q.C S.D.length q.cc) rfl;have g7:=ac (λ(W:ae) (e:Ext W5 W)=>(KC (h5.jF.ls.ext e) AM q.C M.length cM S.D.length q.cc M S.D (iM.out.ext e) rfl (h5.jF.sps.ext e) rfl hK.Aj hD b9 (λx X=>(j9 x X).1) ω).mono (by
       rintro e9 w9 ⟨z,rfl,⟨F1,g1,g2⟩,g3⟩;exact⟨_,rfl,⟨z,rfl,F1,g1,λb hb=>(g2 b hb).imp id λg=>az (az g4.out.size e.size) g⟩,g3⟩:∀e9 w9,_->∃v,e9= .returned v/\(∃z:Lv,v= .tuple #[lsv z,.nilIface]/\NwL q.F w.heap.size (S.L++M) (q.G++gdL S.D M) w9 z)/\Ext W w9))
      generalize i2:S.L++M=Ln at*;generalize i4:q.G++gdL S.D M=Gn at*;clear h5;replace i2:=ac i2;replace i4:=ac i4;replace m5:=ac m5;replace b9:=ac b9;replace j9:=ac j9;replace a5:=ac a5
      go_wp2_with fail
      refine ou 15 14 [rw1 9 (λz9 W=>∃z2:Lv,z9= .tuple #[lsv z2,.nilIface]/\NwL q.F w.heap.size Ln Gn W z2),rw1 11 (λz9 W=>∃z2:Lv,z9=lsv z2/\NwL q.F w.heap.size Ln Gn W z2),rw1 12 (λz9 _=>z9= .nilIface),rwB 13 (λz9 W=>∃q,z9=Vp q/\W5.heap.size<=q/\BxL W q zLv),rw2 14 13 (λ_ v W=>∃q9 z2,v=Vp q9/\W5.heap.size<=q9/\BxL W q9 z2/\NwL q.F w.heap.size Ln Gn W z2)] (Ext W5) (λ_=>True) Ext (KLC W5) ((Ext.refl _).drew) trivial (λ_ _=>Ext.trans) (λ_ _ _ _=>trivial)
       ⟨(by rintro _ _ _ _ ⟨yv,Z,U⟩ e;exact⟨yv,Z,U.ext e⟩),(λ_ _=>by rintro _ _ _ _ ⟨yv,Z,U⟩ e;exact⟨yv,Z,U.klc e⟩),(by rintro _ _ _ _ ⟨yv,Z,U⟩ e;exact⟨yv,Z,U.ext e⟩),(λ_ _=>by rintro _ _ _ _ ⟨yv,Z,U⟩ e;exact⟨yv,Z,U.klc e⟩),(λ_ _ _ _ h _=>h),(λ_ _ _ _ _ _ h _=>h),(by rintro _ _ _ _ ⟨q,Z,U,h3⟩ e;exact⟨q,Z,U,h3.ext e⟩),(λh=>by cases h),(by rintro _ _ _ _ ⟨q,yv,Z,U,h3,h4⟩ e;exact⟨q,yv,Z,U,h3.ext e,h4.ext e⟩),(λ_ h=>absurd rfl h),trivial⟩ λρ hI=>?_
      refine .s1 9 false [] (λW u _ _=>by
       have e2:=u.keep e2;have e3:=u.keep e3;have e4:=u.keep e4;have e5:=u.keep e5;have e6:=u.keep e6;have e7:=u.keep e7;have e8:=u.keep e8;have e9:=u.keep e9;have i7:=u.keep i7;have i6:=u.keep i6;exact jD) ?_
      refine .o1 0 false [] (λW X _ _ N hN=>?_) ?_
      ·go_simp
       exact(g7.out W X).mono (by rintro e W2 ⟨v,rfl,Z,U⟩;exact⟨_,rfl,hN _ _ (λ_ e=>by cases e) Z U⟩)
      refine .s1 1 false [] (λW u _ _=>jD) ?_;refine .o1 1 false [0] (λW X _ f N hN=>?_) ?_
      ·obtain⟨⟨yv,e9,m7⟩,_⟩:=f
       have e9:ρ 9=_:=e9
       go_simp
       exact hN _ _ (λ_ e=>by cases e) ⟨yv,rfl,m7⟩ (Ext.refl _)
      refine .o1 2 false [0] (λW X _ f N hN=>?_) ?_
      ·obtain⟨⟨yv,e9,m7⟩,_⟩:=f
       have e9:ρ 9=_:=e9
       go_simp
       exact hN _ _ (λ_ e=>by cases e) rfl (Ext.refl _)
      refine .o1 3 false [] (λW X _ _ N hN=>?_) ?_
      ·go_simp
       exact hN _ _ (λ_ e=>by cases e) ⟨_,rfl,X.size,BxL.new W zLv⟩ ((Ext.refl W).alloc _)
      refine .o0 4 [3,1] (λW X _ f N hN=>?_) ?_
      ·obtain⟨⟨qb,a6,b1,a4⟩,⟨yv,i5,o8⟩,_⟩:=f
       have a6:ρ 13=_:=a6;have i5:ρ 11=_:=i5;have hk:=Oa yv b1 a4;exact OA (x:= .tmp 13) (z:= .tmp 85) rfl a6 i5 a4 λv=>hN v _ (λ_ e=>by cases e) ⟨qb,yv,a6,b1,a4.put yv,o8.klc hk⟩ (hk.1 X) hk
      refine .fin λW hR ⟨_,_,n3,_,jV,_⟩=>?_
      obtain⟨q0,zn,p6,r6,V6,i1⟩:=jV rfl;rw[show ρ 13=_ from p6,show ρ 12=_ from n3 rfl];clear hI n3 jV g7 e2 e3 e4 e5 e6 e7 e8 e9 i7 i6;generalize W=W6 at*;have g0:=ac (g4.out.trans hR);replace IZ:=ac (hR.blk IZ.out);have h6:=h.out.ext g0.out;clear g4 hR iM;have r4:=h.out.jF.low;have l9:h0≠d:=by
       have:w.heap.size<=W3.heap.size:=n8.out;omega
      obtain⟨k0,k1,k2,k3,k4,k5,k6,k7,k8⟩:=V6.cells;obtain⟨⟨_,_,_,_,_⟩,j0,j1,j2,j3,j4,j5,j6,j7,j8⟩:=afb.vals (show W6.heap[d]? =some (.cells (AQ _ _ _ _ _ _ _ _) _ (0,0)) from h6.box);have f2:=h6.thaw 2;have f3:=h6.thaw 3;have f4:=h6.thaw 4;have f5:=h6.thaw 5;have f6:=h6.thaw 6;have f7:=h6.thaw 7;have f8:=h6.thaw 8;have f9:=h6.thaw 9;have p0:=h6.thaw 10;have O:=ac (Jr (show W6.heap[d]? =some (.cells (AQ _ _ _ _ _ _ _ _) _ (0,0)) from h6.box) zn);have a9:=ac (SN W6 d zn);clear h6 V6;obtain⟨W7,h9⟩:∃W7,W7=QA W6 d zn:=⟨_,rfl⟩;rw[<-h9] at O a9;have n2:=ac (h.out.jF.vec.ext g0.out)
      go_upto_region 19 with fail
      refine Xn h9 ?_;clear h9 k0 k1 k2 k3 k4 k5 k6 k7 k8 j0 j1 j2 j3 j4 j5 j6 j7 j8 f2 f3 f4 f5 f6 f7 f8 f9 p0;have n4:=a9.out.blk IZ.out l9;have v1:W7.cell? ⟨h0,1,none⟩=some (Vu (nx+(n:Int))):=aj W7 h0 1 _ _ _ n4;obtain⟨⟨z0,g8,_,_,l3⟩,_⟩:=afb.vals O.out;have m4:=ac (Row.rxe n2.out a9.out λg a ha=>(h.out.jF.rA g a ha).2);have b5:=ac (λ(W:ae) (e:Ext W7 W)=>aa5 q.A S.V.length q.ca S.V S.cl (nx+(n:Int)) W (Row.ext m4.out e) rfl h.out.jF.nA hK.yB hV);rw[show NS S.V S.cl (nx+(n:Int))=setOf S.V S.cl (nx+(n:Int)) from if_neg ω] at b5;generalize m3:setOf S.V S.cl (nx+(n:Int))=Vn at*;replace m3:=ac m3;have o2:w.heap.size<=W7.heap.size:=az g0.out.size a9.out.size;refine mg 14 [rw1 11 (λz W=>∃A c,z= .slice A Vn.length c/\Vn.length<=c/\Vec W A Vn/\rZ w.heap.size A)] ⟨(by rintro _ _ _ _ ⟨A,c,Z,U,h3,h4⟩ e;exact⟨A,c,Z,U,h3.ext e,h4⟩),trivial⟩ λρ hI=>?_
      refine .s 11 (λW u _=>by
       have e0:=u.keep z0;have e1:=u.keep g8;have e2:=u.keep v1;exact jD) ?_
      refine .k 0 (R:=λz W=>∃A c,z= .slice A Vn.length c/\Vn.length<=c/\Vec W A Vn/\rZ w.heap.size A) (λW' X=>(b5.out W' X).mono (by rintro e w1 ⟨A1,n1,c1,rfl,rfl,U,h3,h4,h5⟩;exact⟨_,rfl,⟨A1,c1,rfl,h4,U,λa ha=>az (az o2 X.size) (h5 a ha)⟩,h3⟩)) ?_;refine .s 2 (λW u _=>jD) ?_;refine .fin λW8 hR ⟨⟨A',c',eA,o6,i0,m9⟩,_⟩=>?_
      rw[show ρ 11=_ from eA];clear hI b5 z0 g8 l3 v1 n4 m4 n2;have J:=hR.blk O.out;have r0:W8.frozen? ⟨d,11,none⟩=false:=aw W8 d 11 _ _ J;have g8:W8.cell? ⟨d,11,none⟩=some (.slice q.A S.V.length q.ca):=aj W8 d 11 _ _ _ J;have d7:(W8.setCell ⟨d,11,none⟩ (.slice A' Vn.length c')).heap[d]? =some (.cells (AQ (Vu S.cl) (Vu S.lim) zn (.slice A' Vn.length c') (.slice q.B S.Wt.length q.cb) (.slice q.C S.D.length q.cc) (Vi (S.ver:Int)) (.bool S.closed)) 69 (0,0)):=al W8 d 11 _ _ _ J;have l3:(W8.setCell ⟨d,11,none⟩ (.slice A' Vn.length c')).cell? ⟨d,14,none⟩=some (Vi (S.ver:Int)):=aj _ d 14 _ _ _ d7;have q8:(W8.setCell ⟨d,11,none⟩ (.slice A' Vn.length c')).frozen? ⟨d,14,none⟩=false:=aw _ d 14 _ _ d7;have uq:((W8.setCell ⟨d,11,none⟩ (.slice A' Vn.length c')).setCell ⟨d,14,none⟩ (Vi ((S.ver:Int)+1))).heap[d]? =some (.cells (AQ (Vu S.cl) (Vu S.lim) zn (.slice A' Vn.length c') (.slice q.B S.Wt.length q.cb) (.slice q.C S.D.length q.cc) (Vi ((S.ver:Int)+1)) (.bool S.closed)) 69 (0,0)):=al _ d 14 _ _ _ d7;have l4:=ac ((a9.out.trans (RX.ext hR)).trans (((RX.refl d W8).set 11 (.slice A' Vn.length c') (.inr rfl)).set 14 (Vi ((S.ver:Int)+1)) (.inr rfl)));have p3:=ac (((RX.refl d W8).set 11 (.slice A' Vn.length c') (.inr rfl)).set 14 (Vi ((S.ver:Int)+1)) (.inr rfl));have q1:cJ.wrap ((S.ver:Int)+1)=(S.ver:Int)+1:=bP _ ω;replace uq:=ac uq;replace i0:=ac i0;replace i1:=ac i1;clear J d7 hR O a9 IZ
      go_wp2_with fail
      go_ret;generalize(W8.setCell ⟨d,11,none⟩ (.slice A' Vn.length c')).setCell ⟨d,14,none⟩ (Vi ((S.ver:Int)+1))=W9 at*;obtain⟨F1,o9,m8⟩:=i1.out;rw[hi.out,o7.out];have Y:=h.out.jF;have d4:RX d w W9:=(RX.ext g0.out).trans l4.out;refine⟨_,⟨zn,A',c',q.B,q.cb,q.C,q.cc,F1,Gn⟩,by rw[yM];rfl,Y.next d4.size ?_ (o9.rx l4.out λb hb e=>?_) m8 ?_ (Row.rx i0.out p3.out λa ha e=>?_) (.inr m9) o6 (Row.rxe Y.its d4 λg a ha=>(Y.rB g a ha).2) (.inl ⟨rfl,am _⟩) Y.nB (Row.rxe Y.sps d4 λg a ha=>(Y.rC g a ha).2) (.inl ⟨rfl,am _⟩) Y.nC,d4,λb hb=>hb⟩
      ·exact uq.out
      ·rcases m8 b hb with g|g
       ·exact(Y.rF b g).2 e
       ·omega
      ·show Marks S.D Ln Gn
       rw[<-i2.out,<-i4.out];exact JE Y.mks Y.ls.gin
      ·have:=m9 a ha
       omega
end
section
attribute [local go_sem] ah
theorem Kz (a b:Int×Int×Int) (w:ae):aO pg 72 #[spv a.1 a.2.1 a.2.2,spv b.1 b.2.1 b.2.2] w λe w'=>e= .returned (.bool (oN a b))/\Ext w w':=by
 obtain⟨q,K,H⟩:=a;obtain⟨j,z,J⟩:=b;obtain⟨R,hR⟩:∃R,oN (q,K,H) (j,z,J)=R:=⟨_,rfl⟩;rw[hR];have x2:Ext w ((w.alloc (.cells #[Vu q,Vu K,Vu H] 74)).alloc (.cells #[Vu j,Vu z,Vu J] 74)):=((Ext.refl w).alloc _).alloc _;unfold oN at hR;simp only at hR;by_cases i:q<j
 ·have M:decide (q<j)=true:=decide_eq_true i
  have f:true=R:=by rw[<-hR];simp[i]
  replace f:=ac f;clear hR i;go_enter func72,ntmps72;go_wp2;go_ret;exact⟨by rw[<-f.out];rfl,x2⟩
 ·have M:decide (q<j)=false:=decide_eq_false i
  by_cases u:q=j
  ·subst u
   have f:decide (H<=z)=R:=by rw[<-hR];simp
   replace f:=ac f;clear hR i;cases I:decide (H<=z) with
   |true=>
    rw[I] at f;go_enter func72,ntmps72;go_wp2;go_ret;exact⟨by rw[<-f.out];rfl,x2⟩
   |false=>
    rw[I] at f;go_enter func72,ntmps72;go_wp2;go_ret;exact⟨by rw[<-f.out];rfl,x2⟩
  ·have N:(q==j)=false:=by simpa using u
   have f:false=R:=by rw[<-hR];simp[i,u]
   replace f:=ac f;clear hR i u;go_enter func72,ntmps72;go_wp2;go_ret;exact⟨by rw[<-f.out];rfl,x2⟩
theorem qg.neS {b p:Nat} {W:ae} {v:Value} {l:List Sp} (h:qg b W v l) (a:p<b):some p≠v.ownBlock:=λe=>by have:=(h.lt p e.symm).1;omega
theorem qg.neT {b:Nat} {W:ae} {v:Value} {l:List Sp} (h:qg b W v l) {p:Nat} (a:W.heap.size<=p):some p≠v.ownBlock:=λe=>by have:=(h.lt p e.symm).2;omega
def agU (w:ae) (a b n:Nat) (x z:Int) (R:List Sp) (v:Value) (W:ae):Prop:=
 ∃(lo:List Sp) (y:Int),Hid (qg b W v lo)/\Hid (wK W a x y z)/\Ext w W/\b<=W.heap.size/\lo.length<=n/\Hid (lo++AO (x,y,z)=R)
def agT (w:ae) (a b n:Nat) (x z:Int) (set R:List Sp) (v i:Value) (W:ae):Prop:=
 ∃(k:Nat) (lo:List Sp) (y:Int),k<=n/\i=Vi (k:Nat)/\Hid (qg b W v lo)/\Hid (wK W a x y z)/\Ext w W/\b<=W.heap.size/\lo.length<=k/\Hid (lo++tJ (x,y,z) (set.drop k)=R)
theorem aae (s:Int×Int×Int) (A:Option Addr) (n c:Nat) (set:List Sp) (w:ae) (hv:SpS w A set) (hn:set.length=n) (hb:n<=400000):
  aO pg 73 #[spv s.1 s.2.1 s.2.2,.slice A n c] w λe w'=>∃v,e= .returned v/\kZ w w' v (tJ s set)/\Ext w w':=by
 obtain⟨x,y,z⟩:=s;obtain⟨R,hR⟩:∃R,tJ (x,y,z) set=R:=⟨_,rfl⟩;rw[hR];replace hn:=ac hn;replace hv:=ac hv;replace hR:=ac hR;go_enter func73,ntmps73
 go_upto_region 2 with fail
 have x0:Ext w (w.alloc (.cells #[Vu x,Vu y,Vu z] 74)):=(Ext.refl _).alloc _;have b0:=ac (wK.new w x y z);have f:w.heap.size<(w.alloc (.cells #[Vu x,Vu y,Vu z] 74)).heap.size:=ι
 generalize w.alloc (.cells #[Vu x,Vu y,Vu z] 74)=W0 at*;obtain⟨b,W⟩:∃b,W0.heap.size=b:=⟨_,rfl⟩;rw[W] at f;obtain⟨pb,a5⟩:∃pb,w.heap.size=pb:=⟨_,rfl⟩;rw[a5] at f b0⊢;have U:w.heap.size<=pb:=ω
 replace W:=ac W;replace a5:=ac a5
 go_upto_block 0 with fail
 go_cut [5] (agU w pb b n x z R)
 case first=>
  go_wp2_with fail
  go_loopw [5,10] (agT w pb b n x z set R) (λ_ i _=>n-(intOf i).toNat)
  case atStart=>exact⟨0,[],y,bN _,rfl,ac (qg.nil _ _),b0,x0,by rw[W.out];exact am _,am _,ac (by rw[cH];exact hR.out)⟩
  case round=>
   clear b0 x0 hR;obtain⟨k,lo,y,hk,rfl,K,Z,O,H,a6,hrel⟩:=hrel;by_cases a9:k<n
   ·obtain⟨bb,oo,o1,j,Q,rfl,hp,d0,d1,d2⟩:=hv.out.at (k:=k) (by rw[hn.out];exact a9)
    have c0:=O.keep d0;have c1:=O.keep d1;have c2:=O.keep d2;have I:=hrel.out;rw[drop_at hp] at I;clear hp hrel d0 d1 d2;have y1:Ext wr (wr.alloc (.cells #[Vu o1,Vu j,Vu Q] 74)):=(Ext.refl _).alloc _;have bo:=ac (wK.new wr o1 j Q);have M:=ac (Kz (x,y,z) (o1,j,Q) (wr.alloc (.cells #[Vu o1,Vu j,Vu Q] 74)));obtain⟨e0,e1,e2,f1,f2⟩:=(Z.out.ext y1).cells;obtain⟨p0,p1,p2,_,_⟩:=bo.out.cells;cases ha:oN (x,y,z) (o1,j,Q) with
    |true=>
     rw[ha] at M;have hd:=ac (show lo++AO (x,y,z)=R by rw[<-I,tJ,if_pos ha]);clear I ha
     go_wp2_with fail
     refine M.out.mono ?_;rintro e w2 ⟨rfl,x2⟩;replace x2:=y1.trans x2
     go_wp2_with fail
     go_meet;exact⟨lo,y,ac (K.out.ext x2),ac (Z.out.ext x2),O.trans x2,az H x2.size,ω,hd⟩
    |false=>
     rw[ha] at M;rw[tJ,if_neg (by simp[ha])] at I;clear ha;by_cases J:y<j
     ·have g1:decide (y<j)=true:=decide_eq_true J
      rw[if_pos J,<-aK] at I;replace I:=ac I;clear J
      go_wp2_with fail
      refine M.out.mono ?_;rintro e w2 ⟨rfl,x2⟩;have a:=y1.trans x2;have N:=a.alloc (.cells #[Vu x,Vu y,Vu j] 74);have a2:=ac (K.out.ext N);have b2:=ac (Z.out.ext N);have b3:=ac ((bo.out.ext x2).ext ((Ext.refl _).alloc (.cells #[Vu x,Vu y,Vu j] 74)));have a0:=ac (O.trans N);have X:=az H N.size;have a8:=ac (K.out.neS f);have a7:=ac (K.out.neT (am _));have a3:=ac (λ(W3:ae) (g:(w2.alloc (.cells #[Vu x,Vu y,Vu j] 74)).grownBy W3 _)=>a0.out.grown g λk hk=>az U (az (Nat.le_of_lt f) (K.out.lt k hk).1));obtain⟨e0,e1,e2,f1,f2⟩:=(Z.out.ext a).cells;obtain⟨p0,p1,p2,_,_⟩:=(bo.out.ext x2).cells;clear a N
      go_wp2_with(first
       |(at_builtin
         refine vv rfl (.tmp 22) (.tmp 30) rfl b _ lo rfl a2.out X _ 1 1 [(x,y,j)] rfl rfl (SpS.new _ x y j) (by rw[cy];omega) ?_;intro v3 w3 q g3 _;have Y:=b2.out.grown g3 a8.out;obtain⟨e0,e1,e2,f1,f2⟩:=Y.cells;obtain⟨p0,p1,p2,_,_⟩:=(b3.out.grown g3 a7.out).cells;have x3:=a3.out w3 g3))
      have a1:=az X g3.size
      go_roundw
      case rel=>exact⟨k+1,lo++[(x,y,j)],Q,ω,ν,ac (ownsRow_setCell_below q f _),ac (Y.set1 Q),x3.setCell U _,by simpa[World.setCell] using a1,by rw[ag,cy];omega,I⟩
      case measure=>simp[intOf];omega
     ·have g1:decide (y<j)=false:=decide_eq_false J
      rw[if_neg J,List.nil_append] at I;replace I:=ac I
      go_wp2_with fail
      refine M.out.mono ?_;rintro e w2 ⟨rfl,x2⟩;have a:=y1.trans x2;obtain⟨e0,e1,e2,f1,f2⟩:=(Z.out.ext a).cells;obtain⟨p0,p1,p2,_,_⟩:=(bo.out.ext x2).cells;have Y:=Z.out.ext a;have q:=K.out.ext a;have a1:=az H a.size;have x3:=O.trans a;clear a x2 y1;go_wp2
      go_roundw
      case rel=>exact⟨k+1,lo,Q,ω,ν,ac (ownsRow_setCell_below q f _),ac (Y.set1 Q),x3.setCell U _,by simpa[World.setCell] using a1,ω,I⟩
      case measure=>simp[intOf];omega
   ·have hd:=ac (show lo++AO (x,y,z)=R by
     have:=hrel.out;rw[eu (by rw[hn.out];omega)] at this;exact this)
    go_wp2_with fail
    go_meet;exact⟨lo,y,K,Z,O,H,ω,hd⟩
 case rest=>
  obtain⟨lo,y,K,Z,O,H,a6,hd⟩:=hcut;clear b0 x0 hR;obtain⟨e0,e1,e2,f1,f2⟩:=Z.out.cells;by_cases u:y<z
  ·have g1:decide (y<z)=true:=decide_eq_true u
   have b1:=ac (show lo++[(x,y,z)]=R by rw[<-hd.out,AO,if_pos u]);have N:=(Ext.refl wc).alloc (.cells #[Vu x,Vu y,Vu z] 74);have a2:=ac (K.out.ext N);have a0:=ac (O.trans N);have X:=az H N.size;have a3:=ac (λ(W3:ae) (g:(wc.alloc (.cells #[Vu x,Vu y,Vu z] 74)).grownBy W3 _)=>a0.out.grown g λk hk=>az U (az (Nat.le_of_lt f) (K.out.lt k hk).1));clear u hd N
   go_wp2_with(first
        |(at_builtin
          refine vv rfl (.tmp 41) (.tmp 43) rfl b _ lo rfl a2.out X _ 1 1 [(x,y,z)] rfl rfl (SpS.new _ x y z) (by rw[cy];omega) ?_;intro v3 w3 q g3 _))
   go_ret;rw[b1.out] at q;exact⟨v3,rfl,⟨q.1,q.2.imp id λ⟨g,cap,a4,h1,h2,h3⟩=>⟨g,cap,a4,h1,ω,h3⟩⟩,a3.out w3 g3⟩
  ·have g1:decide (y<z)=false:=decide_eq_false u
   have q:=K.out;rw[show lo=R by rw[<-hd.out,AO,if_neg u,bB]] at q;replace q:=ac q;clear u hd;go_wp2;go_ret;exact⟨_,rfl,⟨q.out.1,q.out.2.imp id λ⟨g,cap,a4,h1,h2,h3⟩=>⟨g,cap,a4,h1,ω,h3⟩⟩,O⟩
def agM (w:ae) (n:Nat) (a R:List Sp) (b v i:Value) (W:ae):Prop:=
 ∃(k:Nat) (lo f:List Sp) (B:Option Addr) (e cb:Nat),k<=n/\i=Vi (k:Nat)/\b= .slice B e cb/\Hid (f.length=e)/\e<=cb/\e<=400000/\Hid (jE zS f=true)/\Hid (SpS w B f)/\Hid (kZ w W v lo)/\Ext w W/\Hid (lo++xJ (a.drop k) f=R)
theorem KG (A B:Option Addr) (n c nb cb:Nat) (a b:List Sp) (w:ae) (hv:SpS w A a) (hn:a.length=n) (hu:SpS w B b) (a8:b.length=nb) (b0:nb<=cb) (ha:jE zS a=true) (a6:jE zS b=true) (hb:n+nb<=400000):
  aO pg 40 #[.slice A n c,.slice B nb cb] w λe w'=>∃v,e= .returned v/\kZ w w' v (xJ a b)/\Ext w w':=by
 obtain⟨R,hR⟩:∃R,xJ a b=R:=⟨_,rfl⟩;rw[hR];have e6:R.length<=400000:=by rw[<-hR];have:=Ja ha a6;omega
 replace hn:=ac hn;replace hv:=ac hv;replace hR:=ac hR;replace ha:=ac ha;go_enter func40,ntmps40;go_wp2
 go_loopw [1,5,10] (agM w n a R) (λ_ _ i _=>n-(intOf i).toNat)
 case atStart=>exact⟨0,[],b,B,nb,cb,bN _,rfl,rfl,ac a8,b0,ω,ac a6,ac hu,ac (kZ.nil _ _),Ext.refl _,ac (by rw[cH];exact hR.out)⟩
 case round=>
  have d7:n<=400000:=ω
  clear hR hu a8 a6 hb b0;obtain⟨k,lo,bl,B2,a0,d6,hk,rfl,rfl,d5,b6,d9,b8,b2,ho,hx,hrel⟩:=hrel;by_cases b9:k<n
  ·obtain⟨bb,oo,x,y,z,rfl,hp,d0,d1,d2⟩:=hv.out.at (k:=k) (by rw[hn.out];exact b9)
   have c0:=hx.keep d0;have c1:=hx.keep d1;have c2:=hx.keep d2;have X:y<z:=(uK ha.out (x,y,z) (List.mem_of_getElem? hp)).2.1;have hr:=hrel.out;rw[drop_at hp,xJ] at hr;clear hp hrel d0 d1 d2;have y1:Ext wr (wr.alloc (.cells #[Vu x,Vu y,Vu z] 74)):=(Ext.refl _).alloc _;obtain⟨J,a1⟩:∃J,ru (x,y,z) bl=J:=⟨_,rfl⟩;rw[a1] at hr;have bo:=ac (wK.new wr x y z);replace hr:=ac hr;replace X:=ac X
   go_upto_region 4 with fail
   go_upto_block 2 with fail
   go_cut [1] (λs wx=>∃(Z:Option Addr) (f j:Nat),s= .slice Z f j/\Hid (J.length=f)/\f<=j/\f<=a0/\Hid (SpS w Z J)/\Ext (wr.alloc (.cells #[Vu x,Vu y,Vu z] 74)) wx)
   case first=>
        clear hr
        go_wp2_with fail
        go_loopg [1] a0 (λg s W=>∃(I:List Sp) (Z:Option Addr) (f j:Nat),s= .slice Z f j/\f<=g/\Hid (I.length=f)/\f<=j/\f<=a0/\Hid (SpS w Z I)/\Ext (wr.alloc (.cells #[Vu x,Vu y,Vu z] 74)) W/\Hid (ru (x,y,z) I=J))
        case atStart=>exact⟨bl,B2,a0,d6,rfl,am _,d5,b6,am _,b2,Ext.refl _,ac a1⟩
        case round=>
         obtain⟨I,Z,f,j,rfl,e3,M,Y,a5,N,q,U⟩:=hrel;obtain⟨p0,p1,p2,_,_⟩:=(bo.out.ext q).cells;replace p0:=ai p0;replace p1:=ai p1;replace p2:=ai p2;by_cases h0:f=0
         ·subst h0
          have e0:I=[]:=List.eq_nil_of_length_eq_zero M.out;have hz:=U.out;rw[e0] at hz;have a4:=ac (show J.length=0 by rw[<-hz];rfl);have a3:=ac (show SpS w Z J by rw[<-hz];exact SpS.nil _ _);clear e0 hz U
          go_wp2_with fail
          refine ax κ κ ?_
          repeat go_big_quiet_step(fail)
          refine bh ?_;intro _ Q;obtain⟨⟨dq,osq⟩,K⟩:=Q;subst K;have x1:=Ext.jv wr dq osq
          go_wp2_with fail
          go_meet;exact⟨Z,0,j,rfl,a4,Y,a5,a3,q.trans x1⟩
         ·obtain⟨b3,o3,q1,q2,q3,rfl,hq,e0,e1,e2⟩:=(N.out.ext (hx.trans (y1.trans q))).at (k:=0) (by rw[M.out];omega)
          rw[Nat.zero_mul,Nat.add_zero] at e0 e1 e2;replace e0:=ai e0;replace e1:=ai e1;replace e2:=ai e2;have g1:decide ((0:Int)<(f:Int))=true:=by rw[decide_eq_true_eq];omega
          have g2:decide (0<f)=true:=by rw[decide_eq_true_eq];omega
          have g3:(0:Int)<(f:Int):=ω
          have H:=ac (λW=>Kz (q1,q2,q3) (x,y,z) W);have a2:I=(q1,q2,q3)::I.drop 1:=by have:=drop_at hq;rwa[cH] at this
          have u:=U.out;rw[a2,ru] at u;cases O:oN (q1,q2,q3) (x,y,z) with
          |true=>
           rw[O] at H;rw[if_pos O] at u;replace u:=ac u;have d4:=ac (show(I.drop 1).length=f-1 by rw[List.length_drop,M.out]);have b1:=ac (N.out.cut M.out Y (show 1<=f by omega));have e5:=Ru (some ⟨b3,o3,none⟩) f j 1 ω 1 rfl;clear U a2 hq O
           go_wp2_with fail
           refine ax κ κ ?_
           repeat go_big_quiet_step((with_reducible exact Calls.jA (H.out _)))
           refine bh ?_;intro _ Q;obtain⟨⟨dq,osq⟩,K⟩:=Q;subst K;have x1:=Ext.jv wr dq osq;go_wp2
           go_roundg (f-1)
           case measure=>omega
           case rel=>exact⟨I.drop 1,_,f-1,j-1,rfl,am _,d4,ω,ω,b1,q.trans x1,u⟩
          |false=>
           rw[O] at H;rw[if_neg (by simp[O]),<-a2] at u;have a4:=ac (show J.length=f by rw[<-u];exact M.out);have a3:=ac (show SpS w (some ⟨b3,o3,none⟩) J by rw[<-u];exact N.out);clear U a2 hq O u
           go_wp2_with fail
           refine ax κ κ ?_
           repeat go_big_quiet_step((with_reducible exact Calls.jA (H.out _)))
           refine bh ?_;intro _ Q;obtain⟨⟨dq,osq⟩,K⟩:=Q;subst K;have x1:=Ext.jv wr dq osq
           go_wp2_with fail
           go_meet;exact⟨_,f,j,rfl,a4,Y,a5,a3,q.trans x1⟩
   case rest=>
        obtain⟨Z,f,j,rfl,M,Y,a5,N,q⟩:=hcut;have xx:=hx.trans (y1.trans q);obtain⟨p0,p1,p2,_,_⟩:=(bo.out.ext q).cells;have a9:=ac (aae (x,y,z) Z f j J wc (N.out.ext xx) M.out ω);have a7:=ac (ho.out.ext (y1.trans q));have b7:=ac (show jE zS J=true by rw[<-a1];exact xQ b8.out);have d3:=ac (show lo.length+(tJ (x,y,z) J).length<=400000 by
         have:=congrArg List.length hr.out;rw[ag,ag] at this;omega)
        have b4:=ac (show(lo++tJ (x,y,z) J)++xJ (a.drop (k+1)) J=R by rw[<-hr.out,aK]);clear hr a1 y1 q ho
        go_wp2_with fail
        refine a9.out.mono ?_;rintro e w2 ⟨v2,rfl,o2,x2⟩;obtain⟨A4,c4,e4,h4⟩:=SpS.own o2;subst e4;have b5:=ac (a7.out.ext x2);have x3:=xx.trans x2;replace h4:=ac h4;clear o2 a9 a7
        go_wp2_with(first
         |(at_builtin
           refine pG (w0:=w) rfl (.tmp 26) (.tmp 29) rfl _ lo rfl b5.out x3 A4 _ c4 (tJ (x,y,z) J) rfl rfl h4.out (by have:=d3.out;omega) ?_;intro v5 w5 o5 x5 _))
        go_roundw
        case rel=>exact⟨k+1,lo++tJ (x,y,z) J,J,Z,f,j,ω,ν,rfl,M,Y,ω,b7,N,ac o5,x5,b4⟩
        case measure=>simp[intOf];omega
  ·have hd:=ac (show lo=R by
        have:=hrel.out;rw[eu (by rw[hn.out];omega),xJ,bB] at this;exact this)
   go_wp2;go_ret;exact⟨_,rfl,by rw[<-hd.out];exact ho.out,hx⟩
theorem Yf {D T:List Sp} (e:jE zS D=true) (a:jE zS T=true) (c k:Int):jJ (kW (D++T)) c k=(jJ D c k||jJ T c k):=by
 rw[sI,List.filter_append,nI e,nI a,kP]
theorem Mk1.marks {D T:List Sp} {L:List It} {G f:List I2} (h:Marks D L G) (i:Mk1 L G f (λa=>jJ T a.1 a.2)) (q:jE zS D=true) (j:jE zS T=true):Marks (kW (D++T)) L f:=λa e=>by
 rw[i a e,h a e,Yf q j]
section
def newS (c l:Int):DS:=⟨c,l,[],[],[],[],0,false⟩
variable {R:Nat->Prop} {S:DS} {c:Int} {d:Nat} {q:DM} {w:ae}
theorem LA {l:Int} (j:0<c) (i:c<=4294967295) (f:0<=l) (e:l<=4294967294):DOK (newS c l):=
 ⟨j,i,f,e,rfl,(λx a=>by cases a),rfl,(λx a=>by cases a),(λc k=>⟨λh=>by simp[newS,jw] at h,λh=>by simp[newS,jq] at h;omega⟩),eR,(λx a=>by cases a),rfl,(λx a=>by cases a),by show(0:Int)<=l+1;omega⟩
theorem BH (c l:Int) (w:ae) (i:c≠0) (j:l<=4294967294):aO pg 5 #[Vu c,Vu l] w λe w'=>e= .returned (.tuple #[.pointer (some ⟨w.heap.size,0,none⟩),.nilIface])/\w'.heap[w.heap.size]? =some (.cells (WI (newS c l) ⟨zLv,none,0,none,0,none,0,λ_=>False,[]⟩) 69 (0,0))/\Ext w w':=by
 have f:(c==0)=false:=by simpa using i
 have a:decide (4294967294<l)=false:=decide_eq_false ω;go_enter func5,ntmps5
 go_wp2_with fail
 exact aB (v:= .tuple #[.pointer (some ⟨w.heap.size,0,none⟩),.nilIface]) (by simp[results,results5,go_sem]) rfl ⟨rfl,aI w _,(Ext.refl _).alloc _⟩
theorem Y0 (W:ae):LCx (λ_=>False) W zLv [] []:=
 ⟨.nil,λ_=>0,⟨⟨.leaf [],⟨none,0,0,none,none,0,0,0,0,0⟩,rfl,rfl,.inl rfl,rfl,rfl,rfl,rfl,rfl,⟨rfl,rfl,none,0,rfl,am _,EnS.nil _ _,λh=>absurd h ι⟩,λb f=>f.elim⟩,rfl,⟨rfl,λx e=>(ep e).elim,λa b j=>by cases j⟩,eR,λa=>by simp[hin,jw],λg i=>(ep i).elim,λx e=>(ep e).elim,λb f=>f.elim,rfl⟩⟩
theorem abr {W:ae} {l:Int} (h:W.heap[d]? =some (.cells (WI (newS c l) ⟨zLv,none,0,none,0,none,0,λ_=>False,[]⟩) 69 (0,0))) (f:w.heap.size<=d):kV (λb=>w.heap.size<=b) W d (newS c l) ⟨zLv,none,0,none,0,none,0,λ_=>False,[]⟩:=
 ⟨⟨f,Y0 W,(λb i=>i.elim),(λa e=>by simp[newS,jw] at e),Row.nil W none,(λ_ a e=>by cases e),am _,Row.nil W none,(λ_ a e=>by cases e),am _,Row.nil W none,(λ_ a e=>by cases e),am _,(Array.getElem?_eq_some_iff.1 h).1⟩,h⟩
theorem wJ.doc {w':ae} (h:wJ w) (f:kV R w d S q) (a:RX d w w'):wJ w':=by
 refine a.cell h λe=>?_
 have c:=f.cell (j:=0) (v:=Vu S.cl) rfl;rw[<-e] at c;unfold wJ at h;rw[h] at c;cases c
def FC (w:ae) (d:Nat) (R:Nat->Prop) (s:ByteArray) (c:Int) (S:DS) (e:Ending) (w':ae):Prop:=∃(R':Nat->Prop) (q:DM) (v:Value),e= .returned (.tuple #[Vi (if c=0 then(S.ver:Int) else 0),v])/\agR w' s c v/\kV R' w' d S q/\RX d w w'/\∀b,R' b->R b\/w.heap.size<=b
theorem OI (h:kV R w d S q) (K:wJ w) (p:Int) (t:ByteArray) {H:DS} (j:aO pg 25 #[.pointer (some ⟨d,0,none⟩),Vi p,.string t] w (oZ w d R c H)):
  aO pg 14 #[.pointer (some ⟨d,0,none⟩),Vi p,.string t] w (FC w d R ⟨#[73,110,115,101,114,116]⟩ c H):=by
 replace j:=ac j;go_enter func14,ntmps14
 go_wp2_with fail
 refine j.out.mono ?_;rintro e O ⟨M,J,rfl,u,i,hR⟩;have I:=ac (Nl u (K.doc h i) ⟨#[73,110,115,101,114,116]⟩ c);obtain⟨z,f⟩:∃z,(if c=0 then(H.ver:Int) else 0)=z:=⟨_,rfl⟩;rw[f] at I;replace f:=ac f
 go_wp2_with fail
 refine I.out.mono ?_;rintro e N ⟨v,rfl,hv,x2⟩;have a:=ac (aS hv (aS (u.ext x2) (i.trans (RX.ext x2))));clear hv u i x2
 go_wp2_with fail
 exact aB (v:= .tuple #[Vi z,v]) (by simp[results,results14,go_sem]) rfl ⟨M,J,v,by rw[f.out],a.out.1,a.out.2.1,a.out.2.2,hR⟩
theorem IB (h:kV R w d S q) (K:wJ w) (A:Option Addr) (n cap:Nat) {H:DS} (j:aO pg 22 #[.pointer (some ⟨d,0,none⟩),.slice A n cap] w (oZ w d R c H)):
  aO pg 8 #[.pointer (some ⟨d,0,none⟩),.slice A n cap] w (FC w d R ⟨#[65,112,112,108,121]⟩ c H):=by
 replace j:=ac j;go_enter func8,ntmps8
 go_wp2_with fail
 refine j.out.mono ?_;rintro e O ⟨M,J,rfl,u,i,hR⟩;have I:=ac (Nl u (K.doc h i) ⟨#[65,112,112,108,121]⟩ c);obtain⟨z,f⟩:∃z,(if c=0 then(H.ver:Int) else 0)=z:=⟨_,rfl⟩;rw[f] at I;replace f:=ac f
 go_wp2_with fail
 refine I.out.mono ?_;rintro e N ⟨v,rfl,hv,x2⟩;have a:=ac (aS hv (aS (u.ext x2) (i.trans (RX.ext x2))));clear hv u i x2
 go_wp2_with fail
 exact aB (v:= .tuple #[Vi z,v]) (by simp[results,results8,go_sem]) rfl ⟨M,J,v,by rw[f.out],a.out.1,a.out.2.1,a.out.2.2,hR⟩
end
end
section
attribute [local go_sem] ah calm jL jH
theorem acX:∀{rs:List Rn},(∀r∈rs,mZ r=true)->rs.length<=(jr rs).length
 |[],_=>bN _
 |r::rs,h=>by
  have i:=acX (rs:=rs) λx e=>h x (List.mem_cons_of_mem _ e)
  have a:=h r ι;unfold mZ at a;have f:=(of_decide_eq_true a).2.1;rw[ni,ag,He,List.length_cons];omega
theorem Kw {R:Nat->Prop} {w:ae} {d:Nat} {S:DS} {q:DM} (h:kV R w d S q) (hK:DOK S) (hT:Tabs w) (A:Option Addr) (n c:Nat) (b:List UInt8) (hb:Bys w A b) (hn:b.length=n) (hc:n<=c) (m8:n<=20000) (n7:∀rs ds e,parse b=some (rs,ds,e)->e=n->ds.length<=20000) (m9:∀rs ds,kT b=some (rs,ds)->ds.length<=20000) (hl:S.L.length<=100000) (q8:S.Wt.length<=20000) (hV:S.V.length<=100000) (hD:S.D.length<=130000) (r7:S.ver<=1000000000):
  aO pg 22 #[.pointer (some ⟨d,0,none⟩),.slice A n c] w (oZ w d R (qE S b) (mG S b)):=by
 have Q:qE S b≠0->mG S b=S:=λg=>by unfold mG;rw[if_neg g]
 have l9:=h.cell (j:=15) (v:= .bool S.closed) rfl;cases b2:S.closed with
 |true=>
  have hi:qE S b=6:=by unfold qE;rw[b2];rfl
  rw[Q (by rw[hi];decide),hi];have i:=ac (oZ.same h 6 (mV δ));rw[b2] at l9;clear h;go_enter func22,ntmps22;go_wp2;go_ret;exact i.out _ (Ext.refl _)
 |false=>
  rw[b2] at l9;have Y:=ac (Rq hT hb hn hc m8 (λrs ds e I O=>az (n7 rs ds e I O) ω));cases hg:kT b with
  |none=>
   have hi:qE S b=2:=by unfold qE;rw[b2,hg];rfl
   rw[Q (by rw[hi];decide),hi];rw[hg] at Y;have i:=ac (oZ.same h 2 (mV δ));replace Y:=ac (show aO pg 35 #[.slice A n c] w λe w'=>e= .returned (.tuple #[abq,.iface 56 (.int .i64 2)])/\Ext w w' from Y.out.mono (by rintro e w' ⟨I,O⟩;exact⟨by rw[I,mV δ],O⟩));clear h;go_enter func22,ntmps22
   go_wp2_with fail
   refine Y.out.mono ?_;rintro e W1 ⟨rfl,x1⟩;have hE:=ac (x1.alloc (.cells #[.slice none 0 0,.slice none 0 0] 36));go_wp2;go_ret;exact i.out _ hE.out
  |some v=>
   obtain⟨rs,ds⟩:=v;rw[hg] at Y;obtain⟨e5,p9,q7⟩:=Iz hg;obtain⟨g1,g2,g3,g4,_⟩:=ED hg;have e8:QM rs:=λr hr=>⟨e5.may r hr,(g3 r hr).1⟩
   have o7:ds.length<=20000:=m9 rs ds hg;have p8:rs.length<=20000:=by have:=acX e5.may;omega
   by_cases a9:(jr rs).any (uY S)=true
   ·have hi:qE S b=2:=by unfold qE;rw[b2,hg];simp only;rw[if_neg δ,if_pos a9]
    rw[Q (by rw[hi];decide),hi];have i:=ac (oZ.same h 2 (mV δ));have d5:=ac (λ(B:Option Addr) (cB:Nat) (W:ae) (e:Ext w W) (hv:ItS W B (jr rs))=>JW (h.ext e) hK.rise ω B (jr rs).length cB (jr rs) hv rfl ω);clear h;go_enter func22,ntmps22
    go_wp2_with fail
    refine Y.out.mono ?_;rintro e W1 ⟨vr,vd,rfl,b6,b7,x1⟩;obtain⟨Ar,cr,rfl,n2,rr⟩:=b6.open;obtain⟨Ad,cd,rfl,sd⟩:=SpS.own b7;have x2:=x1.alloc (.cells #[.slice Ar rs.length cr,.slice Ad ds.length cd] 36);have d3:=ac (DJ Ar rs.length cr rs _ (rr.ext ((Ext.refl W1).alloc (.cells #[.slice Ar rs.length cr,.slice Ad ds.length cd] 36))) rfl e8 ω ω);clear b6 b7 sd rr
    go_wp2_with fail
    refine d3.out.mono ?_;rintro e W2 ⟨vI,rfl,oI,x3⟩;obtain⟨AI,cI,rfl,n4,iI⟩:=oI.open;have x4:=x2.trans x3;clear oI
    go_wp2_with fail
    refine(d5.out AI cI W2 x4 iI).mono ?_;rintro e W3 ⟨vF,rfl,_,x5⟩;rw[if_pos a9,mV δ];have hE:=ac (x4.trans x5);clear iI x1 x2 x3 x4 x5;go_wp2;go_ret;exact i.out _ hE.out
   ·have Zv:(jr rs).any (uY S)=false:=by simpa using a9
    have hA:=D8 hK hg Zv;have d5:=ac (λ(B:Option Addr) (cB:Nat) (W:ae) (e:Ext w W) (hv:ItS W B (jr rs))=>JW (h.ext e) hK.rise ω B (jr rs).length cB (jr rs) hv rfl ω);have r0:(lq S (jr rs)).length<=20000:=az (List.length_filter_le _ _) ω;have d4:qE S b=if 1000<(lJ S.V (S.Wt++lq S (jr rs))).2.1.length then 5 else 0:=by
       unfold qE;rw[b2,hg];simp only;rw[if_neg δ,if_neg a9]
    have i7:=ac (λ(B:Option Addr) (cB:Nat) (W:ae) (e:Ext w W) (hv:ItS W B (S.Wt++lq S (jr rs))) (n6:(S.Wt++lq S (jr rs)).length<=cB)=>XR q.A B S.V.length q.ca (S.Wt++lq S (jr rs)).length cB S.V (S.Wt++lq S (jr rs)) W (h.jF.vec.ext e) rfl h.jF.nA hK.yB hK.wfV hv rfl n6 (by rw[ag];omega) hA.apart (λx hx=>⟨(hA.all x hx).1,(hA.all x hx).2.1,(hA.all x hx).2.2.2.2⟩));replace d4:=ac d4;replace hA:=ac hA;replace Q:=ac Q;replace h:=ac h;go_enter func22,ntmps22
    go_wp2_with fail
    refine Y.out.mono ?_;rintro e W1 ⟨vr,vd,rfl,b6,b7,x1⟩;obtain⟨Ar,cr,rfl,n2,rr⟩:=b6.open;obtain⟨Ad,cd,rfl,sd⟩:=SpS.own b7;have x2:=x1.alloc (.cells #[.slice Ar rs.length cr,.slice Ad ds.length cd] 36);have a7:=aI W1 (.cells #[.slice Ar rs.length cr,.slice Ad ds.length cd] 36);have d3:=ac (DJ Ar rs.length cr rs _ (rr.ext ((Ext.refl W1).alloc (.cells #[.slice Ar rs.length cr,.slice Ad ds.length cd] 36))) rfl e8 ω ω);replace sd:=sd.ext ((Ext.refl W1).alloc (.cells #[.slice Ar rs.length cr,.slice Ad ds.length cd] 36));clear b6 b7 rr
    go_wp2_with fail
    refine d3.out.mono ?_;rintro e W2 ⟨vI,rfl,oI,x3⟩;obtain⟨AI,cI,rfl,n4,iI⟩:=oI.open;have x4:=x2.trans x3;clear oI
    go_wp2_with fail
    refine(d5.out AI cI W2 x4 iI).mono ?_;rintro e W3 ⟨vF,rfl,oF,x5⟩;replace oF:=oF Zv;obtain⟨AF,cF,rfl,q4,iF⟩:=oF.open;rw[Zv,if_neg δ,yM];have hE:=ac (x4.trans x5);replace a7:=ac ((x3.trans x5).blk a7);replace sd:=ac (sd.ext (x3.trans x5));replace iF:=ac iF;generalize b4:lq S (jr rs)=N at*;clear iI x1 x2 x3 x4 x5 d5 d3 Y oF;have Z:=h.out.ext hE.out;have l8:=Z.cell (j:=11) (v:= .slice q.A S.V.length q.ca) rfl;have l5:=Z.cell (j:=12) (v:= .slice q.B S.Wt.length q.cb) rfl;have iW:=ac Z.jF.its;clear Z;generalize b1:lJ S.V (S.Wt++N)=tt at*;obtain⟨X,t2,t3⟩:=tt;replace b1:=ac b1;replace b4:=ac b4
    go_wp2_with fail
    have Hy:=ac (λ(p:Nat) (W:ae) (e:Ext W3 W) (hp:W.heap[p]? =some (.cells #[.slice q.B S.Wt.length q.cb,.slice AF N.length cF] 67 (0,0)))=>PL p 2 2 [⟨q.B,q.cb,S.Wt⟩,⟨AF,cF,N⟩] W (λj x hx=>by
       rcases j with _|_|j
       ·obtain rfl:(⟨q.B,q.cb,S.Wt⟩:SlI)=x:=by simpa using hx
        exact⟨aj W p 0 _ _ _ hp,iW.out.ext e⟩
       ·obtain rfl:(⟨AF,cF,N⟩:SlI)=x:=by simpa using hx
        exact⟨aj W p 1 _ _ _ hp,iF.out.ext e⟩
       ·simp at hx) rfl ω (by simp only[um,List.map_cons,List.map_nil,List.sum_cons,List.sum_nil];omega))
    rw[show ET [(⟨q.B,q.cb,S.Wt⟩:SlI),⟨AF,cF,N⟩]=S.Wt++N by simp[ET]] at Hy;generalize hU:S.Wt++N=U at*;replace hU:=ac hU;refine mg 18 [rw1 9 (λz W=>∃p,z= .slice (some ⟨p,0,none⟩) 2 2/\W.heap[p]? =some (.cells #[.slice q.B S.Wt.length q.cb,.slice AF N.length cF] 67 (0,0))),rw1 10 (λz W=>∃A c,z= .slice A U.length c/\U.length<=c/\ItS W A U),rw1 11 (λz W=>∃(Aa:Option Addr) (ca:Nat) (Ab:Option Addr) (cb:Nat) (A:Option Addr) (c:Nat),z= .tuple #[.slice Aa X.length ca,.slice Ab t2.length cb,.slice A t3.length c]/\(X.length<=ca/\rZ w.heap.size Aa)/\(t2.length<=cb/\rZ w.heap.size Ab)/\(t3.length<=c/\rZ w.heap.size A)/\ItS W Aa X/\ItS W Ab t2/\Vec W A t3),
       rw1 13 (λz W=>∃A c,z= .slice A X.length c/\X.length<=c/\rZ w.heap.size A/\ItS W A X),rw1 14 (λz W=>∃A c,z= .slice A t2.length c/\t2.length<=c/\rZ w.heap.size A/\ItS W A t2),rw1 15 (λz W=>∃A c,z= .slice A t3.length c/\t3.length<=c/\rZ w.heap.size A/\Vec W A t3)]
       ⟨(by rintro _ _ _ _ ⟨p,I,O⟩ e;exact⟨p,I,e.blk O⟩),(by rintro _ _ _ _ ⟨A,c,I,O,Z⟩ e;exact⟨A,c,I,O,Z.ext e⟩),(by rintro _ _ _ _ ⟨Aa,ca,Ab,cb,A,c,I,O,Z,h4,h5,h6,h7⟩ e;exact⟨Aa,ca,Ab,cb,A,c,I,O,Z,h4,h5.ext e,h6.ext e,h7.ext e⟩),(by rintro _ _ _ _ ⟨A,c,I,O,Z,h4⟩ e;exact⟨A,c,I,O,Z,h4.ext e⟩),(by rintro _ _ _ _ ⟨A,c,I,O,Z,h4⟩ e;exact⟨A,c,I,O,Z,h4.ext e⟩),(by rintro _ _ _ _ ⟨A,c,I,O,Z,h4⟩ e;exact⟨A,c,I,O,Z,h4.ext e⟩),trivial⟩ λρ hI=>?_
    refine .s 9 (λW hE _=>by
       have u1:=hE.keep l8;have u2:=hE.keep l5;exact jD) ?_
    refine .o 0 [] (λW hx y f N hN=>?_) ?_
    ·go_simp
     exact hN _ _ (λ_ e=>by cases e) ⟨_,rfl,aI W _⟩ ((Ext.refl W).alloc _)
    refine .o 1 [0] (λW hx y f N hN=>?_) ?_
    ·obtain⟨⟨p,b8,g8⟩,_⟩:=f
     have b8:ρ 9=_:=b8
     go_simp
     refine(Hy.out p W hx g8).mono ?_;rintro e w1 ⟨v1,rfl,o1,x1⟩;obtain⟨A1,c1,rfl,I,O⟩:=o1.open;exact⟨_,rfl,hN _ _ (λ_ e=>by cases e) ⟨A1,c1,rfl,I,O⟩ x1⟩
    refine .o 2 [1] (λW hx y f N hN=>?_) ?_
    ·obtain⟨⟨A1,c1,b8,g8,m6⟩,_⟩:=f
     have b8:ρ 10=_:=b8
     go_simp
     refine(i7.out A1 c1 W (hE.out.trans hx) m6 g8).mono ?_;rintro e w1 ⟨Aa,ca,Ab,cb,A,c,rfl,I,O,Z,h4,h5,h6,x1⟩;have g6:=(hE.out.trans hx).size;exact⟨_,rfl,hN _ _ (λ_ e=>by cases e) ⟨Aa,ca,Ab,cb,A,c,rfl,⟨I.1,λa ha=>az g6 (I.2 a ha)⟩,⟨O.1,λa ha=>az g6 (O.2 a ha)⟩,⟨Z.1,λa ha=>az g6 (Z.2 a ha)⟩,h4,h5,h6⟩ x1⟩
    refine .s 1 (λW hE _=>jD) ?_;refine .o 3 [2] (λW hx y f N hN=>?_) ?_
    ·obtain⟨⟨Aa,ca,Ab,cb,A,c,e1,I,O,Z,h4,h5,h6⟩,_⟩:=f
     have e1:ρ 11=_:=e1
     go_simp
     exact hN _ _ (λ_ e=>by cases e) ⟨Aa,ca,rfl,I.1,I.2,h4⟩ (Ext.refl _)
    refine .o 4 [2] (λW hx y f N hN=>?_) ?_
    ·obtain⟨⟨Aa,ca,Ab,cb,A,c,e1,I,O,Z,h4,h5,h6⟩,_⟩:=f
     have e1:ρ 11=_:=e1
     go_simp
     exact hN _ _ (λ_ e=>by cases e) ⟨Ab,cb,rfl,O.1,O.2,h5⟩ (Ext.refl _)
    refine .o 5 [2] (λW hx y f N hN=>?_) ?_
    ·obtain⟨⟨Aa,ca,Ab,cb,A,c,e1,I,O,Z,h4,h5,h6⟩,_⟩:=f
     have e1:ρ 11=_:=e1
     go_simp
     exact hN _ _ (λ_ e=>by cases e) ⟨A,c,rfl,Z.1,Z.2,h6⟩ (Ext.refl _)
    refine .s 2 (λW hE _=>jD) ?_;refine .fin λW hR ⟨_,_,_,⟨Ac,cc,q1,q6,q5,a2⟩,⟨Aw,cw,q2,m4,i5,J⟩,⟨Av,cv,q3,m5,i6,M⟩,_⟩=>?_
    rw[show ρ 13=_ from q1,show ρ 14=_ from q2,show ρ 15=_ from q3];clear hI Hy i7 l8 l5 iW iF;generalize W=W4 at*;have a8:=ac (hE.out.trans hR);replace a7:=ac (hR.blk a7.out);replace sd:=ac (sd.out.ext hR);replace a2:=ac a2;replace J:=ac J;replace M:=ac M;clear hR hE;by_cases a5:1000<t2.length
    ·have hi:=ac (show qE S b=5 by rw[d4.out];exact if_pos a5)
     have n1:decide ((1000:Int)<(t2.length:Int))=true:=decide_eq_true ω;have n0:decide (1000<t2.length)=true:=decide_eq_true a5;have i:=ac (oZ.same h.out 5 (mV δ) W4 a8.out);clear h a7 sd a2 J M a8;go_wp2;go_ret;rw[hi.out,Q.out (by rw[hi.out];decide)];exact i.out
    ·have hi:=ac (show qE S b=0 by rw[d4.out];exact if_neg a5)
     have n1:decide ((1000:Int)<(t2.length:Int))=false:=decide_eq_false ω;have n0:decide (1000<t2.length)=false:=decide_eq_false a5;have d1:=e5.Aj;have q0:ds.length<=20000:=o7;obtain⟨T,hT⟩:∃T,xJ ds S.D=T:=⟨_,rfl⟩;have l3:jE zS T=true:=by rw[<-hT];exact Bg d1 hK.Aj
     have n8:wfS T:=by rw[<-hT];exact Xr e5.wfD hK.wfD
     have n9:T.length<=150000:=by rw[<-hT];exact az (Ja d1 hK.Aj) ω
     have g5:=ac (λ(W:ae) (e:Ext W4 W)=>KG Ad q.C ds.length cd S.D.length q.cc ds S.D W (sd.out.ext e) rfl (h.out.jF.sps.ext (a8.out.trans e)) rfl h.out.jF.nC d1 hK.Aj ω);rw[hT] at g5;replace hT:=ac hT;have e3:=(h.out.ext a8.out).cell (j:=13) (v:= .slice q.C S.D.length q.cc) rfl;have s1:W4.cell? ⟨W1.heap.size,1,none⟩=some (.slice Ad ds.length cd):=aj W4 W1.heap.size 1 _ _ _ a7.out
     go_wp2_with fail
     refine mg 7 [rw1 6 (λz W=>∃A c,z= .slice A T.length c/\T.length<=c/\SpS W A T/\rZ w.heap.size A)] ⟨(by rintro _ _ _ _ ⟨A,c,I,O,Z,h4⟩ e;exact⟨A,c,I,O,Z.ext e,h4⟩),trivial⟩ λρ hI=>?_
     refine .s 6 (λW hE _=>by
      have u1:=hE.keep e3;have u2:=hE.keep s1;exact jD) ?_
     refine .k 0 (R:=λz W=>∃A c,z= .slice A T.length c/\T.length<=c/\SpS W A T/\rZ w.heap.size A) (λW' hx=>(g5.out W' hx).mono (by
      rintro e w1 ⟨v1,rfl,o1,x1⟩;obtain⟨A1,c1,rfl,I⟩:=SpS.own o1;have hf:=oO o1 rfl;exact⟨_,rfl,⟨A1,c1,rfl,hf.1,I,λa ha=>az (a8.out.trans hx).size (hf.2 a ha)⟩,x1⟩)) ?_
     refine .fin λW5 hR ⟨⟨AT,cT,qT,n3,sT,fT⟩,_⟩=>?_
     rw[show ρ 6=_ from qT];clear hI g5 e3 s1;have e2:=ac (a8.out.trans hR);replace a2:=ac (a2.out.ext hR);replace J:=ac (J.out.ext hR);replace M:=ac (M.out.ext hR);clear hR a8 a7 sd;have h5:=h.out.ext e2.out;have e3:=h5.cell (j:=13) (v:= .slice q.C S.D.length q.cc) rfl;have j9:=ac (VK q.C AT S.D.length T.length q.cc cT S.D T W5 h5.jF.sps sT rfl rfl h.out.jF.nC n3 hK.Aj l3 ω);clear h5
     go_wp2_with fail
     refine j9.out.mono ?_;rintro e W6 ⟨AD,nn,cD,rfl,m7,n5,sD,x6,fD⟩;subst m7;replace fD:rZ w.heap.size AD:=λa ha=>az e2.out.size (fD a ha)
     generalize b5:kW (S.D++T)=Dn at*;replace b5:=ac b5;have e0:=ac (e2.out.trans x6);replace a2:=ac (a2.out.ext x6);replace J:=ac (J.out.ext x6);replace M:=ac (M.out.ext x6);replace sT:=sT.ext x6;have h6:=h.out.ext e0.out;have hh:=ac (Rf h6.jF.ls AT T.length cT T sT rfl n8 ω S.V hK.cnt ω);obtain⟨c2,c3,c4,c5,c6,c7,c8,c9,c10⟩:=h6.DF;clear h6 e3 x6 e2 j9 sT
     go_wp2_with fail
     refine hh.out.mono ?_;rintro e W7 ⟨u,G',rfl,hN,o2,x7⟩;clear c2 c3 c4 c5 c6 c7 c8 c9 c10 hh;have V6:=BxL.new W7 u;have x8:Ext W7 (W7.alloc (.cells #[.slice u.A u.n u.c,.pointer u.l,.pointer u.r,Vi u.h,Vi u.m,Vi u.s,Vq u.lo,Vq u.hi,.pointer u.p] 66)):=(Ext.refl _).alloc _;have p7:(W7.alloc (.cells #[.slice u.A u.n u.c,.pointer u.l,.pointer u.r,Vi u.h,Vi u.m,Vi u.s,Vq u.lo,Vq u.hi,.pointer u.p] 66)).heap.size=W7.heap.size+1:=ι
     have d9:=ac (e0.out.trans x7);replace a2:=ac (a2.out.ext x7);replace J:=ac (J.out.ext x7);replace M:=ac (M.out.ext x7);replace sD:=ac (sD.ext x7);have o9:=e0.out.size;obtain⟨F1,d7,h0⟩:=hN;have p1:=ac d7.lt;have k9:CB S.L X=true:=by have:=hA.out.can;rw[b4.out,hU.out,b1.out] at this;exact this
     have p3:∀x∈X,wfI x:=by have:=hA.out.wf;rw[b4.out,hU.out,b1.out] at this;exact λx hx=>(this x hx).1
     have p6:X.length<=40000:=by
      have:=hA.out.tk.perm.length_eq;rw[b4.out,hU.out,b1.out,ag] at this;have q9:U.length<=40000:=by rw[<-hU.out,ag];omega
      simp only at this;omega
     have e9:=ac (KC (d7.ext x8) Ac AD X.length cc Dn.length cD X Dn (a2.out.ext x8) rfl (sD.out.ext x8) rfl (by rw[<-b5.out];exact vJ _) (by
      have:=Dc (S.D++T);rw[b5.out,ag] at this;omega) k9 p3 ω)
     have o8:=d7.gin;clear x7 d7 e0
     go_upto_region 17 with fail
     generalize W7.alloc (.cells #[.slice u.A u.n u.c,.pointer u.l,.pointer u.r,Vi u.h,Vi u.m,Vi u.s,Vq u.lo,Vq u.hi,.pointer u.p] 66)=W8 at*;generalize p2:W7.heap.size=g0 at*;obtain⟨k0,k1,k2,k3,k4,k5,k6,k7,k8⟩:=V6.cells
     go_wp2_with fail
     refine e9.out.mono ?_;rintro e W9 ⟨z2,rfl,⟨F2,l4,d6⟩,x9⟩;have a0:=V6.ext x9;clear k0 k1 k2 k3 k4 k5 k6 k7 k8 e9 V6;obtain⟨k0,k1,k2,k3,k4,k5,k6,k7,k8⟩:=a0.cells;have f0:=a0.thaw 0;have f1:=a0.thaw 1;have f2:=a0.thaw 2;have f3:=a0.thaw 3;have f4:=a0.thaw 4;have f5:=a0.thaw 5;have f6:=a0.thaw 6;have f7:=a0.thaw 7;have f8:=a0.thaw 8;have e7:=ac (nE W9 g0 z2);have uq:=ac (a0.put z2);have i1:=ac (x8.trans x9);obtain⟨a3,h9⟩:∃a3,a3=qM W9 g0 z2:=⟨_,rfl⟩;rw[<-h9] at e7 uq;clear a0 x9 x8
     go_upto_region 20 with fail
     refine Xn h9 ?_;clear h9 k0 k1 k2 k3 k4 k5 k6 k7 k8 f0 f1 f2 f3 f4 f5 f6 f7 f8;have b0:=ac (RX.down i1.out ω e7.out);have h8:=ac (l4.rx e7.out λb hb e=>by
      rcases d6 b hb with g|g
      ·have:=p1.out b g;omega
      ·omega)
     have H:=h.out.ext (d9.out.trans b0.out);replace J:=ac (J.out.ext b0.out);replace M:=ac (M.out.ext b0.out);replace sD:=ac (sD.out.ext b0.out);have p0:=ac (d9.out.trans b0.out);have r2:w.heap.size<=g0:=by rw[<-p2];exact d9.out.size
     clear l4 i1 e7 a2 b0 d9;obtain⟨k0,k1,k2,k3,k4,k5,k6,k7,k8⟩:=uq.out.cells;obtain⟨⟨_,m3,m2,m1,_⟩,j0,j1,j2,j3,j4,j5,j6,j7,j8⟩:=afb.vals (show a3.heap[d]? =some (.cells (AQ _ _ _ _ _ _ _ _) _ (0,0)) from H.box);have f2:=H.thaw 2;have f3:=H.thaw 3;have f4:=H.thaw 4;have f5:=H.thaw 5;have f6:=H.thaw 6;have f7:=H.thaw 7;have f8:=H.thaw 8;have f9:=H.thaw 9;have o6:=H.thaw 10;have o5:=H.thaw 11;have o4:=H.thaw 12;have o3:=H.thaw 13;have i4:=Jr (show a3.heap[d]? =some (.cells (AQ _ _ _ _ _ _ _ _) _ (0,0)) from H.box) z2;have i3:((QA a3 d z2).setCell ⟨d,11,none⟩ (.slice Av t3.length cv)).heap[d]? =some (.cells (AQ (Vu S.cl) (Vu S.lim) z2 (.slice Av t3.length cv) (.slice q.B S.Wt.length q.cb) (.slice q.C S.D.length q.cc) (Vi (S.ver:Int)) (.bool S.closed)) 69 (0,0)):=al _ d 11 _ _ _ i4;have i2:(((QA a3 d z2).setCell ⟨d,11,none⟩ (.slice Av t3.length cv)).setCell ⟨d,12,none⟩ (.slice Aw t2.length cw)).heap[d]? =some (.cells (AQ (Vu S.cl) (Vu S.lim) z2 (.slice Av t3.length cv) (.slice Aw t2.length cw) (.slice q.C S.D.length q.cc) (Vi (S.ver:Int)) (.bool S.closed)) 69 (0,0)):=al _ d 12 _ _ _ i3;have a4:((((QA a3 d z2).setCell ⟨d,11,none⟩ (.slice Av t3.length cv)).setCell ⟨d,12,none⟩ (.slice Aw t2.length cw)).setCell ⟨d,13,none⟩ (.slice AD Dn.length cD)).heap[d]? =some (.cells (AQ (Vu S.cl) (Vu S.lim) z2 (.slice Av t3.length cv) (.slice Aw t2.length cw) (.slice AD Dn.length cD) (Vi (S.ver:Int)) (.bool S.closed)) 69 (0,0)):=al _ d 13 _ _ _ i2;have a6:=(((SN a3 d z2).set 11 (.slice Av t3.length cv) (.inr rfl)).set 12 (.slice Aw t2.length cw) (.inr rfl)).set 13 (.slice AD Dn.length cD) (.inr rfl);obtain⟨a1,i0⟩:∃a1,a1=(((QA a3 d z2).setCell ⟨d,11,none⟩ (.slice Av t3.length cv)).setCell ⟨d,12,none⟩ (.slice Aw t2.length cw)).setCell ⟨d,13,none⟩ (.slice AD Dn.length cD):=⟨_,rfl⟩;rw[<-i0] at a4 a6;replace a4:=ac a4;replace a6:=ac a6;clear i4 i3 i2 H
     go_upto_region 21 with fail
     refine Xn i0 ?_;clear i0 k0 k1 k2 k3 k4 k5 k6 k7 k8 f2 f3 f4 f5 f6 f7 f8 f9 o6 o5 o4 o3 j0 j1 j2 j3 j4 j5 j6 j7 j8 m3 m2 m1;have r6:=h.out.jF.low;have m0:kW (S.D++ds)=Dn:=by rw[<-b5.out,<-hT.out];exact(Nh d1 hK.Aj).symm
     have l2:T=[]↔Dn=S.D:=by rw[<-hT.out,Xt d1 hK.Aj,m0]
     have g9:Marks Dn S.L G':=by
      rw[<-b5.out];exact Mk1.marks h.out.jF.mks o2 hK.Aj l3
     have hF:∀b,F2 b->q.F b\/w.heap.size<=b:=λb hb=>by
      rcases d6 b hb with g|g
      ·exact(h0 b g).imp id λg=>az o9 g
      ·exact .inr ω
     have i:=ac (λ(nv:Nat) (d2:ae) (hr:RX d a1 d2) (e4:d2.heap[d]? =some (.cells (AQ (Vu S.cl) (Vu S.lim) z2 (.slice Av t3.length cv) (.slice Aw t2.length cw) (.slice AD Dn.length cD) (Vi (nv:Int)) (.bool S.closed)) 69 (0,0)))=>(by
      have hw:RX d w d2:=((RX.ext p0.out).trans a6.out).trans hr;have e6:RX d a3 d2:=a6.out.trans hr;refine⟨_,⟨z2,Av,cv,Aw,cw,AD,cD,F2,G'++gdL Dn X⟩,by rw[yM],h.out.jF.next hw.size e4 (h8.out.rx e6 λb hb e=>?_) hF (JE g9 o8) (Row.rx M.out e6 λa ha e=>?_) (.inr i6) m5 (Row.rx J.out e6 λa ha e=>?_) (.inr i5) m4 (Row.rx sD.out e6 λa ha e=>?_) (.inr fD) n5,hw,λb hb=>hb⟩
      ·rcases hF b hb with g|g
       ·exact(h.out.jF.rF b g).2 e
       ·omega
      ·have:=i6 a ha;omega
      ·have:=i5 a ha;omega
      ·have:=fD a ha;omega:oZ w d R 0 { S with L:=S.L++X,V:=t3,Wt:=t2,D:=Dn,ver:=nv } (.returned .nilIface) d2))
     have b3:∀nv:Nat,nv=(if N≠[]\/X≠[]\/Dn≠S.D then S.ver+1 else S.ver)->mG S b={ S with L:=S.L++X,V:=t3,Wt:=t2,D:=Dn,ver:=nv }:=λnv he=>by
      unfold mG;rw[if_pos hi.out,hg];simp only;rw[b4.out,hU.out,b1.out,m0,he]
     replace b3:=ac b3;have p5:a1.cell? ⟨d,14,none⟩=some (Vi (S.ver:Int)):=aj a1 d 14 _ _ _ a4.out;have r1:a1.frozen? ⟨d,14,none⟩=false:=aw a1 d 14 _ _ a4.out;have r5:=n9;have VT:cJ.wrap ((N.length:Int)+(X.length:Int))=(N.length:Int)+(X.length:Int):=bP _ ω;have r3:cJ.wrap ((N.length:Int)+(X.length:Int)+(T.length:Int))=(N.length:Int)+(X.length:Int)+(T.length:Int):=bP _ ω;have r4:cJ.wrap ((S.ver:Int)+1)=(S.ver:Int)+1:=bP _ ω;by_cases hv:N≠[]\/X≠[]\/Dn≠S.D
     ·have p4:0<N.length+X.length+T.length:=by
       rcases hv with g|g|g
       ·have:=ft.2 g;omega
       ·have:=ft.2 g;omega
       ·have:=ft.2 (mt l2.1 g);omega
      have e4:(a1.setCell ⟨d,14,none⟩ (Vi ((S.ver:Int)+1))).heap[d]? =some (.cells (AQ (Vu S.cl) (Vu S.lim) z2 (.slice Av t3.length cv) (.slice Aw t2.length cw) (.slice AD Dn.length cD) (Vi ((S.ver:Int)+1)) (.bool S.closed)) 69 (0,0)):=al a1 d 14 _ _ _ a4.out;have b9:=ac (i.out (S.ver+1) _ ((RX.refl d a1).set 14 (Vi ((S.ver:Int)+1)) (.inr rfl)) e4);have g7:=ac (b3.out (S.ver+1) (by rw[if_pos hv]));have g1:decide ((0:Int)<(N.length:Int)+(X.length:Int)+(T.length:Int))=true:=decide_eq_true ω;clear e4 i b3 a4 a6 h8 M J sD g9 hF d6 h0 hv hA h
      go_wp2_with fail
      go_ret;rw[hi.out,g7.out];exact b9.out
     ·have hz:N.length=0/\X.length=0/\T.length=0:=by
       have I:N=[]:=by by_cases g:N=[];exact g;exact absurd (.inl g) hv
       have O:X=[]:=by by_cases g:X=[];exact g;exact absurd (.inr (.inl g)) hv
       have Z:Dn=S.D:=by by_cases g:Dn=S.D;exact g;exact absurd (.inr (.inr g)) hv
       rw[I,O,l2.2 Z];exact⟨rfl,rfl,rfl⟩
      have b9:=ac (i.out S.ver a1 (RX.refl d a1) a4.out);have g7:=ac (b3.out S.ver (by rw[if_neg hv]));have g1:decide ((0:Int)<(N.length:Int)+(X.length:Int)+(T.length:Int))=false:=decide_eq_false ω;clear i b3 a4 a6 h8 M J sD g9 hF d6 h0 hv hA h hz
      go_wp2_with fail
      go_ret;rw[hi.out,g7.out];exact b9.out
end
end Go.Proofs.YtncfhbpejchbfaaGreatDoor

/-
  The contract of utf8.Valid at bytes; no claim stands here.
-/
import Derived.Deep.DeepMust
import Derived.Deep.DeepBigQuietO
import Derived.Test.YtejbpijamdlgcaaGreatDoorPA1
set_option linter.unusedVariables false
set_option linter.unusedSimpArgs false
set_option maxRecDepth 100000
set_option maxHeartbeats 16000000
open Go.Instr renaming slice→fE
open Go.Lib renaming checkN→nD,hid→ah,or_mask→mF,validD→iJ
open Nat renaming or_lt_two_pow→jF,reduceEqDiff→lZ
namespace Go.Proofs.YtejbpijamdlgcaaGreatDoor
open Go.ChangeShapes Go.WideShapes Go.ChangeAt Go.RowKit Go.Sort
attribute [local go_sem] World.cell?_alloc_some
variable {b m:Nat} {p:Prop} {t:List UInt8} {w:World}
theorem tailV {A:Option Addr} (q:Bys w A t) (e:t.length=m) (k:Nat) (f:k<=m) (z:Int) (j:z=k):
  ∃i a,a+k=m/\(t.drop k).length=a/\Bys w i (t.drop k)/\∀W,(fE 32 (.slice A m m) (some (.int .i64 z)) none none).run Tryz.prog W= .ok (.slice i a a) W:=
 ⟨tX A m k 1,m-k,ω,by rw[List.length_drop,e],q.cut e (Nat.le_refl _) f,M4 A m m k f z j⟩
theorem PY {A:Option Addr} (j:Bys w A t) (i:t.length=m) (k:Nat) (I:k<m) (z:Int) (f:z=k):
  ∃b o a,a+k=m/\(t.drop k).length=a/\Bys w (some ⟨b,o,none⟩) (t.drop k)/\∀W,(fE 32 (.slice A m m) (some (.int .i64 z)) none none).run Tryz.prog W= .ok (.slice (some ⟨b,o,none⟩) a a) W:=by
 obtain⟨J,a,H,u,e,q⟩:=tailV j i k ω z f;obtain⟨b,o,rfl⟩:=e.place ω;exact⟨b,o,a,H,u,e,q⟩
theorem aeB {o:Nat} (j:Bys w (some ⟨b,o,none⟩) t) (i:t.length=m) (u:8<=m) (f:m<=12000000) (W:World) (a:Ext w W):
  Calls Tryz.prog 269 #[.slice (some ⟨b,o,none⟩) m m] W λe w'=>e= .returned (.int .u64 (vv t))/\∃q,w'=W.drewN q:=YX b o m m t W (j.ext a) i u f
theorem LA {a:World} {o:Nat} (z:Bys w (some ⟨b,o,none⟩) t) (u:t.length=m) (H:8<=m) (j:m<=12000000) (i:Ext w a) (q:Nat):
  Hid (Calls Tryz.prog 269 #[.slice (some ⟨b,o,none⟩) m m] (a.drewN q) λe f=>e= .returned (.int .u64 (vv t))/\∃n,f=a.drewN n):=ah (Calls.quiet_of (aeB z u H j (a.drewN q) (i.drewN q)))
theorem aek {k:Nat} {a:Bool} (h:∀b∈t.take k,b.toNat<128) (hv:iJ t=a):iJ (t.drop k)=a:=by rw[<-Lib.validD_ascii k t h,hv]
theorem Fq {a:Nat} (i:∀x∈t.take a,x.toNat<128) (f:∀x∈(t.drop a).take b,x.toNat<128):∀x∈t.take (a+b),x.toNat<128:=by
 intro x e;rw[List.take_add] at e;rcases List.mem_append.1 e with h|h
 ·exact i x h
 ·exact f x h
theorem YI (h:(t.getD 0 0).toNat<128):∀x∈t.take 1,x.toNat<128:=by
 intro x e;cases t with
 |nil=>simp at e
 |cons a r=>
  obtain rfl:x=a:=by simpa using e
  exact h
theorem and7:∀X:Fin 256,bits .and .u8 ((X.val:Nat):Int) 7=((X.val%8:Nat):Int):=by decide+kernel
def aiu (w:World) (a:Bool) (gk:Nat) (e:Value) (W:World):Prop:=Ext w W/\∃(A:Option Addr) (m:Nat) (t:List UInt8),e= .slice A m m/\t.length=m/\Bys w A t/\iJ t=a/\m<gk/\m<=12000000
theorem DC {a:Nat} (h:a<18446744073709551616):bits .and .u64 (a:Int) 9259542123273814144=((a&&&9259542123273814144:Nat):Int):=u64_and_nat a 9259542123273814144 h ω
theorem xV (h:p:=by
 clear hlead
 go_wp2_with fail
 go_big_quiet_o (fail)
 go_wp2;go_ret;exact⟨pR (a:=false) hf.out.symm,(hx.alloc _).drewN _⟩):p:=h
theorem UN (h:p:=by
 have wz:decide ((HI:Int)<(x1:Int))=true:=decide_eq_true ω;have wn:decide (HI<x1)=true:=decide_eq_true ω;exact xV):p:=h
theorem UM (h:p:=by
 have wz:decide ((x1:Int)<(LO:Int))=true:=decide_eq_true ω;have wn:decide (x1<LO)=true:=decide_eq_true ω;exact xV):p:=h
theorem abR (h:p:=by
 go_wp2
 go_roundg g'
 case measure=>omega
 case rel=>exact⟨hxu.drewN nq,_,_,u,rfl,lu,bu.out,vu.out,ω,ω⟩):p:=h
theorem WM (A:Option Addr) (n c:Nat) (l:List UInt8) (w:World) (j:Bys w A l) (i:l.length=n) (hc:n<=c) (hn:n<=12000000) (hT:Tabs w):
  Calls Tryz.prog 246 #[.slice A n c] w λe w'=>e= .returned (.bool (iJ l))/\Ext w w':=by
 have mixed:Tryz.prog.follows Departure.mixedOrders=true:=κ
 obtain⟨f,q⟩:∃f,iJ l=f:=⟨_,rfl⟩;rw[q];have j2:=ah4 A n c hc n rfl;replace j:=ah j;replace i:=ah i;replace hT:=ah hT;replace q:=ah q;go_enter Tryz.func246,Tryz.ntmps246;go_wp2
 go_loopg [0] (n+1) (aiu w f)
 case atStart=>exact⟨Ext.refl _,A,n,l,rfl,i.out,j.out,q.out,ω,hn⟩
 case round=>
  clear j2 j i q hc;obtain⟨hx,A,m,t,rfl,i,j,hv,hg,hm⟩:=hrel;replace hv:=ah hv;replace i:=ah i;by_cases h0:0<m
  ·obtain⟨g',rfl⟩:∃g',gk=g'+1:=⟨gk-1,ω⟩
   obtain⟨b,o,rfl⟩:=j.place (by rw[i.out];exact h0);have a6:=(j.ext hx).all 0 (by rw[i.out];exact h0);rw[Nat.add_zero,Vb] at a6;replace j:=ah j;have a5:=(t.getD 0 0).toNat_lt;by_cases K:(t.getD 0 0).toNat<128
   ·have v1:=ah (aek (YI K) hv.out)
    generalize(t.getD 0 0).toNat=x0 at a6 a5 K;obtain⟨A1,m1,U,l1,b1,p8⟩:=tailV j.out i.out 1 ω 1 rfl;replace b1:=ah b1;replace l1:=ah l1
    as_aux_lemma=>
     by_cases c8:8<m1
     ·obtain⟨o7,m0,j1⟩:=b1.out.place (by rw[l1.out];omega)
      subst j1;have a4:=ah (aeB b1.out l1.out ω ω wr hx);have d6:=vN (t.drop 1);have I:=uL (l:=t.drop 1) (by rw[l1.out];omega);have N:=DC d6;generalize vv (t.drop 1)=W1 at a4 d6 I N;generalize W1&&&9259542123273814144=Z1 at I N;by_cases e5:Z1=0
      ·have a8:=I.1 e5
       have v2:=ah (aek a8 v1.out);obtain⟨b2,o2,m2,e2,l2,z,j7⟩:=PY b1.out l1.out 8 c8 8 rfl;replace z:=ah z;replace l2:=ah l2;generalize(t.drop 1).drop 8=t2 at v2 l2 z;subst e5;clear I a8
       go_wp2_with(go_at_call 269;refine a4.out.mono ?_;rintro e W9 ⟨rfl,Z,rfl⟩)
       have H:Ext w (wr.drewN Z):=hx.drewN Z;generalize wr.drewN Z=wq at H⊢;clear a4 hx;by_cases n9:16<m2
       ·have g2:decide ((16:Int)<(m2:Int))=true:=decide_eq_true ω
        obtain⟨b3,o3,m3,e3,l3,g5,p9⟩:=PY z.out l2.out 8 ω 8 rfl;have a3:=LA z.out l2.out ω ω H;have a2:=LA g5 l3 ω ω H;have lA:=vN t2;have lB:=vN (t2.drop 8);have kA:=uL (l:=t2) (by rw[l2.out];omega);have kB:=uL (l:=t2.drop 8) (by rw[l3];omega);generalize vv t2=WA at a3 lA kA;generalize vv (t2.drop 8)=WB at a2 lB kB;have i2:=u64_or_nat WA WB lA lB;have b7:WA|||WB<18446744073709551616:=jF (n:=64) lA lB;have M:=DC b7;have k2:(WA|||WB)&&&9259542123273814144=0->∀x∈t2.take 16,x.toNat<128:=λh=>by
             obtain⟨p1,p2⟩:=(mF WA WB _).1 h;exact Fq (a:=8) (b:=8) (kA.1 p1) (kB.1 p2)
        clear kA kB l3 g5;generalize WA|||WB=WO at i2 b7 M k2;generalize WO&&&9259542123273814144=Z2 at M k2;by_cases e0:Z2=0
        ·have v3:=ah (aek (k2 e0) v2.out)
         obtain⟨A4,m4,e4,l4,b4,q0⟩:=tailV z.out l2.out 16 ω 16 rfl;replace b4:=ah b4;replace l4:=ah l4;generalize t2.drop 16=t3 at v3 l4 b4;subst e0;clear k2
         go_big_quiet_o (first|(with_reducible exact(a3 _).out)|(with_reducible exact(a2 _).out))
         have e6:Ext w (wq.drewN nq):=H.drewN nq;generalize wq.drewN nq=k5 at e6⊢;clear a3 a2 H;go_wp2
         go_loopg [0] (m4+1) (λgk s0 wx=>aiu w f gk s0 wx/\∃A m,s0= .slice A m m/\m<=m4)
         case atStart=>exact⟨⟨e6,A4,m4,t3,rfl,l4.out,b4.out,v3.out,ω,ω⟩,A4,m4,rfl,ω⟩
         case round=>
             obtain⟨⟨hxu,Au,mu,u,rfl,lu,bu,vu,n3,n2⟩,j3,a0,f9,p4⟩:=hrel;obtain⟨rfl,rfl⟩:j3=Au/\a0=mu:=by injection f9 with U e2 e3;exact⟨U.symm,e2.symm⟩
             clear f9;replace vu:=ah vu;by_cases n8:32<a0
             ·have g1:decide ((32:Int)<(a0:Int))=true:=decide_eq_true ω
              obtain⟨g3,rfl⟩:∃g3,gk=g3+1:=⟨gk-1,ω⟩;obtain⟨o4,k8,j0⟩:=bu.place (by rw[lu];omega);subst j0;obtain⟨b8,o8,m8,e8,l8,g4,q4⟩:=PY bu lu 8 ω 8 rfl;obtain⟨o6,l5,m6,n6,d8,g6,p5⟩:=PY bu lu 16 ω 16 rfl;obtain⟨o5,k9,m5,n5,d7,g8,p6⟩:=PY bu lu 24 ω 24 rfl;obtain⟨g9,b6,n4,i0,Y,p7⟩:=tailV bu lu 32 ω 32 rfl;have d0:=LA bu lu ω ω hxu;have d1:=LA g4 l8 ω ω hxu;have d2:=LA g6 d8 ω ω hxu;have d3:=LA g8 d7 ω ω hxu;have f0:=vN u;have f1:=vN (u.drop 8);have f2:=vN (u.drop 16);have f3:=vN (u.drop 24);have k0:=uL (l:=u) (by rw[lu];omega);have k1:=uL (l:=u.drop 8) (by rw[l8];omega);have k2:=uL (l:=u.drop 16) (by rw[d8];omega);have k3:=uL (l:=u.drop 24) (by rw[d7];omega);generalize vv u=B0 at d0 f0 k0;generalize vv (u.drop 8)=B1 at d1 f1 k1;generalize vv (u.drop 16)=B2 at d2 f2 k2;generalize vv (u.drop 24)=B3 at d3 f3 k3;have n1:=u64_or_nat B0 B1 f0 f1;have n0:=u64_or_nat B2 B3 f2 f3;have d5:B0|||B1<18446744073709551616:=jF (n:=64) f0 f1;have d4:B2|||B3<18446744073709551616:=jF (n:=64) f2 f3;have m7:=u64_or_nat _ _ d5 d4;have h9:(B0|||B1)|||(B2|||B3)<18446744073709551616:=jF (n:=64) d5 d4;have i6:=DC h9;have k4:((B0|||B1)|||(B2|||B3))&&&9259542123273814144=0->∀x∈u.take 32,x.toNat<128:=λh=>by
               obtain⟨h8,h6⟩:=(mF _ _ _).1 h;obtain⟨p0,p1⟩:=(mF _ _ _).1 h8;obtain⟨p2,p3⟩:=(mF _ _ _).1 h6;exact Fq (a:=24) (b:=8) (Fq (a:=16) (b:=8) (Fq (a:=8) (b:=8) (k0.1 p0) (k1.1 p1)) (k2.1 p2)) (k3.1 p3)
              clear k0 k1 k2 k3 g4 g6 g8;generalize B0|||B1=P1 at*;generalize B2|||B3=P2 at*;generalize P1|||P2=P3 at*;generalize P3&&&9259542123273814144=Z3 at*;by_cases d9:Z3=0
              ·have h5:=ah (aek (k4 d9) vu.out)
               subst d9;clear k4;replace Y:=ah Y;replace bu:=ah bu
               go_wp2_with fail
               go_big_quiet_o (first|(with_reducible exact(d0 _).out)|(with_reducible exact(d1 _).out)|(with_reducible exact(d2 _).out)|(with_reducible exact(d3 _).out))
               go_wp2
               go_roundg g3
               case measure=>omega
               case rel=>exact⟨⟨hxu.drewN nq,g9,b6,u.drop 32,rfl,i0,Y.out,h5.out,ω,ω⟩,g9,b6,rfl,ω⟩
              ·have j4:((Z3:Int)==0)=false:=by rw[beq_eq_false_iff_ne];omega
               clear k4;replace Y:=ah Y;replace bu:=ah bu
               go_wp2_with fail
               go_big_quiet_o (first|(with_reducible exact(d0 _).out)|(with_reducible exact(d1 _).out)|(with_reducible exact(d2 _).out)|(with_reducible exact(d3 _).out))
               exact abR
             ·have g1:decide ((32:Int)<(a0:Int))=false:=decide_eq_false ω
              replace bu:=ah bu
              go_wp2_with fail
              go_big_quiet_o (fail)
              exact abR
        ·have j5:((Z2:Int)==0)=false:=by rw[beq_eq_false_iff_ne];omega
         clear k2
         go_big_quiet_o (first|(with_reducible exact(a3 _).out)|(with_reducible exact(a2 _).out))
         go_wp2
         go_roundg g'
         case measure=>omega
         case rel=>exact⟨H.drewN nq,_,_,t2,rfl,l2.out,z.out,v2.out,ω,ω⟩
       ·have g2:decide ((16:Int)<(m2:Int))=false:=decide_eq_false ω
        go_big_quiet_o (fail)
        go_wp2
        go_roundg g'
        case measure=>omega
        case rel=>exact⟨H.drewN nq,_,_,t2,rfl,l2.out,z.out,v2.out,ω,ω⟩
      ·have j6:((Z1:Int)==0)=false:=by rw[beq_eq_false_iff_ne];omega
       clear I
       go_wp2_with(go_at_call 269;refine a4.out.mono ?_;rintro e W9 ⟨rfl,Z,rfl⟩)
       go_roundg g'
       case measure=>omega
       case rel=>exact⟨hx.drewN Z,_,_,t.drop 1,rfl,l1.out,b1.out,v1.out,ω,ω⟩
     ·have n7:¬((8:Int)<(m1:Int)):=ω
      go_wp2
      go_roundg g'
      case measure=>omega
      case rel=>exact⟨hx,A1,m1,t.drop 1,rfl,l1.out,b1.out,v1.out,ω,ω⟩
   ·have f7:128<=(t.getD 0 0).toNat:=ω
    have f4:t≠[]:=λh=>by have:=i.out;rw[h] at this;simp at this;omega
    have hlead:=Lib.validD_lead t f4 f7;have a1:=hT.out.ext hx;have f8:=a1.1 (t.getD 0 0).toNat a5;have O:Lib.firstT (t.getD 0 0).toNat<256:=by rcases Lib.firstT_cases (t.getD 0 0).toNat with h|h|h|h|h|h|h|h|h <;> omega
    rw[i.out,hv.out] at hlead;generalize(t.getD 0 0).toNat=x0 at a6 a5 K f7 hlead f8 O;generalize Lib.firstT x0=X at hlead f8 O;have Q:=and7 ⟨X,O⟩;have i8:wr.cell? ⟨2,X/16*2,none⟩=some (.int .u8 (Lib.accLo (X/16))):=by rw[Nat.mul_comm];exact(a1.2 (X/16) ω).1
    have i7:wr.cell? ⟨2,X/16*2+1,none⟩=some (.int .u8 (Lib.accHi (X/16))):=by rw[Nat.mul_comm];exact(a1.2 (X/16) ω).2
    generalize Lib.accLo (X/16)=LO at i8 hlead;generalize Lib.accHi (X/16)=HI at i7 hlead;have Z:=(t.getD 1 0).toNat_lt;have q2:=(t.getD 2 0).toNat_lt;have q3:=(t.getD 3 0).toNat_lt;clear a1 f4;have o9:X/16<16:=ω
    by_cases s2:X%8=2
    ·as_aux_lemma=>
      have g0:bits .and .u8 (X:Int) 7=2:=by simp only at Q;rw[Q];omega
      simp only[s2,nD,lZ,if_true,if_false] at hlead;clear Q;by_cases i5:m<2
      ·have hf:=ah (show f=false by rw[hlead,if_pos (.inl i5)])
       have f6:decide ((m:Int)<2)=true:=decide_eq_true ω;exact xV
      ·have f5:decide ((m:Int)<2)=false:=decide_eq_false ω
       have U:=(j.out.ext hx).all 1 (by rw[i.out];omega);rw[Vb] at U;generalize(t.getD 1 0).toNat=x1 at U hlead Z;by_cases w0:x1<LO
       ·have hf:=ah (show f=false by rw[hlead,if_pos ω])
        exact UM
       ·have a9:decide ((x1:Int)<(LO:Int))=false:=decide_eq_false ω
        have b5:decide (x1<LO)=false:=decide_eq_false ω;by_cases w1:HI<x1
        ·have hf:=ah (show f=false by rw[hlead,if_pos ω])
         exact UN
        ·have a7:decide ((HI:Int)<(x1:Int))=false:=decide_eq_false ω
         have b0:decide (HI<x1)=false:=decide_eq_false ω;have J:=ah (show f=iJ (t.drop 2) by rw[hlead,if_neg ω]);obtain⟨A9,m9,e9,l9,W,g7⟩:=tailV j.out i.out 2 ω 2 rfl;replace W:=ah W;clear hlead
         go_wp2_with fail
         go_big_quiet_o (fail)
         go_wp2
         go_roundg g'
         case measure=>omega
         case rel=>exact⟨(hx.alloc _).drewN _,A9,m9,t.drop 2,rfl,l9,W.out,J.out.symm,ω,ω⟩
    by_cases s3:X%8=3
    ·as_aux_lemma=>
      have g0:bits .and .u8 (X:Int) 7=3:=by simp only at Q;rw[Q];omega
      simp only[s3,nD,lZ,if_true,if_false] at hlead;clear Q;by_cases i4:m<3
      ·have hf:=ah (show f=false by rw[hlead,if_pos (.inl i4)])
       have f6:decide ((m:Int)<3)=true:=decide_eq_true ω;exact xV
      ·have f5:decide ((m:Int)<3)=false:=decide_eq_false ω
       have U:=(j.out.ext hx).all 1 (by rw[i.out];omega);rw[Vb] at U;have e2:=(j.out.ext hx).all 2 (by rw[i.out];omega);rw[Vb] at e2;generalize(t.getD 1 0).toNat=x1 at U hlead Z;generalize(t.getD 2 0).toNat=x2 at e2 hlead q2;by_cases w0:x1<LO
       ·have hf:=ah (show f=false by rw[hlead,if_pos ω])
        exact UM
       ·have a9:decide ((x1:Int)<(LO:Int))=false:=decide_eq_false ω
        have b5:decide (x1<LO)=false:=decide_eq_false ω;by_cases w1:HI<x1
        ·have hf:=ah (show f=false by rw[hlead,if_pos ω])
         exact UN
        ·have a7:decide ((HI:Int)<(x1:Int))=false:=decide_eq_false ω
         have b0:decide (HI<x1)=false:=decide_eq_false ω;by_cases w2:x2<128
         ·have hf:=ah (show f=false by rw[hlead,if_pos ω])
          have wz:decide ((x2:Int)<(128:Int))=true:=decide_eq_true ω;have wn:decide (x2<128)=true:=decide_eq_true ω;exact xV
         ·have h2:decide ((x2:Int)<(128:Int))=false:=decide_eq_false ω
          have h4:decide (x2<128)=false:=decide_eq_false ω;by_cases w3:191<x2
          ·have hf:=ah (show f=false by rw[hlead,if_pos ω])
           have wz:decide ((191:Int)<(x2:Int))=true:=decide_eq_true ω;have wn:decide (191<x2)=true:=decide_eq_true ω;exact xV
          ·have h1:decide ((191:Int)<(x2:Int))=false:=decide_eq_false ω
           have h3:decide (191<x2)=false:=decide_eq_false ω;have J:=ah (show f=iJ (t.drop 3) by rw[hlead,if_neg ω]);obtain⟨A9,m9,e9,l9,W,g7⟩:=tailV j.out i.out 3 ω 3 rfl;replace W:=ah W;clear hlead
           go_wp2_with fail
           go_big_quiet_o (fail)
           go_wp2
           go_roundg g'
           case measure=>omega
           case rel=>exact⟨(hx.alloc _).drewN _,A9,m9,t.drop 3,rfl,l9,W.out,J.out.symm,ω,ω⟩
    by_cases s4:X%8=4
    ·as_aux_lemma=>
      have g0:bits .and .u8 (X:Int) 7=4:=by simp only at Q;rw[Q];omega
      simp only[s4,nD,lZ,if_true,if_false] at hlead;clear Q;by_cases i3:m<4
      ·have hf:=ah (show f=false by rw[hlead,if_pos (.inl i3)])
       have f6:decide ((m:Int)<4)=true:=decide_eq_true ω;exact xV
      ·have f5:decide ((m:Int)<4)=false:=decide_eq_false ω
       have U:=(j.out.ext hx).all 1 (by rw[i.out];omega);rw[Vb] at U;have e2:=(j.out.ext hx).all 2 (by rw[i.out];omega);rw[Vb] at e2;have e3:=(j.out.ext hx).all 3 (by rw[i.out];omega);rw[Vb] at e3;generalize(t.getD 1 0).toNat=x1 at U hlead Z;generalize(t.getD 2 0).toNat=x2 at e2 hlead q2;generalize(t.getD 3 0).toNat=x3 at e3 hlead q3;by_cases w0:x1<LO
       ·have hf:=ah (show f=false by rw[hlead,if_pos ω])
        exact UM
       ·have a9:decide ((x1:Int)<(LO:Int))=false:=decide_eq_false ω
        have b5:decide (x1<LO)=false:=decide_eq_false ω;by_cases w1:HI<x1
        ·have hf:=ah (show f=false by rw[hlead,if_pos ω])
         exact UN
        ·have a7:decide ((HI:Int)<(x1:Int))=false:=decide_eq_false ω
         have b0:decide (HI<x1)=false:=decide_eq_false ω;by_cases w2:x2<128
         ·have hf:=ah (show f=false by rw[hlead,if_pos ω])
          have wz:decide ((x2:Int)<(128:Int))=true:=decide_eq_true ω;have wn:decide (x2<128)=true:=decide_eq_true ω;exact xV
         ·have h2:decide ((x2:Int)<(128:Int))=false:=decide_eq_false ω
          have h4:decide (x2<128)=false:=decide_eq_false ω;by_cases w3:191<x2
          ·have hf:=ah (show f=false by rw[hlead,if_pos ω])
           have wz:decide ((191:Int)<(x2:Int))=true:=decide_eq_true ω;have wn:decide (191<x2)=true:=decide_eq_true ω;exact xV
          ·have h1:decide ((191:Int)<(x2:Int))=false:=decide_eq_false ω
           have h3:decide (191<x2)=false:=decide_eq_false ω;by_cases w4:x3<128
           ·have hf:=ah (show f=false by rw[hlead,if_pos ω])
            have wz:decide ((x3:Int)<(128:Int))=true:=decide_eq_true ω;have wn:decide (x3<128)=true:=decide_eq_true ω;exact xV
           ·have j9:decide ((x3:Int)<(128:Int))=false:=decide_eq_false ω
            have k7:decide (x3<128)=false:=decide_eq_false ω;by_cases w5:191<x3
            ·have hf:=ah (show f=false by rw[hlead,if_pos ω])
             have wz:decide ((191:Int)<(x3:Int))=true:=decide_eq_true ω;have wn:decide (191<x3)=true:=decide_eq_true ω;exact xV
            ·have j8:decide ((191:Int)<(x3:Int))=false:=decide_eq_false ω
             have k6:decide (191<x3)=false:=decide_eq_false ω;have J:=ah (show f=iJ (t.drop 4) by rw[hlead,if_neg ω]);obtain⟨A9,m9,e9,l9,W,g7⟩:=tailV j.out i.out 4 ω 4 rfl;replace W:=ah W;clear hlead
             go_wp2_with fail
             go_big_quiet_o (fail)
             go_wp2
             go_roundg g'
             case measure=>omega
             case rel=>exact⟨(hx.alloc _).drewN _,A9,m9,t.drop 4,rfl,l9,W.out,J.out.symm,ω,ω⟩
    have hf:=ah (show f=false by rw[hlead];simp only[nD,s2,s3,s4,if_false]);simp only at Q;have i9:X%8<8:=ω
    generalize X%8=SZ at Q s2 s3 s4 i9;have z2:((SZ:Int)==2)=false:=by rw[beq_eq_false_iff_ne];omega
    have z3:((SZ:Int)==3)=false:=by rw[beq_eq_false_iff_ne];omega
    have z4:((SZ:Int)==4)=false:=by rw[beq_eq_false_iff_ne];omega
    clear hlead;go_wp2
    all_goals(go_ret;exact⟨pR (a:=false) hf.out.symm,hx.alloc _⟩)
  ·have e7:t=[]:=List.eq_nil_of_length_eq_zero (by rw[i.out];omega)
   rw[e7,Lib.validD_nil] at hv;have i1:=hv.out;subst i1;clear e7;go_wp2;go_ret;exact⟨rfl,hx⟩
end Go.Proofs.YtejbpijamdlgcaaGreatDoor

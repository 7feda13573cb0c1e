/-
  The contract of utf8.Valid at bytes; no claim stands here.
-/
import Derived.Deep.DeepMust
import Derived.Deep.DeepBigQuietO
import Derived.Test.YtncfhbpejchbfaaGreatDoorPA1
set_option linter.unusedVariables false
set_option linter.unusedSimpArgs false
set_option maxRecDepth 100000
set_option maxHeartbeats 16000000
open Go.Instr renaming slice→dm
open Go.Lib renaming checkN→i8,hid→ac,or_mask→iC,validD→ew
open Nat renaming mul_comm→gE,or_lt_two_pow→fw,reduceEqDiff→iq
open Go.Proofs.Tryz
open Go.Proofs.Tryz renaming prog→pg
namespace Go.Proofs.YtncfhbpejchbfaaGreatDoor
open Go.ChangeShapes Go.WideShapes Go.ChangeAt Go.RowKit Go.Sort
attribute [local go_sem] World.cell?_alloc_some
variable {b m:Nat} {p:Prop} {t:List UInt8} {w:World}
theorem tailV {A:Option Addr} (q:Bys w A t) (e:t.length=m) (k:Nat) (f:k<=m) (z:Int) (j:z=k):
  ∃i a,a+k=m/\(t.drop k).length=a/\Bys w i (t.drop k)/\∀W,(dm 41 (.slice A m m) (some (.int .i64 z)) none none).run pg W= .ok (.slice i a a) W:=
 ⟨oq A m k 1,m-k,ω,by rw[List.length_drop,e],q.cut e (Nat.le_refl _) f,JV A m m k f z j⟩
theorem Nr {A:Option Addr} (j:Bys w A t) (i:t.length=m) (k:Nat) (I:k<m) (z:Int) (f:z=k):
  ∃b o a,a+k=m/\(t.drop k).length=a/\Bys w (some ⟨b,o,none⟩) (t.drop k)/\∀W,(dm 41 (.slice A m m) (some (.int .i64 z)) none none).run pg W= .ok (.slice (some ⟨b,o,none⟩) a a) W:=by
 obtain⟨J,a,H,u,e,q⟩:=tailV j i k ω z f;obtain⟨b,o,rfl⟩:=e.place ω;exact⟨b,o,a,H,u,e,q⟩
theorem acS {o:Nat} (i:Bys w (some ⟨b,o,none⟩) t) (f:t.length=m) (j:8<=m) (hn:m<=12000000) (W:World) (a:Ext w W):
  Calls pg 213 #[.slice (some ⟨b,o,none⟩) m m] W λe w'=>e= .returned (.int .u64 (qm t))/\∃q,w'=W.drewN q:=Xp b o m m t W (i.ext a) f j hn
theorem I9 {a:World} {o:Nat} (u:Bys w (some ⟨b,o,none⟩) t) (j:t.length=m) (z:8<=m) (hn:m<=12000000) (i:Ext w a) (q:Nat):
  Hid (Calls pg 213 #[.slice (some ⟨b,o,none⟩) m m] (a.drewN q) λe f=>e= .returned (.int .u64 (qm t))/\∃n,f=a.drewN n):=ac (Calls.quiet_of (acS u j z hn (a.drewN q) (i.drewN q)))
theorem acD {k:Nat} {a:Bool} (h:∀b∈t.take k,b.toNat<128) (hv:ew t=a):ew (t.drop k)=a:=by rw[<-Lib.validD_ascii k t h,hv]
theorem CJ {a:Nat} (i:∀x∈t.take a,x.toNat<128) (f:∀x∈(t.drop a).take b,x.toNat<128):∀x∈t.take (a+b),x.toNat<128:=by
 intro x e;rw[List.take_add] at e;rcases List.mem_append.1 e with h|h
 ·exact i x h
 ·exact f x h
theorem Xa (h:(t.getD 0 0).toNat<128):∀x∈t.take 1,x.toNat<128:=by
 intro x e;cases t with
 |nil=>simp at e
 |cons a r=>
  obtain rfl:x=a:=by simpa using e
  exact h
theorem and7:∀X:Fin 256,bits .and .u8 ((X.val:Nat):Int) 7=((X.val%8:Nat):Int):=by decide+kernel
def agO (w:World) (a:Bool) (gk:Nat) (e:Value) (W:World):Prop:=Ext w W/\∃(A:Option Addr) (m:Nat) (t:List UInt8),e= .slice A m m/\t.length=m/\Bys w A t/\ew t=a/\m<gk/\m<=12000000
theorem zM {a:Nat} (h:a<18446744073709551616):bits .and .u64 (a:Int) 9259542123273814144=((a&&&9259542123273814144:Nat):Int):=u64_and_nat a 9259542123273814144 h ω
theorem tL (h:p:=by
 clear hlead
 go_wp2_with fail
 go_big_quiet_o (fail)
 go_wp2;go_ret;exact⟨kE (a:=false) hf.out.symm,(hx.alloc _).drewN _⟩):p:=h
theorem R6 (h:p:=by
 have wz:decide ((HI:Int)<(x1:Int))=true:=decide_eq_true ω;have wn:decide (HI<x1)=true:=decide_eq_true ω;exact tL):p:=h
theorem R5 (h:p:=by
 have wz:decide ((x1:Int)<(LO:Int))=true:=decide_eq_true ω;have wn:decide (x1<LO)=true:=decide_eq_true ω;exact tL):p:=h
theorem aal (h:p:=by
 go_wp2
 go_roundg g'
 case measure=>omega
 case rel=>exact⟨hxu.drewN nq,_,_,u,rfl,lu,bu.out,vu.out,ω,ω⟩):p:=h
theorem Uw (A:Option Addr) (n c:Nat) (l:List UInt8) (w:World) (j:Bys w A l) (i:l.length=n) (hc:n<=c) (hn:n<=12000000) (hT:Tabs w):
  Calls pg 190 #[.slice A n c] w λe w'=>e= .returned (.bool (ew l))/\Ext w w':=by
 have mixed:pg.follows Departure.mixedOrders=true:=κ
 obtain⟨f,q⟩:∃f,ew l=f:=⟨_,rfl⟩;rw[q];have j5:=agr A n c hc n rfl;replace j:=ac j;replace i:=ac i;replace hT:=ac hT;replace q:=ac q;go_enter func190,ntmps190;go_wp2
 go_loopg [0] (n+1) (agO w f)
 case atStart=>exact⟨Ext.refl _,A,n,l,rfl,i.out,j.out,q.out,ω,hn⟩
 case round=>
  clear j5 j i q hc;obtain⟨hx,A,m,t,rfl,i,j,hv,hg,hm⟩:=hrel;replace hv:=ac hv;replace i:=ac i;by_cases h0:0<m
  ·obtain⟨g',rfl⟩:∃g',gk=g'+1:=⟨gk-1,ω⟩
   obtain⟨b,o,rfl⟩:=j.place (by rw[i.out];exact h0);have a6:=(j.ext hx).all 0 (by rw[i.out];exact h0);rw[Nat.add_zero,Vb] at a6;replace j:=ac j;have a5:=(t.getD 0 0).toNat_lt;by_cases K:(t.getD 0 0).toNat<128
   ·have v1:=ac (acD (Xa K) hv.out)
    generalize(t.getD 0 0).toNat=x0 at a6 a5 K;obtain⟨A1,m1,U,l1,b1,q4⟩:=tailV j.out i.out 1 ω 1 rfl;replace b1:=ac b1;replace l1:=ac l1
    as_aux_lemma=>
     by_cases c8:8<m1
     ·obtain⟨p5,m7,j4⟩:=b1.out.place (by rw[l1.out];omega)
      subst j4;have a4:=ac (acS b1.out l1.out ω ω wr hx);have d6:=qH (t.drop 1);have I:=pJ (l:=t.drop 1) (by rw[l1.out];omega);have N:=zM d6;generalize qm (t.drop 1)=W1 at a4 d6 I N;generalize W1&&&9259542123273814144=Z1 at I N;by_cases e6:Z1=0
      ·have a8:=I.1 e6
       have v2:=ac (acD a8 v1.out);obtain⟨b2,o2,m2,e2,l2,z,k5⟩:=Nr b1.out l1.out 8 c8 8 rfl;replace z:=ac z;replace l2:=ac l2;generalize(t.drop 1).drop 8=t2 at v2 l2 z;subst e6;clear I a8
       go_wp2_with(go_at_call 213;refine a4.out.mono ?_;rintro e W9 ⟨rfl,Z,rfl⟩)
       have H:Ext w (wr.drewN Z):=hx.drewN Z;generalize wr.drewN Z=wq at H⊢;clear a4 hx;by_cases o6:16<m2
       ·have g4:decide ((16:Int)<(m2:Int))=true:=decide_eq_true ω
        obtain⟨b3,o3,m3,e3,l3,g6,q5⟩:=Nr z.out l2.out 8 ω 8 rfl;have a3:=I9 z.out l2.out ω ω H;have a2:=I9 g6 l3 ω ω H;have lA:=qH t2;have lB:=qH (t2.drop 8);have kA:=pJ (l:=t2) (by rw[l2.out];omega);have kB:=pJ (l:=t2.drop 8) (by rw[l3];omega);generalize qm t2=WA at a3 lA kA;generalize qm (t2.drop 8)=WB at a2 lB kB;have i3:=u64_or_nat WA WB lA lB;have b7:WA|||WB<18446744073709551616:=fw (n:=64) lA lB;have M:=zM b7;have k2:(WA|||WB)&&&9259542123273814144=0->∀x∈t2.take 16,x.toNat<128:=λh=>by
             obtain⟨p1,p2⟩:=(iC WA WB _).1 h;exact CJ (a:=8) (b:=8) (kA.1 p1) (kB.1 p2)
        clear kA kB l3 g6;generalize WA|||WB=WO at i3 b7 M k2;generalize WO&&&9259542123273814144=Z2 at M k2;by_cases e5:Z2=0
        ·have v3:=ac (acD (k2 e5) v2.out)
         obtain⟨A4,m4,e4,l4,b4,q6⟩:=tailV z.out l2.out 16 ω 16 rfl;replace b4:=ac b4;replace l4:=ac l4;generalize t2.drop 16=t3 at v3 l4 b4;subst e5;clear k2
         go_big_quiet_o (first|(with_reducible exact(a3 _).out)|(with_reducible exact(a2 _).out))
         have e7:Ext w (wq.drewN nq):=H.drewN nq;generalize wq.drewN nq=k8 at e7⊢;clear a3 a2 H;go_wp2
         go_loopg [0] (m4+1) (λgk s0 wx=>agO w f gk s0 wx/\∃A m,s0= .slice A m m/\m<=m4)
         case atStart=>exact⟨⟨e7,A4,m4,t3,rfl,l4.out,b4.out,v3.out,ω,ω⟩,A4,m4,rfl,ω⟩
         case round=>
             obtain⟨⟨hxu,Au,mu,u,rfl,lu,bu,vu,n6,n5⟩,j6,a0,g0,p6⟩:=hrel;obtain⟨rfl,rfl⟩:j6=Au/\a0=mu:=by injection g0 with U e2 e3;exact⟨U.symm,e2.symm⟩
             clear g0;replace vu:=ac vu;by_cases o5:32<a0
             ·have g2:decide ((32:Int)<(a0:Int))=true:=decide_eq_true ω
              obtain⟨g3,rfl⟩:∃g3,gk=g3+1:=⟨gk-1,ω⟩;obtain⟨o7,m0,j3⟩:=bu.place (by rw[lu];omega);subst j3;obtain⟨b8,o8,m8,e8,l8,g5,q7⟩:=Nr bu lu 8 ω 8 rfl;obtain⟨p4,m6,n1,n9,d9,g7,p7⟩:=Nr bu lu 16 ω 16 rfl;obtain⟨o9,m5,n0,n8,d7,g8,p8⟩:=Nr bu lu 24 ω 24 rfl;obtain⟨h1,b6,n7,i1,Y,p9⟩:=tailV bu lu 32 ω 32 rfl;have d0:=I9 bu lu ω ω hxu;have d1:=I9 g5 l8 ω ω hxu;have d2:=I9 g7 d9 ω ω hxu;have d3:=I9 g8 d7 ω ω hxu;have f0:=qH u;have f1:=qH (u.drop 8);have f2:=qH (u.drop 16);have f3:=qH (u.drop 24);have k0:=pJ (l:=u) (by rw[lu];omega);have k1:=pJ (l:=u.drop 8) (by rw[l8];omega);have k2:=pJ (l:=u.drop 16) (by rw[d9];omega);have k3:=pJ (l:=u.drop 24) (by rw[d7];omega);generalize qm u=B0 at d0 f0 k0;generalize qm (u.drop 8)=B1 at d1 f1 k1;generalize qm (u.drop 16)=B2 at d2 f2 k2;generalize qm (u.drop 24)=B3 at d3 f3 k3;have n4:=u64_or_nat B0 B1 f0 f1;have n3:=u64_or_nat B2 B3 f2 f3;have d5:B0|||B1<18446744073709551616:=fw (n:=64) f0 f1;have d4:B2|||B3<18446744073709551616:=fw (n:=64) f2 f3;have n2:=u64_or_nat _ _ d5 d4;have i0:(B0|||B1)|||(B2|||B3)<18446744073709551616:=fw (n:=64) d5 d4;have i7:=zM i0;have k4:((B0|||B1)|||(B2|||B3))&&&9259542123273814144=0->∀x∈u.take 32,x.toNat<128:=λh=>by
               obtain⟨h9,h8⟩:=(iC _ _ _).1 h;obtain⟨p0,p1⟩:=(iC _ _ _).1 h9;obtain⟨p2,p3⟩:=(iC _ _ _).1 h8;exact CJ (a:=24) (b:=8) (CJ (a:=16) (b:=8) (CJ (a:=8) (b:=8) (k0.1 p0) (k1.1 p1)) (k2.1 p2)) (k3.1 p3)
              clear k0 k1 k2 k3 g5 g7 g8;generalize B0|||B1=P1 at*;generalize B2|||B3=P2 at*;generalize P1|||P2=P3 at*;generalize P3&&&9259542123273814144=Z3 at*;by_cases e0:Z3=0
              ·have h6:=ac (acD (k4 e0) vu.out)
               subst e0;clear k4;replace Y:=ac Y;replace bu:=ac bu
               go_wp2_with fail
               go_big_quiet_o (first|(with_reducible exact(d0 _).out)|(with_reducible exact(d1 _).out)|(with_reducible exact(d2 _).out)|(with_reducible exact(d3 _).out))
               go_wp2
               go_roundg g3
               case measure=>omega
               case rel=>exact⟨⟨hxu.drewN nq,h1,b6,u.drop 32,rfl,i1,Y.out,h6.out,ω,ω⟩,h1,b6,rfl,ω⟩
              ·have j7:((Z3:Int)==0)=false:=by rw[beq_eq_false_iff_ne];omega
               clear k4;replace Y:=ac Y;replace bu:=ac bu
               go_wp2_with fail
               go_big_quiet_o (first|(with_reducible exact(d0 _).out)|(with_reducible exact(d1 _).out)|(with_reducible exact(d2 _).out)|(with_reducible exact(d3 _).out))
               exact aal
             ·have g2:decide ((32:Int)<(a0:Int))=false:=decide_eq_false ω
              replace bu:=ac bu
              go_wp2_with fail
              go_big_quiet_o (fail)
              exact aal
        ·have j8:((Z2:Int)==0)=false:=by rw[beq_eq_false_iff_ne];omega
         clear k2
         go_big_quiet_o (first|(with_reducible exact(a3 _).out)|(with_reducible exact(a2 _).out))
         go_wp2
         go_roundg g'
         case measure=>omega
         case rel=>exact⟨H.drewN nq,_,_,t2,rfl,l2.out,z.out,v2.out,ω,ω⟩
       ·have g4:decide ((16:Int)<(m2:Int))=false:=decide_eq_false ω
        go_big_quiet_o (fail)
        go_wp2
        go_roundg g'
        case measure=>omega
        case rel=>exact⟨H.drewN nq,_,_,t2,rfl,l2.out,z.out,v2.out,ω,ω⟩
      ·have j9:((Z1:Int)==0)=false:=by rw[beq_eq_false_iff_ne];omega
       clear I
       go_wp2_with(go_at_call 213;refine a4.out.mono ?_;rintro e W9 ⟨rfl,Z,rfl⟩)
       go_roundg g'
       case measure=>omega
       case rel=>exact⟨hx.drewN Z,_,_,t.drop 1,rfl,l1.out,b1.out,v1.out,ω,ω⟩
     ·have o4:¬((8:Int)<(m1:Int)):=ω
      go_wp2
      go_roundg g'
      case measure=>omega
      case rel=>exact⟨hx,A1,m1,t.drop 1,rfl,l1.out,b1.out,v1.out,ω,ω⟩
   ·have f8:128<=(t.getD 0 0).toNat:=ω
    have f5:t≠[]:=λh=>by have:=i.out;rw[h] at this;simp at this;omega
    have hlead:=Lib.validD_lead t f5 f8;have a1:=hT.out.ext hx;have f9:=a1.1 (t.getD 0 0).toNat a5;have O:Lib.firstT (t.getD 0 0).toNat<256:=by rcases Lib.firstT_cases (t.getD 0 0).toNat with h|h|h|h|h|h|h|h|h <;> omega
    rw[i.out,hv.out] at hlead;generalize(t.getD 0 0).toNat=x0 at a6 a5 K f8 hlead f9 O;generalize Lib.firstT x0=X at hlead f9 O;have Q:=and7 ⟨X,O⟩;have j1:wr.cell? ⟨2,X/16*2,none⟩=some (.int .u8 (Lib.accLo (X/16))):=by rw[gE];exact(a1.2 (X/16) ω).1
    have j0:wr.cell? ⟨2,X/16*2+1,none⟩=some (.int .u8 (Lib.accHi (X/16))):=by rw[gE];exact(a1.2 (X/16) ω).2
    generalize Lib.accLo (X/16)=LO at j1 hlead;generalize Lib.accHi (X/16)=HI at j0 hlead;have Z:=(t.getD 1 0).toNat_lt;have q2:=(t.getD 2 0).toNat_lt;have q3:=(t.getD 3 0).toNat_lt;clear a1 f5;have q0:X/16<16:=ω
    by_cases s2:X%8=2
    ·as_aux_lemma=>
      have g1:bits .and .u8 (X:Int) 7=2:=by simp only at Q;rw[Q];omega
      simp only[s2,i8,iq,if_true,if_false] at hlead;clear Q;by_cases i6:m<2
      ·have hf:=ac (show f=false by rw[hlead,if_pos (.inl i6)])
       have f7:decide ((m:Int)<2)=true:=decide_eq_true ω;exact tL
      ·have f6:decide ((m:Int)<2)=false:=decide_eq_false ω
       have U:=(j.out.ext hx).all 1 (by rw[i.out];omega);rw[Vb] at U;generalize(t.getD 1 0).toNat=x1 at U hlead Z;by_cases w0:x1<LO
       ·have hf:=ac (show f=false by rw[hlead,if_pos ω])
        exact R5
       ·have a9:decide ((x1:Int)<(LO:Int))=false:=decide_eq_false ω
        have b5:decide (x1<LO)=false:=decide_eq_false ω;by_cases w1:HI<x1
        ·have hf:=ac (show f=false by rw[hlead,if_pos ω])
         exact R6
        ·have a7:decide ((HI:Int)<(x1:Int))=false:=decide_eq_false ω
         have b0:decide (HI<x1)=false:=decide_eq_false ω;have J:=ac (show f=ew (t.drop 2) by rw[hlead,if_neg ω]);obtain⟨A9,m9,e9,l9,W,g9⟩:=tailV j.out i.out 2 ω 2 rfl;replace W:=ac W;clear hlead
         go_wp2_with fail
         go_big_quiet_o (fail)
         go_wp2
         go_roundg g'
         case measure=>omega
         case rel=>exact⟨(hx.alloc _).drewN _,A9,m9,t.drop 2,rfl,l9,W.out,J.out.symm,ω,ω⟩
    by_cases s3:X%8=3
    ·as_aux_lemma=>
      have g1:bits .and .u8 (X:Int) 7=3:=by simp only at Q;rw[Q];omega
      simp only[s3,i8,iq,if_true,if_false] at hlead;clear Q;by_cases i5:m<3
      ·have hf:=ac (show f=false by rw[hlead,if_pos (.inl i5)])
       have f7:decide ((m:Int)<3)=true:=decide_eq_true ω;exact tL
      ·have f6:decide ((m:Int)<3)=false:=decide_eq_false ω
       have U:=(j.out.ext hx).all 1 (by rw[i.out];omega);rw[Vb] at U;have e2:=(j.out.ext hx).all 2 (by rw[i.out];omega);rw[Vb] at e2;generalize(t.getD 1 0).toNat=x1 at U hlead Z;generalize(t.getD 2 0).toNat=x2 at e2 hlead q2;by_cases w0:x1<LO
       ·have hf:=ac (show f=false by rw[hlead,if_pos ω])
        exact R5
       ·have a9:decide ((x1:Int)<(LO:Int))=false:=decide_eq_false ω
        have b5:decide (x1<LO)=false:=decide_eq_false ω;by_cases w1:HI<x1
        ·have hf:=ac (show f=false by rw[hlead,if_pos ω])
         exact R6
        ·have a7:decide ((HI:Int)<(x1:Int))=false:=decide_eq_false ω
         have b0:decide (HI<x1)=false:=decide_eq_false ω;by_cases w2:x2<128
         ·have hf:=ac (show f=false by rw[hlead,if_pos ω])
          have wz:decide ((x2:Int)<(128:Int))=true:=decide_eq_true ω;have wn:decide (x2<128)=true:=decide_eq_true ω;exact tL
         ·have h3:decide ((x2:Int)<(128:Int))=false:=decide_eq_false ω
          have h5:decide (x2<128)=false:=decide_eq_false ω;by_cases w3:191<x2
          ·have hf:=ac (show f=false by rw[hlead,if_pos ω])
           have wz:decide ((191:Int)<(x2:Int))=true:=decide_eq_true ω;have wn:decide (191<x2)=true:=decide_eq_true ω;exact tL
          ·have h2:decide ((191:Int)<(x2:Int))=false:=decide_eq_false ω
           have h4:decide (191<x2)=false:=decide_eq_false ω;have J:=ac (show f=ew (t.drop 3) by rw[hlead,if_neg ω]);obtain⟨A9,m9,e9,l9,W,g9⟩:=tailV j.out i.out 3 ω 3 rfl;replace W:=ac W;clear hlead
           go_wp2_with fail
           go_big_quiet_o (fail)
           go_wp2
           go_roundg g'
           case measure=>omega
           case rel=>exact⟨(hx.alloc _).drewN _,A9,m9,t.drop 3,rfl,l9,W.out,J.out.symm,ω,ω⟩
    by_cases s4:X%8=4
    ·as_aux_lemma=>
      have g1:bits .and .u8 (X:Int) 7=4:=by simp only at Q;rw[Q];omega
      simp only[s4,i8,iq,if_true,if_false] at hlead;clear Q;by_cases i4:m<4
      ·have hf:=ac (show f=false by rw[hlead,if_pos (.inl i4)])
       have f7:decide ((m:Int)<4)=true:=decide_eq_true ω;exact tL
      ·have f6:decide ((m:Int)<4)=false:=decide_eq_false ω
       have U:=(j.out.ext hx).all 1 (by rw[i.out];omega);rw[Vb] at U;have e2:=(j.out.ext hx).all 2 (by rw[i.out];omega);rw[Vb] at e2;have e3:=(j.out.ext hx).all 3 (by rw[i.out];omega);rw[Vb] at e3;generalize(t.getD 1 0).toNat=x1 at U hlead Z;generalize(t.getD 2 0).toNat=x2 at e2 hlead q2;generalize(t.getD 3 0).toNat=x3 at e3 hlead q3;by_cases w0:x1<LO
       ·have hf:=ac (show f=false by rw[hlead,if_pos ω])
        exact R5
       ·have a9:decide ((x1:Int)<(LO:Int))=false:=decide_eq_false ω
        have b5:decide (x1<LO)=false:=decide_eq_false ω;by_cases w1:HI<x1
        ·have hf:=ac (show f=false by rw[hlead,if_pos ω])
         exact R6
        ·have a7:decide ((HI:Int)<(x1:Int))=false:=decide_eq_false ω
         have b0:decide (HI<x1)=false:=decide_eq_false ω;by_cases w2:x2<128
         ·have hf:=ac (show f=false by rw[hlead,if_pos ω])
          have wz:decide ((x2:Int)<(128:Int))=true:=decide_eq_true ω;have wn:decide (x2<128)=true:=decide_eq_true ω;exact tL
         ·have h3:decide ((x2:Int)<(128:Int))=false:=decide_eq_false ω
          have h5:decide (x2<128)=false:=decide_eq_false ω;by_cases w3:191<x2
          ·have hf:=ac (show f=false by rw[hlead,if_pos ω])
           have wz:decide ((191:Int)<(x2:Int))=true:=decide_eq_true ω;have wn:decide (191<x2)=true:=decide_eq_true ω;exact tL
          ·have h2:decide ((191:Int)<(x2:Int))=false:=decide_eq_false ω
           have h4:decide (191<x2)=false:=decide_eq_false ω;by_cases w4:x3<128
           ·have hf:=ac (show f=false by rw[hlead,if_pos ω])
            have wz:decide ((x3:Int)<(128:Int))=true:=decide_eq_true ω;have wn:decide (x3<128)=true:=decide_eq_true ω;exact tL
           ·have k7:decide ((x3:Int)<(128:Int))=false:=decide_eq_false ω
            have l5:decide (x3<128)=false:=decide_eq_false ω;by_cases w5:191<x3
            ·have hf:=ac (show f=false by rw[hlead,if_pos ω])
             have wz:decide ((191:Int)<(x3:Int))=true:=decide_eq_true ω;have wn:decide (191<x3)=true:=decide_eq_true ω;exact tL
            ·have k6:decide ((191:Int)<(x3:Int))=false:=decide_eq_false ω
             have k9:decide (191<x3)=false:=decide_eq_false ω;have J:=ac (show f=ew (t.drop 4) by rw[hlead,if_neg ω]);obtain⟨A9,m9,e9,l9,W,g9⟩:=tailV j.out i.out 4 ω 4 rfl;replace W:=ac W;clear hlead
             go_wp2_with fail
             go_big_quiet_o (fail)
             go_wp2
             go_roundg g'
             case measure=>omega
             case rel=>exact⟨(hx.alloc _).drewN _,A9,m9,t.drop 4,rfl,l9,W.out,J.out.symm,ω,ω⟩
    have hf:=ac (show f=false by rw[hlead];simp only[i8,s2,s3,s4,if_false]);simp only at Q;have j2:X%8<8:=ω
    generalize X%8=SZ at Q s2 s3 s4 j2;have z2:((SZ:Int)==2)=false:=by rw[beq_eq_false_iff_ne];omega
    have z3:((SZ:Int)==3)=false:=by rw[beq_eq_false_iff_ne];omega
    have z4:((SZ:Int)==4)=false:=by rw[beq_eq_false_iff_ne];omega
    clear hlead;go_wp2
    all_goals(go_ret;exact⟨kE (a:=false) hf.out.symm,hx.alloc _⟩)
  ·have f4:t=[]:=List.eq_nil_of_length_eq_zero (by rw[i.out];omega)
   rw[f4,Lib.validD_nil] at hv;have i2:=hv.out;subst i2;clear f4;go_wp2;go_ret;exact⟨rfl,hx⟩
end Go.Proofs.YtncfhbpejchbfaaGreatDoor

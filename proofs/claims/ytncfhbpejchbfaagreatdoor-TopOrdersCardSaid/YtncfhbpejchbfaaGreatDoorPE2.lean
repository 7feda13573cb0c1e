/-
  Two replicas write, and tell each other: the example at the head of the whole's laws; no claim stands here.
-/
import Derived.Test.YtncfhbpejchbfaaGreatDoorPB2
set_option linter.unusedVariables false
set_option linter.unusedSimpArgs false
set_option maxRecDepth 100000
set_option maxHeartbeats 16000000
open Array renaming getElem?_eq_some_iff→an
open Go.Lib renaming hid→ac
open Go.World.grownBy renaming size→cN
open Nat renaming le_trans→az,lt_of_lt_of_le→aV
open Go.Proofs.Tryz
open Go.Proofs.Tryz renaming prog→pg
namespace Go.Proofs.YtncfhbpejchbfaaGreatDoor
open Go.ChangeShapes Go.WideShapes Go.ChangeAt Go.RowKit Go.Sort
attribute [local go_sem] World.cell?_alloc_some
def uA0:DS:=newS 1 100
def uB0:DS:=newS 2 100
def uA1:DS:=yD uA0 0 [97,98]
def uB1:DS:=yD uB0 0 [120,121]
def uAr:List Rn:=ko (l6 uA1 uB1.V)
def uBr:List Rn:=ko (l6 uB1 uA1.V)
def uAb:List UInt8:=nN uAr uA1.D
def uBb:List UInt8:=nN uBr uB1.D
def uA2:DS:=mG uA1 uBb
def uB2:DS:=mG uB1 uAb
theorem acW:uz uA0 0:=uz.new (LA ω ω ω ω)
theorem acV:uz uB0 0:=uz.new (LA ω ω ω ω)
theorem aaP:textE uA2.E=⟨#[97,98,120,121]⟩:=by decide+kernel
theorem aaO:textE uB2.E=⟨#[97,98,120,121]⟩:=by decide+kernel
theorem adu:uAr=[⟨1,0,0,0,0,0,[97,98]⟩]:=κ
theorem adt:uBr=[⟨2,0,0,0,0,0,[120,121]⟩]:=κ
theorem ag2:uA1.D=[]:=κ
theorem ag1:uB1.D=[]:=κ
theorem KL:uAb.length=14:=κ
theorem KJ:uBb.length=14:=κ
theorem afl {c:Int} {t:List UInt8} (i:0<=c) (f:c<=4294967295) (e:t.length<=4):∀r∈[(⟨c,0,0,0,0,0,t⟩:Rn)],wfR r/\r.t.length<=20000:=by
 intro r a;rw[List.mem_singleton] at a;subst a;exact⟨by unfold wfR;simp;omega,by show t.length<=20000;omega⟩
theorem FE:uz uA1 1:=acW.ins 0 [97,98] ι
theorem FD:uz uB1 1:=acV.ins 0 [120,121] ι
theorem XP {S:DS} {v:List I2} {rs:List Rn} {b:List UInt8} (j:ko (l6 S v)=rs) (H:S.D=[]) (f:nN rs S.D=b) (hm:wR rs S.D=true) (M:∀r∈rs,wfR r/\r.t.length<=20000) (hn:rs.length<=100) (u:b.length<=100) (hN:(l6 S v).length<=100) (i:jB 0 v=true) {k:Nat} (hi:uz S k) (hk:k<=20):
  (∀{R:Nat->Prop} {W:World} {d:Nat} {q:DM} (h:kV R W d S q) (A:Option Addr) (n cap:Nat) (hv:Vec W A v) (hn:v.length=n),n<=1000->Calls pg 15 #[.pointer (some ⟨d,0,none⟩),.slice A n cap] W λe W'=>∃z,e= .returned z/\acO W' rs [] z/\Ext W W')/\
  ∀{W:World} {z:Value},Tabs W->acO W rs [] z->Calls pg 7 #[z] W λe W'=>∃A c,e= .returned (.tuple #[.slice A b.length c,.nilIface])/\b.length<=c/\Bys W' A b/\rZ W.heap.size A/\Ext W W':=by
 obtain⟨h1,h2,h3,_,h5,h6⟩:=hi.few ω;subst j;refine⟨λh A n cap hv hn u=>?_,λZ J=>?_⟩
 ·have:=Qn h hi.ok ω (by rw[H];simp) ω A n cap hv hn i ω
  rw[H] at this;exact this
 ·obtain⟨A,c,B,d,rfl,U,Q,O,N⟩:=J
  rw[H] at f hm;refine(Gg A _ c B _ d _ [] _ Z U rfl O rfl M (λx K=>by cases K) ι ω (by rw[f];omega)).mono ?_;rw[hm,f];rintro e W' ⟨v,rfl,I,x⟩;obtain⟨A',c',rfl,X,u⟩:=I.open;exact⟨A',c',rfl,X,u,λa Y=>I.lt a.block (by rw[Y];rfl),x⟩
theorem XD (w:World) (hE:wJ w) (hT:Tabs w):Calls pg 4 #[] w λe w'=>e= .returned (.bool true)/\Ext w w':=by
 have I:=ac (λW=>BH 1 100 W ω ω);have a6:=ac (λW=>BH 2 100 W ω ω);go_enter func4,ntmps4
 go_wp2_with fail
 refine(I.out w).mono ?_;rintro e w1 ⟨rfl,b1,x1⟩;obtain⟨H,b3⟩:∃d,w.heap.size=d:=⟨_,rfl⟩;rw[b3] at b1⊢;have a7:=(an.1 b1).1
 go_wp2_with fail
 refine(a6.out w1).mono ?_;rintro e w2 ⟨rfl,b2,x2⟩;obtain⟨d2,b0⟩:∃d,w1.heap.size=d:=⟨_,rfl⟩;rw[b0] at b2 a7⊢;have a0:=(an.1 b2).1;have u:uD H d2 w2 H uA0:=⟨_,(Fe (w:=w) b1 ω ⟨Nat.le_refl _,ω⟩).ext x2⟩;have q:uD H H w2 d2 uB0:=⟨_,Fe (w:=w1) b2 ω ⟨ω,ω⟩⟩;have j:=x1.trans x2;have a2:H<=w2.heap.size:=ω
 clear b1 b2 x1 x2 I a6;have h3:=ac (afy u a2 a0 (hE.ext j) (hT.ext j) acW ω 0 ω [97,98] ι);replace q:=ac q;clear u
 go_wp2_with fail
 refine h3.out.mono ?_;rintro e w3 ⟨v,rfl,u,rx⟩;replace u:uD H d2 w3 H uA1:=u;replace q:=q.out.off rx;replace j:=RX.down j ω rx;have a1:=az a2 (cN rx);have e1:=aV a7 (az (Nat.le_of_lt a0) (cN rx));have d5:=aV a0 (cN rx);clear rx h3 a2 a0;have h4:=ac (afy q a1 ω (hE.ext j) (hT.ext j) acV ω 0 ω [120,121] ι);replace u:=ac u;clear q
 go_wp2_with fail
 refine h4.out.mono ?_;rintro e w4 ⟨v',rfl,q,rx⟩;replace q:uD H H w4 d2 uB1:=q;replace u:=u.out.off rx;replace j:=RX.down j ω rx;have f:=az a1 (cN rx);have i:=aV d5 (cN rx);clear rx h4 a1 e1 d5;have XO:=XP (v:=uB1.V) (rs:=uAr) (b:=uAb) rfl ag2 rfl (by decide+kernel) (by rw[adu];exact afl ω ω ι) (of_decide_eq_true κ) (by rw[KL];omega) (of_decide_eq_true κ) FD.ok.yB FE ω;have XM:=XP (v:=uA1.V) (rs:=uBr) (b:=uBb) rfl ag1 rfl (by decide+kernel) (by rw[adt];exact afl ω ω ι) (of_decide_eq_true κ) (by rw[KJ];omega) (of_decide_eq_true κ) FE.ok.yB FD ω;obtain⟨qB,Y⟩:=q;have h5:=ac (uE Y (by have:=(FD.few ω).2.2.1;omega));have X:=ac u;have U:=ac Y;clear u Y
 go_wp2_with fail
 refine h5.out.mono ?_;rintro e w5 ⟨A,n,c,rfl,hn,hv,x5,_,_⟩;obtain⟨qA,Z⟩:=X.out.ext x5;have Q:=ac (U.out.ext x5);have I:n<=1000:=by rw[<-hn];exact of_decide_eq_true κ
 have h6:=ac (XO.1 Z A n c hv hn I);replace j:=j.trans x5;replace f:=az f x5.size;replace i:=aV i x5.size;have N:=ac Z;clear h5 X U Z hv hn x5
 go_wp2_with fail
 refine h6.out.mono ?_;rintro e w6 ⟨z,rfl,hz,x6⟩;replace j:=j.trans x6;have h7:=ac (XO.2 (hT.ext j) hz);have O:=ac (Q.out.ext x6);have M:=ac (N.out.ext x6);replace f:=az f x6.size;replace i:=aV i x6.size;clear h6 hz x6 Q N
 go_wp2_with fail
 refine h7.out.mono ?_;rintro e w7 ⟨AA,cA,rfl,b5,b7,d6,J⟩;have a9:∀a,AA=some a->a.block≠H:=λa ha=>by have:=d6 a ha;omega
 replace j:=j.trans J;have u:uD H d2 w7 H uA1:=⟨qA,M.out.ext J⟩;have q:uD H H w7 d2 uB1:=⟨qB,O.out.ext J⟩;replace f:=az f J.size;replace i:=aV i J.size;have K:=ac b7;clear h7 O M b7;obtain⟨qA,Z⟩:=u;have h5:=ac (uE Z (by have:=(FE.few ω).2.2.1;omega));have X:=ac q;have U:=ac Z;clear q Z
 go_wp2_with fail
 refine h5.out.mono ?_;rintro e w8 ⟨A,n,c,rfl,hn,hv,x5,_,_⟩;obtain⟨qB,Y⟩:=X.out.ext x5;have Q:=ac (U.out.ext x5);have I:n<=1000:=by rw[<-hn];exact of_decide_eq_true κ
 have h6:=ac (XM.1 Y A n c hv hn I);replace j:=j.trans x5;replace f:=az f x5.size;replace i:=aV i x5.size;have N:=ac Y;have d3:=ac (K.out.ext x5);clear h5 X U Y hv hn x5 K
 go_wp2_with fail
 refine h6.out.mono ?_;rintro e w9 ⟨z,rfl,hz,x6⟩;replace j:=j.trans x6;have h7:=ac (XM.2 (hT.ext j) hz);have O:=ac (Q.out.ext x6);have M:=ac (N.out.ext x6);replace f:=az f x6.size;replace i:=aV i x6.size;have d4:=ac (d3.out.ext x6);clear h6 hz x6 Q N d3
 go_wp2_with fail
 refine h7.out.mono ?_;rintro e a5 ⟨AB,cB,rfl,b4,b6,e2,J⟩;replace j:=j.trans J;have q:uD H H a5 d2 uB1:=⟨qB,M.out.ext J⟩;have u:uD H d2 a5 H uA1:=⟨qA,O.out.ext J⟩;replace f:=az f J.size;replace i:=aV i J.size;have a8:=ac b6;have K:=ac (d4.out.ext J);clear d4;clear h7 O M b6;have h8:=ac (agK u f i (hE.ext j) (hT.ext j) FE ω AB uBb.length cB uBb a8.out rfl b4 (by rw[KJ];omega));replace q:=ac q;clear u
 go_wp2_with fail
 refine h8.out.mono ?_;rintro e e0 ⟨v,rfl,u,rx⟩;replace u:uD H d2 e0 H uA2:=u;replace q:=q.out.off rx;have d7:=Row.rx K.out rx a9;replace j:=RX.down j ω rx;replace f:=az f (cN rx);replace i:=aV i (cN rx);have h9:=ac (agK q f ω (hE.ext j) (hT.ext j) FD ω AA uAb.length cA uAb d7 rfl b5 (by rw[KL];omega));replace u:=ac u;clear rx q h8 K d7 a8
 go_wp2_with fail
 refine h9.out.mono ?_;rintro e a4 ⟨v',rfl,q,rx⟩;replace q:uD H H a4 d2 uB2:=q;replace u:=u.out.off rx;replace j:=RX.down j ω rx;obtain⟨qa,Z⟩:=u;obtain⟨qb,Y⟩:=q;have b9:=ac (Bj Z (by have:=((FE.app uBb (by rw[KJ];omega)).few ω).1;show uA2.L.length<=300000;unfold uA2;omega));have b8:=ac (λ(W:World) (x:Ext a4 W)=>Bj (Y.ext x) (by have:=((FD.app uAb (by rw[KL];omega)).few ω).1;show uB2.L.length<=300000;unfold uB2;omega));rw[aaP] at b9;rw[aaO] at b8;clear rx h9 Z Y b5 b4 a9 d6 e2 f i XO XM b3 b0
 go_wp2_with fail
 refine b9.out.mono ?_;rintro e e4 ⟨rfl,a3⟩
 go_wp2_with fail
 refine(b8.out _ a3).mono ?_;rintro e e3 ⟨rfl,d9⟩;go_wp2;go_ret;exact⟨rfl,(j.trans a3).trans d9⟩
end Go.Proofs.YtncfhbpejchbfaaGreatDoor

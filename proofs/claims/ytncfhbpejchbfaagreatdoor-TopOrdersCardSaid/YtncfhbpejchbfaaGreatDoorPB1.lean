/-
  Lemmas of this seat; no claim.
-/
import Derived.Test.YtncfhbpejchbfaaGreatDoorBMayP
import Derived.Test.YtncfhbpejchbfaaGreatDoorPW1
import Derived.Test.YtncfhbpejchbfaaGreatDoorPRf1
import Derived.Test.YtncfhbpejchbfaaGreatDoorPN1
set_option linter.unusedVariables false
set_option linter.unusedSimpArgs false
set_option maxRecDepth 100000
set_option maxHeartbeats 16000000
open Array renaming getElem?_eq_some_iff→an
open Bool renaming false_and→et,true_and→fi
open Go renaming Calls→aO,Value→au,World→ae,bodyPost_ret→aB,cell_of_row→aj,cell_regrown→ai,frozen_of_row→aw,heap_alloc_new→aI,heap_setCell_other→aQ,heap_setCell_same→al,results→cg,wpQuiet_nil→bh,wp_region_quiet_below→ax
open Go.IntKind renaming i64→cJ,u32→ak
open Go.IntWalk renaming i64_in→bP,u32_in→fh
open Go.Lib renaming hid→ac
open Go.Obj renaming cells→aT
open Go.RowKit.Below renaming block→av,cell→fx,refl→ik
open Go.World renaming cell?_alloc_some→ah
open Go.World.ownsRow renaming kept→eY
open List renaming all_cons→fR,drop_succ_cons→bU,drop_zero→cH,length_append→ag,length_cons→ar,length_nil→aG,mem_of_getElem?→aD
open Nat renaming eq_zero_or_pos→dE,le_refl→am,le_trans→az,lt_of_lt_of_le→aV,zero_add→aW
open Option.some renaming injEq→aL
open Prod.mk renaming injEq→bg
open Go.Proofs.Tryz
open Go.Proofs.Tryz renaming prog→pg
namespace Go.Proofs.YtncfhbpejchbfaaGreatDoor
open Go.ChangeShapes Go.WideShapes Go.ChangeAt Go.RowKit Go.Sort
section
attribute [local go_sem] ah
section
def jW (l:List UInt8) (s:Nat×Bool):Nat×Nat×Bool:=match oQ l s.1 with
 |none=>(0,s.1,true)
 |some (v,k)=>(v,s.1+k,s.2)
def uS (l:List UInt8) (s:Nat×Bool):List UInt8×Nat×Bool:=match xK l s.1 with
 |none=>([],s.1,true)
 |some (t,k)=>(t,s.1+k,s.2)
def idS (l:List UInt8) (s:Nat×Bool):(Nat×Nat)×Nat×Bool:=(((jW l s).1,(jW l (jW l s).2).1),(jW l (jW l s).2).2)
def oC (l:List UInt8) (s:Nat×Bool):Sp×Nat×Bool:=(((jW l s).1,(jW l (jW l s).2).1,(jW l (jW l (jW l s).2).2).1),(jW l (jW l (jW l s).2).2).2)
def uU (l:List UInt8) (s:Nat×Bool):Rn×Nat×Bool:=
 (⟨(idS l s).1.1,(idS l s).1.2,(idS l (idS l s).2).1.1,(idS l (idS l s).2).1.2,(idS l (idS l (idS l s).2).2).1.1,(idS l (idS l (idS l s).2).2).1.2,(uS l (idS l (idS l (idS l s).2).2).2).1⟩,(uS l (idS l (idS l (idS l s).2).2).2).2)
theorem sG (l:List UInt8) (s:Nat×Bool) (h:s.1<=l.length):(jW l s).2.1<=l.length/\(jW l s).1<4294967296:=by
 unfold jW;cases a:oQ l s.1 with
 |none=>exact⟨h,ι⟩
 |some x=>
  obtain⟨v,k⟩:=x;have:=zx a;have e:=(sM a).2.2.2.2;exact⟨by simp only;omega,e⟩
theorem aaR (l:List UInt8) (s:Nat×Bool) (h:s.1<=l.length):(uS l s).2.1<=l.length:=by
 unfold uS;cases a:xK l s.1 with
 |none=>exact h
 |some x=>
  obtain⟨t,k⟩:=x;exact(AJ h a).1
theorem Q8 (l:List UInt8) (s:Nat×Bool) (h:s.1<=l.length):(idS l s).2.1<=l.length:=(sG l _ (sG l s h).1).1
def RdS (W:ae) (p:Nat) (A:Option Addr) (n c:Nat) (s:Nat×Bool):Prop:=W.heap[p]? =some (.cells #[.slice A n c,Vi s.1,.bool s.2] 148 (0,0))
theorem RdS.ext {W W':ae} {p:Nat} {A:Option Addr} {n c:Nat} {s:Nat×Bool} (h:RdS W p A n c s) (a:Ext W W'):RdS W' p A n c s:=by
 unfold RdS at h⊢;rw[av a p (an.1 h).1];exact h
theorem RdS.lt {W:ae} {p:Nat} {A:Option Addr} {n c:Nat} {s:Nat×Bool} (h:RdS W p A n c s):p<W.heap.size:=(an.1 h).1
theorem RdS.cells {W:ae} {p:Nat} {A:Option Addr} {n c:Nat} {s:Nat×Bool} (h:RdS W p A n c s):
  W.cell? ⟨p,0,none⟩=some (.slice A n c)/\W.cell? ⟨p,1,none⟩=some (Vi s.1)/\W.cell? ⟨p,2,none⟩=some (.bool s.2)/\W.frozen? ⟨p,1,none⟩=false/\W.frozen? ⟨p,2,none⟩=false:=
 ⟨by rw[aj W p 0 _ _ _ h];rfl,by rw[aj W p 1 _ _ _ h];rfl,by rw[aj W p 2 _ _ _ h];rfl,aw W p 1 _ _ h,aw W p 2 _ _ h⟩
theorem RdS.set {W:ae} {p:Nat} {A:Option Addr} {n c:Nat} {s:Nat×Bool} (h:RdS W p A n c s) (a:Nat) (b:Bool):RdS ((W.setCell ⟨p,1,none⟩ (Vi a)).setCell ⟨p,2,none⟩ (.bool b)) p A n c (a,b):=
 al _ _ 2 _ _ _ (al _ _ 1 _ _ _ h)
theorem M0 {p:Prop} (h:p:=by
 go_enter func129,ntmps129;go_wp2;exact bodyPost_end (v:= .tuple #[]) (by simp[cg,results129,go_sem]) rfl ⟨rfl,hst.out,hrx.out⟩):p:=h
theorem abl (W:ae) (p:Nat) (A:Option Addr) (n c at':Nat) (b:Bool) (k:Nat) (a:RdS W p A n c (at',b)) (h:at'<=40000000) (i:k<=40000000):
  aO pg 129 #[.pointer (some ⟨p,0,none⟩),Vi k,.nilIface] W λe w'=>e= .returned (.tuple #[])/\RdS w' p A n c (at'+k,b)/\RX p W w':=by
 obtain⟨_,c1,c2,q,j⟩:=a.cells;have f:cJ.wrap ((at':Int)+(k:Int))=((at'+k:Nat):Int):=by rw[bP _ ω];omega
 have hst:=ac (a.set (at'+k) b);have hrx:RX p W ((W.setCell ⟨p,1,none⟩ (Vi ((at'+k:Nat):Int))).setCell ⟨p,2,none⟩ (.bool b)):=((RX.refl p W).set 1 _ (.inr rfl)).set 2 _ (.inr rfl);replace hrx:=ac hrx;simp only at c1 c2;clear a;cases b with
 |true=>
  exact M0
 |false=>
  exact M0
theorem YA (W:ae) (p:Nat) (A:Option Addr) (n c at':Nat) (b:Bool) (a:RdS W p A n c (at',b)) (h:at'<=40000000):
  aO pg 129 #[.pointer (some ⟨p,0,none⟩),Vi 0,Ie] W λe w'=>e= .returned (.tuple #[])/\RdS w' p A n c (at',true)/\RX p W w':=by
 obtain⟨_,c1,c2,j,i⟩:=a.cells;have f:cJ.wrap (at':Int)=(at':Int):=bP _ ω;have hst:=ac (a.set at' true);have hrx:RX p W ((W.setCell ⟨p,1,none⟩ (Vi (at':Int))).setCell ⟨p,2,none⟩ (.bool true)):=((RX.refl p W).set 1 _ (.inr rfl)).set 2 _ (.inr rfl);replace hrx:=ac hrx;simp only at c1 c2;clear a;cases b with
 |true=>
  exact M0
 |false=>
  exact M0
section
variable {w0 W:ae} {p:Nat} {A:Option Addr} {n c:Nat} {l:List UInt8} {s:Nat×Bool}
theorem aav {p:Prop} (h:p:=by
 go_wp2_with fail
 refine ax κ κ ?_
 repeat go_big_quiet_step((with_reducible exact Calls.jA (hget.out _ (Ext.jv _ _ _))))
 refine bh ?_;intro _ hw';obtain⟨⟨dq,osq⟩,hw''⟩:=hw';subst hw'';have hs2:=hs'.out.ext (Ext.jv W dq osq);have hx2:=RX.ext (p:=p) (Ext.jv W dq osq);clear c0 c1;generalize grow (redrawn W dq) osq=W2 at*
 go_wp2_with fail
 refine(abl W2 p A n c at' b k hs2 ω ω).mono ?_;rintro e w3 ⟨rfl,s3,x3⟩;go_wp2;go_ret;exact⟨rfl,s3,hx2.trans x3⟩):p:=h
theorem aau {p:Prop} (h:p:=by
 go_wp2_with fail
 refine ax κ κ ?_
 repeat go_big_quiet_step((with_reducible exact Calls.jA (hget.out _ (Ext.jv _ _ _))))
 refine bh ?_;intro _ hw';obtain⟨⟨dq,osq⟩,hw''⟩:=hw';subst hw'';have hs2:=hs'.out.ext (Ext.jv W dq osq);have hx2:=RX.ext (p:=p) (Ext.jv W dq osq);clear c0 c1;generalize grow (redrawn W dq) osq=W2 at*
 go_wp2_with fail
 refine(YA W2 p A n c at' b hs2 ω).mono ?_;rintro e w3 ⟨rfl,s3,x3⟩;go_wp2;go_ret;exact⟨rfl,s3,hx2.trans x3⟩):p:=h
theorem sJ (z:Ext w0 W) (M:w0.heap.size<=p) (J:Bys w0 A l) (H:l.length=n) (I:n<=c) (hn:n<=12000000) (j:RdS W p A n c s) (i:s.1<=n):
  aO pg 95 #[.pointer (some ⟨p,0,none⟩)] W λe w'=>e= .returned (Vu (jW l s).1)/\RdS w' p A n c (jW l s).2/\RX p W w':=by
 have hget:=ac (λW' (K:Ext W W')=>MH A n c l s.1 W' (J.ext (z.trans K)) H I hn);obtain⟨d0,q,_,_,_⟩:=j.cells;have c0:=ai d0;have c1:=ai q;clear d0 q;have hs':=ac j;obtain⟨at',b⟩:=s;simp only at i hget c1;cases a:oQ l at' with
 |none=>
  rw[a] at hget;simp only[H6] at hget;have f:jW l (at',b)=(0,at',true):=by simp only[jW,a]
  rw[f];clear a f;go_enter func95,ntmps95;exact aau
 |some u=>
  obtain⟨v,k⟩:=u;have N:=zx a;rw[a] at hget;simp only[H6] at hget;have f:jW l (at',b)=(v,at'+k,b):=by simp only[jW,a]
  rw[f];clear a f;go_enter func95,ntmps95;exact aav
theorem U0 (j:Ext w0 W) (N:w0.heap.size<=p) (K:Bys w0 A l) (I:l.length=n) (J:n<=c) (hn:n<=12000000) (M:Tabs w0) (q:RdS W p A n c s) (i:s.1<=n):
  aO pg 131 #[.pointer (some ⟨p,0,none⟩)] W λe w'=>e= .returned (Vt (uS l s).1)/\RdS w' p A n c (uS l s).2/\RX p W w':=by
 have hget:=ac (λW' (u:Ext W W')=>Po A n c l s.1 W' (K.ext (j.trans u)) I J hn (M.ext (j.trans u)));obtain⟨d0,z,_,_,_⟩:=q.cells;have c0:=ai d0;have c1:=ai z;clear d0 z;have hs':=ac q;obtain⟨at',b⟩:=s;simp only at i hget c1;cases a:xK l at' with
 |none=>
  rw[a] at hget;simp only[qx] at hget;have f:uS l (at',b)=([],at',true):=by simp only[uS,a]
  rw[f];clear a f;go_enter func131,ntmps131;exact aau
 |some H=>
  obtain⟨v,k⟩:=H;have O:=(AJ (l:=l) (p:=at') ω a).1;rw[a] at hget;simp only[qx] at hget;have f:uS l (at',b)=(v,at'+k,b):=by simp only[uS,a]
  rw[f];clear a f;go_enter func131,ntmps131;exact aav
theorem yO {W:ae} {q:Nat} {x y:au} {t:TypeId} (h:W.heap[q]? =some (.cells #[x,y] t (0,0))):W.cell? ⟨q,0,none⟩=some x/\W.cell? ⟨q,1,none⟩=some y/\W.frozen? ⟨q,0,none⟩=false/\W.frozen? ⟨q,1,none⟩=false:=
 ⟨by rw[aj W q 0 _ _ _ h];rfl,by rw[aj W q 1 _ _ _ h];rfl,aw W q 0 _ _ h,aw W q 1 _ _ h⟩
theorem Gf (U:Ext w0 W) (hp:w0.heap.size<=p) (hb:Bys w0 A l) (K:l.length=n) (hc:n<=c) (hn:n<=12000000) (X:RdS W p A n c s) (J:s.1<=n):
  aO pg 130 #[.pointer (some ⟨p,0,none⟩)] W λe w'=>e= .returned (idv (idS l s).1.1 (idS l s).1.2)/\RdS w' p A n c (idS l s).2/\RX p W w':=by
 have a3:=X.lt;have a0:(W.alloc (.cells #[.int .u32 0,.int .u32 0] 38)).heap[W.heap.size]? =some (.cells #[.int .u32 0,.int .u32 0] 38 (0,0)):=aI _ _;have i:Ext W (W.alloc (.cells #[.int .u32 0,.int .u32 0] 38)):=(Ext.refl _).alloc _;have u:=X.ext i;have h1:=sG l s (by rw[K];exact J);have h2:=sG l _ h1.1;have I:=ac (sJ (U.trans i) hp hb K hc hn u J);have H:=ac (λ(W':ae) (hX:Ext w0 W') (hS:RdS W' p A n c (jW l s).2)=>sJ hX hp hb K hc hn hS (by rw[<-K];exact h1.1));have f:idS l s=(((jW l s).1,(jW l (jW l s).2).1),(jW l (jW l s).2).2):=rfl;rw[f];clear f X u h1 h2;generalize jW l (jW l s).2=r2 at*;generalize jW l s=r1 at*;obtain⟨N,s1⟩:=r1;obtain⟨M,s2⟩:=r2;simp only at I H⊢;have a:W.heap.size≠p:=ω
 have a2:∃q,q=W.heap.size:=⟨_,rfl⟩;go_enter func130,ntmps130
 go_wp2_with fail
 refine I.out.mono ?_;rintro e w1 ⟨rfl,O,x1⟩;have a1:=(U.trans i).trans (Ext.refl _);have Q:Ext w0 w1:=RX.down (U.trans i) hp x1;have Z:=x1.blk a0 a
 go_wp2_with fail
 refine(H.out w1 Q O).mono ?_;rintro e w2 ⟨rfl,j,x2⟩;have z:=x2.blk Z a;obtain⟨g0,g1,f0,f1⟩:=yO z;go_wp2;have Y:=al _ _ 1 _ _ (Vu M) (al _ _ 0 _ _ (Vu N) z);obtain⟨z0,z1,_,_⟩:=yO (x:=Vu N) (y:=Vu M) Y;refine aB (v:=idv N M) (by simp[cg,results130,go_sem,z0,z1]) rfl ⟨rfl,?_,((((RX.ext i).trans x1).trans x2).set 0 _ (.inl (am _))).set 1 _ (.inl (am _))⟩;unfold RdS at j⊢;rw[aQ _ _ _ _ (λe=>a e.symm),aQ _ _ _ _ (λe=>a e.symm)];exact j
end
end
section
section
variable {w0 W:ae} {p:Nat} {A:Option Addr} {n c:Nat} {l:List UInt8} {s:Nat×Bool}
theorem agv {W:ae} {q:Nat} {x y z:au} {t:TypeId} (h:W.heap[q]? =some (.cells #[x,y,z] t (0,0))):(W.cell? ⟨q,0,none⟩=some x/\W.cell? ⟨q,1,none⟩=some y/\W.cell? ⟨q,2,none⟩=some z)/\W.frozen? ⟨q,0,none⟩=false/\W.frozen? ⟨q,1,none⟩=false/\W.frozen? ⟨q,2,none⟩=false:=
 ⟨⟨by rw[aj W q 0 _ _ _ h];rfl,by rw[aj W q 1 _ _ _ h];rfl,by rw[aj W q 2 _ _ _ h];rfl⟩,aw W q 0 _ _ h,aw W q 1 _ _ h,aw W q 2 _ _ h⟩
theorem agu {W:ae} {q:Nat} {x0 x1 x2 x3 x4 x5 x6:au} {t:TypeId} (h:W.heap[q]? =some (.cells #[x0,x1,x2,x3,x4,x5,x6] t (0,0))):
  (W.cell? ⟨q,0,none⟩=some x0/\W.cell? ⟨q,1,none⟩=some x1/\W.cell? ⟨q,2,none⟩=some x2/\W.cell? ⟨q,3,none⟩=some x3/\W.cell? ⟨q,4,none⟩=some x4/\W.cell? ⟨q,5,none⟩=some x5/\W.cell? ⟨q,6,none⟩=some x6)/\
  W.frozen? ⟨q,0,none⟩=false/\W.frozen? ⟨q,1,none⟩=false/\W.frozen? ⟨q,2,none⟩=false/\W.frozen? ⟨q,3,none⟩=false/\W.frozen? ⟨q,4,none⟩=false/\W.frozen? ⟨q,5,none⟩=false/\W.frozen? ⟨q,6,none⟩=false:=
 ⟨⟨by rw[aj W q 0 _ _ _ h];rfl,by rw[aj W q 1 _ _ _ h];rfl,by rw[aj W q 2 _ _ _ h];rfl,by rw[aj W q 3 _ _ _ h];rfl,by rw[aj W q 4 _ _ _ h];rfl,by rw[aj W q 5 _ _ _ h];rfl,by rw[aj W q 6 _ _ _ h];rfl⟩,
   aw W q 0 _ _ h,aw W q 1 _ _ h,aw W q 2 _ _ h,aw W q 3 _ _ h,aw W q 4 _ _ h,aw W q 5 _ _ h,aw W q 6 _ _ h⟩
theorem Qy (hx:Ext w0 W) (I:w0.heap.size<=p) (hb:Bys w0 A l) (i:l.length=n) (hc:n<=c) (hn:n<=12000000) (hs:RdS W p A n c s) (N:s.1<=n):
  aO pg 97 #[.pointer (some ⟨p,0,none⟩)] W λe w'=>e= .returned (spv (oC l s).1.1 (oC l s).1.2.1 (oC l s).1.2.2)/\RdS w' p A n c (oC l s).2/\RX p W w':=by
 have a5:=hs.lt;have a4:(W.alloc (.cells #[.int .u32 0,.int .u32 0,.int .u32 0] 74)).heap[W.heap.size]? =some (.cells #[.int .u32 0,.int .u32 0,.int .u32 0] 74 (0,0)):=aI _ _;have O:Ext W (W.alloc (.cells #[.int .u32 0,.int .u32 0,.int .u32 0] 74)):=(Ext.refl _).alloc _;have u:=hs.ext O;have h1:=sG l s (by rw[i];exact N);have h2:=sG l _ h1.1;have M:=ac (sJ (hx.trans O) I hb i hc hn u N);have K:=ac (λ(W':ae) (hX:Ext w0 W') (hS:RdS W' p A n c (jW l s).2)=>sJ hX I hb i hc hn hS (by rw[<-i];exact h1.1));have J:=ac (λ(W':ae) (hX:Ext w0 W') (hS:RdS W' p A n c (jW l (jW l s).2).2)=>sJ hX I hb i hc hn hS (by rw[<-i];exact h2.1));have f:oC l s=(((((jW l s).1:Nat):Int),(((jW l (jW l s).2).1:Nat):Int),(((jW l (jW l (jW l s).2).2).1:Nat):Int)),(jW l (jW l (jW l s).2).2).2):=rfl;rw[f];clear f hs u h1 h2;generalize jW l (jW l (jW l s).2).2=r3 at*;generalize jW l (jW l s).2=r2 at*;generalize jW l s=r1 at*;obtain⟨X,s1⟩:=r1;obtain⟨U,s2⟩:=r2;obtain⟨Q,s3⟩:=r3;simp only at M K J⊢;have a:W.heap.size≠p:=ω
 go_enter func97,ntmps97
 go_wp2_with fail
 refine M.out.mono ?_;rintro e w1 ⟨rfl,Z,x1⟩;have q:Ext w0 w1:=RX.down (hx.trans O) I x1;have a3:=x1.blk a4 a
 go_wp2_with fail
 refine(K.out w1 q Z).mono ?_;rintro e w2 ⟨rfl,Y,x2⟩;have a0:Ext w0 w2:=RX.down q I x2;have a2:=x2.blk a3 a
 go_wp2_with fail
 refine(J.out w2 a0 Y).mono ?_;rintro e w3 ⟨rfl,j,x3⟩;have H:=x3.blk a2 a;obtain⟨⟨g0,g1,g2⟩,f0,f1,f2⟩:=agv H;go_wp2;have a1:=al _ _ 2 _ _ (Vu Q) (al _ _ 1 _ _ (Vu U) (al _ _ 0 _ _ (Vu X) H));obtain⟨⟨z0,z1,z2⟩,_⟩:=agv (x:=Vu X) (y:=Vu U) (z:=Vu Q) a1;refine aB (v:=spv X U Q) (by simp[cg,results97,go_sem,z0,z1,z2]) rfl ⟨rfl,?_,((((((RX.ext O).trans x1).trans x2).trans x3).set 0 _ (.inl (am _))).set 1 _ (.inl (am _))).set 2 _ (.inl (am _))⟩;unfold RdS at j⊢;rw[aQ _ _ _ _ (λe=>a e.symm),aQ _ _ _ _ (λe=>a e.symm),aQ _ _ _ _ (λe=>a e.symm)];exact j
theorem U1 (hx:Ext w0 W) (j:w0.heap.size<=p) (Y:Bys w0 A l) (f:l.length=n) (X:n<=c) (hn:n<=12000000) (hT:Tabs w0) (hs:RdS W p A n c s) (O:s.1<=n):
  aO pg 96 #[.pointer (some ⟨p,0,none⟩)] W λe w'=>e= .returned (rnv (uU l s).1)/\RdS w' p A n c (uU l s).2/\RX p W w':=by
 have b5:=hs.lt;have b4:(W.alloc (.cells #[.int .u32 0,.int .u32 0,.int .u32 0,.int .u32 0,.int .u32 0,.int .u32 0,.string ⟨#[]⟩] 40)).heap[W.heap.size]? =some (.cells #[.int .u32 0,.int .u32 0,.int .u32 0,.int .u32 0,.int .u32 0,.int .u32 0,.string ⟨#[]⟩] 40 (0,0)):=aI _ _;have U:Ext W (W.alloc (.cells #[.int .u32 0,.int .u32 0,.int .u32 0,.int .u32 0,.int .u32 0,.int .u32 0,.string ⟨#[]⟩] 40)):=(Ext.refl _).alloc _;have H:=hs.ext U;have h1:=Q8 l s (by rw[f];exact O);have h2:=Q8 l _ h1;have h3:=Q8 l _ h2;have N:=ac (Gf (hx.trans U) j Y f X hn H O);have M:=ac (λ(W':ae) (Q:Ext w0 W') (hS:RdS W' p A n c (idS l s).2)=>Gf Q j Y f X hn hS (by rw[<-f];exact h1));have K:=ac (λ(W':ae) (Q:Ext w0 W') (hS:RdS W' p A n c (idS l (idS l s).2).2)=>Gf Q j Y f X hn hS (by rw[<-f];exact h2));have J:=ac (λ(W':ae) (Q:Ext w0 W') (hS:RdS W' p A n c (idS l (idS l (idS l s).2).2).2)=>U0 Q j Y f X hn hT hS (by rw[<-f];exact h3));have i:uU l s=(⟨(idS l s).1.1,(idS l s).1.2,(idS l (idS l s).2).1.1,(idS l (idS l s).2).1.2,(idS l (idS l (idS l s).2).2).1.1,(idS l (idS l (idS l s).2).2).1.2,(uS l (idS l (idS l (idS l s).2).2).2).1⟩,(uS l (idS l (idS l (idS l s).2).2).2).2):=rfl;rw[i];clear i hs H h1 h2 h3;generalize uS l (idS l (idS l (idS l s).2).2).2=r4 at*;generalize idS l (idS l (idS l s).2).2=r3 at*;generalize idS l (idS l s).2=r2 at*;generalize idS l s=r1 at*;obtain⟨⟨a1,b1⟩,s1⟩:=r1;obtain⟨⟨a2,b2⟩,s2⟩:=r2;obtain⟨⟨a3,b3⟩,s3⟩:=r3;obtain⟨Z,s4⟩:=r4;simp only at N M K J⊢;have a:W.heap.size≠p:=ω
 go_enter func96,ntmps96
 go_wp2_with fail
 refine N.out.mono ?_;rintro e w1 ⟨rfl,a5,x1⟩;have z:Ext w0 w1:=RX.down (hx.trans U) j x1;have b0:=x1.blk b4 a
 go_wp2_with fail
 refine(M.out w1 z a5).mono ?_;rintro e w2 ⟨rfl,a4,x2⟩;have u:Ext w0 w2:=RX.down z j x2;have a9:=x2.blk b0 a
 go_wp2_with fail
 refine(K.out w2 u a4).mono ?_;rintro e w3 ⟨rfl,a0,x3⟩;have a6:Ext w0 w3:=RX.down u j x3;have a8:=x3.blk a9 a
 go_wp2_with fail
 refine(J.out w3 a6 a0).mono ?_;rintro e w4 ⟨rfl,q,x4⟩;have I:=x4.blk a8 a;obtain⟨⟨g0,g1,g2,g3,g4,g5,g6⟩,f0,f1,f2,f3,f4,f5,f6⟩:=agu I;go_wp2;have a7:=al _ _ 6 _ _ (Vt Z) (al _ _ 5 _ _ (Vu b3) (al _ _ 4 _ _ (Vu a3) (al _ _ 3 _ _ (Vu b2) (al _ _ 2 _ _ (Vu a2) (al _ _ 1 _ _ (Vu b1) (al _ _ 0 _ _ (Vu a1) I))))));obtain⟨⟨z0,z1,z2,z3,z4,z5,z6⟩,_⟩:=agu (x0:=Vu a1) (x1:=Vu b1) (x2:=Vu a2) (x3:=Vu b2) (x4:=Vu a3) (x5:=Vu b3) (x6:=Vt Z) a7;refine aB (v:=rnv ⟨a1,b1,a2,b2,a3,b3,Z⟩) (by simp[cg,results96,go_sem,z0,z1,z2,z3,z4,z5,z6]) rfl ⟨rfl,?_,((((((((((((RX.ext U).trans x1).trans x2).trans x3).trans x4).set 0 _ (.inl (am _))).set 1 _ (.inl (am _))).set 2 _ (.inl (am _))).set 3 _ (.inl (am _))).set 4 _ (.inl (am _))).set 5 _ (.inl (am _))).set 6 _ (.inl (am _)))⟩;unfold RdS at q⊢
 iterate 7 rw[aQ _ _ _ _ (λe=>a e.symm)]
 exact q
end
end
end
section
attribute [local go_sem] ah calm jL jH
def oU (l:List UInt8):Nat->Nat×Bool->List Rn×Nat×Bool
 |0,s=>([],s)
 |k+1,s=>if s.2 then([],s) else((uU l s).1::(oU l k (uU l s).2).1,(oU l k (uU l s).2).2)
def mM (l:List UInt8):Nat->Nat×Bool->List Sp×Nat×Bool
 |0,s=>([],s)
 |k+1,s=>if s.2 then([],s) else((oC l s).1::(mM l k (oC l s).2).1,(mM l k (oC l s).2).2)
def zH (l:List UInt8) (s:Nat×Bool):List Rn×Nat×Bool:=oU l (jW l s).1 (jW l s).2
def wL (l:List UInt8) (s:Nat×Bool):List Sp×Nat×Bool:=mM l (jW l s).1 (jW l s).2
def uy (l:List UInt8) (s:Nat×Bool):(List Rn×List Sp)×Nat×Bool:=(((zH l s).1,(wL l (zH l s).2).1),(wL l (zH l s).2).2)
theorem Ls {l:List UInt8} {s:Nat×Bool} (h:s.2=true):(jW l s).2.2=true:=by
 unfold jW;split
 ·rfl
 ·exact h
theorem aaQ {l:List UInt8} {s:Nat×Bool} (h:s.2=true):(uS l s).2.2=true:=by
 unfold uS;split
 ·rfl
 ·exact h
theorem yg {l:List UInt8} {p v k:Nat} (h:oQ l p=some (v,k)):jW l (p,false)=(v,p+k,false):=by
 unfold jW;simp only[h]
theorem Oh {l:List UInt8} {p:Nat} (h:oQ l p=none):(jW l (p,false)).2.2=true:=by
 unfold jW;simp only[h]
theorem XE {l:List UInt8} {p k:Nat} {t:List UInt8} (h:xK l p=some (t,k)):uS l (p,false)=(t,p+k,false):=by
 unfold uS;simp only[h]
theorem XF {l:List UInt8} {p:Nat} (h:xK l p=none):(uS l (p,false)).2.2=true:=by
 unfold uS;simp only[h]
def sZ (l:List UInt8):Nat->Nat×Bool->List Nat×Nat×Bool
 |0,s=>([],s)
 |k+1,s=>((jW l s).1::(sZ l k (jW l s).2).1,(sZ l k (jW l s).2).2)
theorem Og {l:List UInt8}:∀(k:Nat) {s:Nat×Bool},s.2=true->(sZ l k s).2.2=true
 |0,_,h=>h
 |k+1,_,h=>Og k (Ls h)
theorem Dr {l:List UInt8}:∀(k p:Nat),lZ l k p=none->(sZ l k (p,false)).2.2=true
 |0,p,h=>by cases h
 |k+1,p,h=>by
  rw[lZ] at h;cases a:oQ l p with
  |none=>exact Og k (Oh a)
  |some x=>
   obtain⟨v,j⟩:=x;rw[a] at h;simp only at h;have ih:=Dr (l:=l) k (p+j);cases hn:lZ l k (p+j) with
   |none=>simp only[sZ,yg a];exact ih hn
   |some y=>obtain⟨e,q⟩:=y;rw[hn] at h;cases h
theorem zi {l:List UInt8}:∀(k p:Nat) {a:List Nat} {q:Nat},lZ l k p=some (a,q)->sZ l k (p,false)=(a,q,false)
 |0,p,a,q,h=>by
  simp only[lZ,aL,bg] at h;obtain⟨rfl,rfl⟩:=h;rfl
 |k+1,p,a,q,h=>by
  rw[lZ] at h;cases f:oQ l p with
  |none=>rw[f] at h;cases h
  |some x=>
   obtain⟨v,j⟩:=x;rw[f] at h;simp only at h;cases hn:lZ l k (p+j) with
   |none=>rw[hn] at h;cases h
   |some y=>
    obtain⟨i,e⟩:=y;rw[hn] at h;simp only[aL,bg] at h;obtain⟨rfl,rfl⟩:=h;simp only[sZ,yg f,zi k (p+j) hn]
theorem FZ (l:List UInt8) (s:Nat×Bool):uU l s=(Jp (sZ l 6 s).1 (uS l (sZ l 6 s).2).1,(uS l (sZ l 6 s).2).2):=rfl
theorem CZ (l:List UInt8) (s:Nat×Bool):oC l s=(zT (sZ l 3 s).1,(sZ l 3 s).2):=rfl
theorem F4 {l:List UInt8} {p:Nat} (h:vL l p=none):(uU l (p,false)).2.2=true:=by
 rw[vL] at h;rw[FZ];cases hn:lZ l 6 p with
 |none=>exact aaQ (Dr 6 p hn)
 |some x=>
  obtain⟨e,q⟩:=x;rw[hn] at h;simp only at h;rw[zi 6 p hn];cases a:xK l q with
  |none=>exact XF a
  |some y=>obtain⟨t,k⟩:=y;rw[a] at h;cases h
theorem FY {l:List UInt8} {p q:Nat} {r:Rn} (h:vL l p=some (r,q)):uU l (p,false)=(r,q,false):=by
 rw[vL] at h;rw[FZ];cases hn:lZ l 6 p with
 |none=>rw[hn] at h;cases h
 |some x=>
  obtain⟨f,e⟩:=x;rw[hn] at h;simp only at h;rw[zi 6 p hn];cases a:xK l e with
  |none=>rw[a] at h;cases h
  |some y=>
   obtain⟨t,k⟩:=y;rw[a] at h;simp only[aL,bg] at h;obtain⟨rfl,rfl⟩:=h;simp only[XE a]
theorem C8 {l:List UInt8} {p:Nat} (h:lZ l 3 p=none):(oC l (p,false)).2.2=true:=by rw[CZ];show(sZ l 3 (p,false)).2.2=true;exact Dr 3 p h
theorem CY {l:List UInt8} {p q:Nat} {a:List Nat} (h:lZ l 3 p=some (a,q)):oC l (p,false)=(zT a,q,false):=by rw[CZ,zi 3 p h]
theorem Jm {l:List UInt8} (k:Nat) {s:Nat×Bool} (h:s.2=true):oU l k s=([],s):=by
 cases k with
 |zero=>rfl
 |succ k=>rw[oU,if_pos h]
theorem zP {l:List UInt8} (k:Nat) {s:Nat×Bool} (h:s.2=true):mM l k s=([],s):=by
 cases k with
 |zero=>rfl
 |succ k=>rw[mM,if_pos h]
theorem Jl {l:List UInt8}:∀(k p:Nat),nX l k p=none->(oU l k (p,false)).2.2=true
 |0,p,h=>by cases h
 |k+1,p,h=>by
  rw[nX] at h;rw[oU,if_neg ι];cases a:vL l p with
  |none=>simp only;rw[Jm k (F4 a)];exact F4 a
  |some x=>
   obtain⟨r,q⟩:=x;rw[a] at h;simp only at h;rw[FY a];cases hn:nX l k q with
   |none=>exact Jl k q hn
   |some y=>obtain⟨rs,e⟩:=y;rw[hn] at h;cases h
theorem Dh {l:List UInt8}:∀(k p:Nat) {rs:List Rn} {q:Nat},nX l k p=some (rs,q)->oU l k (p,false)=(rs,q,false)
 |0,p,rs,q,h=>by
  simp only[nX,aL,bg] at h;obtain⟨rfl,rfl⟩:=h;rfl
 |k+1,p,rs,q,h=>by
  rw[nX] at h;rw[oU,if_neg ι];cases a:vL l p with
  |none=>rw[a] at h;cases h
  |some x=>
   obtain⟨r,e⟩:=x;rw[a] at h;simp only at h;rw[FY a];cases hn:nX l k e with
   |none=>rw[hn] at h;cases h
   |some y=>
    obtain⟨f,i⟩:=y;rw[hn] at h;simp only[aL,bg] at h;obtain⟨rfl,rfl⟩:=h;simp only[Dh k e hn]
theorem FP {l:List UInt8}:∀(k p:Nat),mH l k p=none->(mM l k (p,false)).2.2=true
 |0,p,h=>by cases h
 |k+1,p,h=>by
  rw[mH] at h;rw[mM,if_neg ι];cases a:lZ l 3 p with
  |none=>simp only;rw[zP k (C8 a)];exact C8 a
  |some x=>
   obtain⟨r,q⟩:=x;rw[a] at h;simp only at h;rw[CY a];cases hn:mH l k q with
   |none=>exact FP k q hn
   |some y=>obtain⟨rs,e⟩:=y;rw[hn] at h;cases h
theorem FN {l:List UInt8}:∀(k p:Nat) {rs:List Sp} {q:Nat},mH l k p=some (rs,q)->mM l k (p,false)=(rs,q,false)
 |0,p,rs,q,h=>by
  simp only[mH,aL,bg] at h;obtain⟨rfl,rfl⟩:=h;rfl
 |k+1,p,rs,q,h=>by
  rw[mH] at h;rw[mM,if_neg ι];cases a:lZ l 3 p with
  |none=>rw[a] at h;cases h
  |some x=>
   obtain⟨r,e⟩:=x;rw[a] at h;simp only at h;rw[CY a];cases hn:mH l k e with
   |none=>rw[hn] at h;cases h
   |some y=>
    obtain⟨f,i⟩:=y;rw[hn] at h;simp only[aL,bg] at h;obtain⟨rfl,rfl⟩:=h;simp only[FN k e hn]
theorem YE {l:List UInt8} (h:oQ l 0=none):jW l (0,false)=(0,0,true):=by unfold jW;simp only[Int.natCast_zero,h]
theorem Jt {l:List UInt8} {m p:Nat} (h:oQ l 0=some (m,p)):jW l (0,false)=(m,p,false):=by have:=yg (l:=l) (p:=0) h;rw[this,aW]
theorem zQ {l:List UInt8} {s:Nat×Bool} (h:(jW l s).2.2=true):(wL l s).2.2=true:=by rw[wL,zP _ h];exact h
theorem P6 {l:List UInt8} (h:parse l=none):(uy l (0,false)).2.2=true:=by
 rw[parse] at h;rw[uy];cases H:oQ l 0 with
 |none=>
  have j:zH l (0,false)=([],0,true):=by rw[zH,YE H];rfl
  rw[j];exact zQ (Ls rfl)
 |some x=>
  obtain⟨m,p⟩:=x;rw[H] at h;simp only at h;have j:zH l (0,false)=oU l m (p,false):=by rw[zH,Jt H]
  rw[j];cases f:nX l m p with
  |none=>exact zQ (Ls (Jl m p f))
  |some y=>
   obtain⟨rs,q⟩:=y;rw[f] at h;simp only at h;rw[Dh m p f];cases i:oQ l q with
   |none=>exact zQ (Oh i)
   |some z=>
    obtain⟨a,k⟩:=z;rw[i] at h;simp only at h;have J:wL l (q,false)=mM l a (q+k,false):=by rw[wL,yg i]
    simp only;rw[J];cases I:mH l a (q+k) with
    |none=>exact FP a (q+k) I
    |some u=>obtain⟨ds,e⟩:=u;rw[I] at h;cases h
theorem P5 {l:List UInt8} {rs:List Rn} {ds:List Sp} {e:Nat} (h:parse l=some (rs,ds,e)):uy l (0,false)=((rs,ds),e,false):=by
 rw[parse] at h;rw[uy];cases H:oQ l 0 with
 |none=>rw[H] at h;cases h
 |some x=>
  obtain⟨m,p⟩:=x;rw[H] at h;simp only at h;have K:zH l (0,false)=oU l m (p,false):=by rw[zH,Jt H]
  rw[K];cases f:nX l m p with
  |none=>rw[f] at h;cases h
  |some y=>
   obtain⟨I,q⟩:=y;rw[f] at h;simp only at h;rw[Dh m p f];cases j:oQ l q with
   |none=>rw[j] at h;cases h
   |some z=>
    obtain⟨a,k⟩:=z;rw[j] at h;simp only at h;have J:wL l (q,false)=mM l a (q+k,false):=by rw[wL,yg j]
    simp only;rw[J];cases i:mH l a (q+k) with
    |none=>rw[i] at h;cases h
    |some u=>
     obtain⟨M,N⟩:=u;rw[i] at h;simp only[aL,bg] at h;obtain⟨rfl,rfl,rfl⟩:=h;rw[FN a (q+k) i]
theorem Gw {l:List UInt8}:∀(k:Nat) {s:Nat×Bool},s.1<=l.length->(sZ l k s).2.1<=l.length
 |0,_,h=>h
 |k+1,s,h=>Gw k (sG l s h).1
theorem aa7 {l:List UInt8} {s:Nat×Bool} (h:s.1<=l.length):(uU l s).2.1<=l.length:=by rw[FZ];exact aaR l _ (Gw 6 h)
theorem X5 {l:List UInt8} {s:Nat×Bool} (h:s.1<=l.length):(oC l s).2.1<=l.length:=by rw[CZ];show(sZ l 3 s).2.1<=l.length;exact Gw 3 h
theorem adD {l:List UInt8} {p:Nat} (e:p<=l.length) (h:(uU l (p,false)).2.2=false):p+7<=(uU l (p,false)).2.1:=by
 cases a:vL l p with
 |none=>rw[F4 a] at h;cases h
 |some x=>obtain⟨r,q⟩:=x;rw[FY a];exact(F6 e a).2.2.2
theorem aa1 {l:List UInt8} {p:Nat} (e:p<=l.length) (h:(oC l (p,false)).2.2=false):p+3<=(oC l (p,false)).2.1:=by
 cases a:lZ l 3 p with
 |none=>rw[C8 a] at h;cases h
 |some x=>obtain⟨r,q⟩:=x;rw[CY a];exact(uI e a).2.2.2.2
def Xk (W:ae) (q:Nat) (r:Rn):Prop:=W.heap[q]? =some (.cells #[.int .u32 r.c,.int .u32 r.k,.int .u32 r.lc,.int .u32 r.lk,.int .u32 r.rc,.int .u32 r.rk,.string ⟨r.t.toArray⟩] 40 (0,0))
theorem Xk.new (W:ae) (r:Rn):Xk (W.alloc (.cells #[.int .u32 r.c,.int .u32 r.k,.int .u32 r.lc,.int .u32 r.lk,.int .u32 r.rc,.int .u32 r.rk,.string ⟨r.t.toArray⟩] 40)) W.heap.size r:=aI W _
theorem Xk.row {W:ae} {q:Nat} {r:Rn} (h:Xk W q r):RnS W (some ⟨q,0,none⟩) [r]:=λ_=>⟨q,0,rfl,λj u a=>by rw[aW,aj W q j _ _ _ h];rw[Ci] at a;simpa[encR,encS] using a⟩
def KF (W:ae) (q:Nat) (r:Sp):Prop:=W.heap[q]? =some (.cells #[.int .u32 r.1,.int .u32 r.2.1,.int .u32 r.2.2] 74 (0,0))
theorem KF.new (W:ae) (r:Sp):KF (W.alloc (.cells #[.int .u32 r.1,.int .u32 r.2.1,.int .u32 r.2.2] 74)) W.heap.size r:=aI W _
theorem KF.row {W:ae} {q:Nat} {r:Sp} (h:KF W q r):SpS W (some ⟨q,0,none⟩) [r]:=λ_=>⟨q,0,rfl,λj u a=>by rw[aW,aj W q j _ _ _ h];rw[Ci] at a;simpa[encR,encS] using a⟩
theorem kZ.kept {w W W':ae} {v:au} {l:List Sp} {row:Option Nat} (h:kZ w W v l) (a:W.grownBy W' row) (hn:v.ownBlock=none\/v.ownBlock≠row):kZ w W' v l:=eY h a hn
theorem CS {w0 w:ae} {j:Array Oper} {rest:List Oper} {o:Oper} {a:Act} {Q:Exit->Act->ae->Prop} (I:o.guard=none) (s x:Operand)
  (U:o.op= .call { callee:= .builtin .append,args:= #[s,x],argTypes:= #[34,34] })
  (v:au) (l:List Sp) (N:a.eval s=v) (e:kZ w0 w v l) (J:Ext w0 w)
  (A:Option Addr) (m c:Nat) (r:List Sp) (W:a.eval x= .slice A m c) (hm:r.length=m) (O:SpS w A r) (hb:l.length+r.length<=40000000)
  (h:∀f w',kZ w0 w' f (l++r)->Ext w0 w'->w.grownBy w' v.ownBlock->(f.ownBlock=v.ownBlock\/f.ownBlock=some w.heap.size)->wpList pg j Q rest (a.put o.dst f) w'):wpList pg j Q (o::rest) a w:=by
 refine wpList_plain I λK X=>?_
 obtain⟨i,hi,H,z,u⟩:=info_parts OM;subst hm;obtain⟨f,w',q,Z,M,Y⟩:=kL (P:=pg) w w0.heap.size 34 o.type 74 i _ 3 12 underlying34 hi H z u rfl ω v l.length _ e A r.length c _ (jR oK r) O (lI Ig r)
  (by unfold maxLen;omega) ω J.size
 unfold Oper.wp execOp;simp only[U,resolve,invoke,builtin,Sem.run_bind,Sem.run_pure,Result.andThen_ok,List.map_toArray,List.map_cons,List.map_nil,N,W,q];refine X _ _ (h f w' ?_ (J.grown M e.lt) M Y);unfold kZ;rw[kQ,ag];exact Z
section
variable {w0 W:ae} {p:Nat} {A:Option Addr} {n c:Nat} {l:List UInt8} {s:Nat×Bool}
def adq (w0 e:ae) (B p a:Nat) (A:Option Addr) (n c:Nat) (l:List UInt8) (R:List Rn×Nat×Bool) (f:au) (W:ae):Prop:=
 ∃(k:Nat) (s:Nat×Bool) (o:List Rn) (v:au),f=Vu k/\k<4294967296/\RdS W p A n c s/\W.heap[a]? =some (.cells #[v,.slice none 0 0] 36 (0,0))/\Hid (qz w0 W v o)/\Hid (far B v)/\GX B p a e W/\s.1<=n/\(s.2=false->o.length<=s.1)/\o.length<=n+1/\Hid ((o++(oU l k s).1,(oU l k s).2)=R)
def adp (w0 e:ae) (B p a:Nat) (A:Option Addr) (n c:Nat) (l:List UInt8) (R:List Sp×Nat×Bool) (vr:au) (rs:List Rn) (f:au) (W:ae):Prop:=
 ∃(k:Nat) (s:Nat×Bool) (o:List Sp) (v:au),f=Vu k/\k<4294967296/\RdS W p A n c s/\W.heap[a]? =some (.cells #[vr,v] 36 (0,0))/\Hid (kZ w0 W v o)/\Hid (far B v)/\Hid (qz w0 W vr rs)/\(vr.ownBlock=none\/vr.ownBlock≠v.ownBlock)/\GX B p a e W/\s.1<=n/\(s.2=false->o.length<=s.1)/\o.length<=n+1/\Hid ((o++(mM l k s).1,(mM l k s).2)=R)
theorem U2 (Y:Ext w0 W) (hp:w0.heap.size<=p) (hb:Bys w0 A l) (hl:l.length=n) (hc:n<=c) (hn:n<=12000000) (hT:Tabs w0) (hs:RdS W p A n c s) (h7:s.1<=n):
  aO pg 64 #[.pointer (some ⟨p,0,none⟩)] W λe w'=>∃vr vd,e= .returned (.agg #[vr,vd])/\qz w0 w' vr (uy l s).1.1/\kZ w0 w' vd (uy l s).1.2/\far W.heap.size vr/\far W.heap.size vd/\RdS w' p A n c (uy l s).2/\RX p W w':=by
 have k2:=hs.lt;obtain⟨w1,a7⟩:∃W1,(W.alloc (.cells #[.slice none 0 0,.slice none 0 0] 36)).alloc (.cells #[.slice none 0 0,.slice none 0 0] 36)=W1:=⟨_,rfl⟩;have g4:(W.alloc (.cells #[.slice none 0 0,.slice none 0 0] 36)).heap.size=W.heap.size+1:=ι
 have hB:w1.heap.size=W.heap.size+2:=by rw[<-a7];simp
 have x1:Ext W w1:=by rw[<-a7];exact((Ext.refl _).alloc _).alloc _
 have e6:w1.heap[W.heap.size+1]? =some (.cells #[.slice none 0 0,.slice none 0 0] 36 (0,0)):=by
  rw[<-a7,<-g4];exact aI _ _
 have h5:w1.heap[W.heap.size]? =some (.cells #[.slice none 0 0,.slice none 0 0] 36 (0,0)):=by
  rw[<-a7,av ((Ext.refl (W.alloc (.cells #[.slice none 0 0,.slice none 0 0] 36))).alloc _) W.heap.size ω];exact aI _ _
 have g7:=hs.ext x1;have uo:=ac (λ(W':ae) (z:Nat×Bool) (hX:Ext w0 W') (hS:RdS W' p A n c z) (ha:z.1<=n)=>sJ hX hp hb hl hc hn hS ha);have j8:=ac (λ(W':ae) (z:Nat×Bool) (hX:Ext w0 W') (hS:RdS W' p A n c z) (ha:z.1<=n)=>U1 hX hp hb hl hc hn hT hS ha);have k1:=ac (λ(W':ae) (z:Nat×Bool) (hX:Ext w0 W') (hS:RdS W' p A n c z) (ha:z.1<=n)=>Qy hX hp hb hl hc hn hS ha);have h8:Ext w0 w1:=Y.trans x1;have i3:w0.heap.size<=W.heap.size:=Y.size;obtain⟨R,hR⟩:∃R,zH l s=R:=⟨_,rfl⟩;obtain⟨D,hD⟩:∃D,wL l R.2=D:=⟨_,rfl⟩;have i1:uy l s=((R.1,D.1),D.2):=by rw[uy,hR,hD]
 rw[i1];have e8:=sG l s (by rw[hl];exact h7);rw[hl] at e8;replace hR:=ac (show([]++(oU l (jW l s).1 (jW l s).2).1,(oU l (jW l s).1 (jW l s).2).2)=R from hR);replace hD:=ac hD;have f4:=ac (uo.out w1 s h8 g7 h7);clear i1 hs g4 hb hT;generalize jW l s=sa at*;obtain⟨a,sa⟩:=sa;simp only at e8 hR f4;go_enter func64,ntmps64
 go_wp2_with fail
 clear a7;obtain⟨J,j5⟩:∃q,W.heap.size=q:=⟨_,rfl⟩;rw[j5] at k2 hB e6 h5 i3⊢;obtain⟨B,k3⟩:∃B,w1.heap.size=B:=⟨_,rfl⟩;have k4:B=J+2:=ω
 have LZ:J+1≠p:=ω
 have f9:J≠p:=ω
 obtain⟨H,j6⟩:∃q,J+1=q:=⟨_,rfl⟩;rw[j6] at e6 LZ⊢;have a6:∀(Z:ae) (X:GX B p H w1 Z),Ext w0 Z:=λZ X=>X.down h8 ω hp ω
 replace a6:=ac a6;refine f4.out.mono ?_;rintro e w2 ⟨rfl,s2,g2⟩;clear f4;have Zh:=g2.blk e6 LZ;have i0:GX B p H w1 w2:=(GX.refl B p H w1 ω).rx g2;go_wp2
 go_loopw [4] (adq w0 w1 B p H A n c l R) (λv _=>(intOf v).toNat)
 case atStart=>exact⟨a,sa,[],.slice none 0 0,rfl,e8.2,s2,Zh,ac (qz.nil _ _),ac (far.nil _),i0,e8.1,λ_=>ι,ι,hR⟩
 case round=>
  clear s2 g2 Zh i0 hR e6 g7;obtain⟨k,z,o,v,rfl,hk,hS,hq,ho,hf,X,i,I,i2,hrel⟩:=hrel;have hE:Ext w0 wr:=a6.out _ X;obtain⟨e0,e1,_,_⟩:=yO hq;obtain⟨_,_,d2,_,_⟩:=hS.cells;by_cases a4:0<k/\z.2=false
  ·obtain⟨j2,b0⟩:=a4
   obtain⟨at',b⟩:=z;simp only at b0 d2 i I;subst b0;obtain⟨k,rfl⟩:∃j,k=j+1:=⟨k-1,ω⟩;have d1:decide ((0:Int)<((k+1:Nat):Int))=true:=by rw[decide_eq_true_eq];omega
   have j3:decide ((0:Int)<(k:Int)+1)=true:=by rw[decide_eq_true_eq];omega
   have O:=ac (λ(W':ae) (hX:Ext w0 W') (f5:RdS W' p A n c (at',false))=>j8.out W' (at',false) hX f5 i);have a0:=aa7 (l:=l) (s:=(at',false)) (by rw[hl];exact i);have b6:(uU l (at',false)).2.2=false->at'+7<=(uU l (at',false)).2.1:=λh=>adD (by rw[hl];exact i) h
   have a9:(oU l (k+1) (at',false))=((uU l (at',false)).1::(oU l k (uU l (at',false)).2).1,(oU l k (uU l (at',false)).2).2):=by rw[oU,if_neg ι]
   have OV:=ac (show(o++[(uU l (at',false)).1]++(oU l k (uU l (at',false)).2).1,(oU l k (uU l (at',false)).2).2)=R by rw[<-hrel.out,a9];simp);have i7:=I rfl;clear a9 hrel I;rw[hl] at a0;generalize uU l (at',false)=x at*;obtain⟨r,sx⟩:=x;simp only at O a0 b6 OV;have hX:Ext w0 wr:=hE;have M:wr.cell? ⟨H,0,none⟩=some v:=e0;have b3:p<wr.heap.size:=hS.lt;have g1:H<wr.heap.size:=(an.1 hq).1;have a2:p<B:=ω
   have VW:H<B:=ω
   go_wp2_with fail
   refine ou 5 3 [rw1 3 (λz9 W=>z9=rnv r/\RdS W p A n c sx),rw1 4 (λz9 W=>∃q,z9= .slice (some ⟨q,0,none⟩) 1 1/\q≠p/\Xk W q r)] (RX p _) (λW=>RdS W p A n c (at',false)) Ext (RX p) (RX.ext ((Ext.refl _).drew)) (hS.ext ((Ext.refl _).drew)) (λ_ _ h e=>h.trans (RX.ext e)) (λ_ _ h e=>h.ext e) ⟨(λ_ _ _ _ h e=>⟨h.1,h.2.ext e⟩),(λ_ h=>absurd rfl h),(by rintro _ _ _ _ ⟨q,h1,h2,h3⟩ e;exact⟨q,h1,h2,e.blk h3⟩),(λ_ _=>by rintro _ _ _ _ ⟨q,h1,h2,h3⟩ e;exact⟨q,h1,h2,RX.blk e h3 h2⟩),trivial⟩ λρ _=>?_
   refine .s1 3 false [] (λW Y _ _=>by have q0:=RX.cell Y M LZ;exact jD) ?_;refine .o0 0 [] (λW Y b4 _ N hN=>?_) ?_
   ·go_simp
    exact(O.out W (RX.down hX hp Y) b4).mono (by rintro e W1 ⟨rfl,h1,h2⟩;exact⟨_,rfl,hN _ _ (λ_ e=>by cases e) ⟨rfl,h1⟩ (Y.trans h2) h2⟩)
   refine .o1 1 false [0] (λW Y _ f N hN=>?_) ?_
   ·obtain⟨⟨e3,_⟩,_⟩:=f
    have e3:ρ 3=_:=e3;have j1:p<W.heap.size:=aV b3 Y.size
    go_simp
    exact hN _ _ (λ_ e=>by cases e) ⟨_,rfl,ω,Xk.new W r⟩ ((Ext.refl W).alloc _)
   refine .fin λW' u ⟨h3,h4,_⟩=>?_
   obtain⟨e3,jV⟩:=h3 rfl;obtain⟨qb,e4,i6,nS⟩:=h4 rfl;rw[show ρ 3=_ from e3,show ρ 4=_ from e4];simp only[bU,cH];clear M;have f6:Ext w0 W':=RX.down hX hp u;have b2:=u.blk hq LZ;have b8:=aV g1 u.size;have f8:=aV b3 u.size;refine xA (w0:=w0) rfl (.tmp 20) (.tmp 23) rfl v o rfl (ho.out.kept u (hf.out.ne a2)) f6 _ 1 1 [r] rfl rfl nS.row (by simp only[ar,aG];omega) ?_;intro v5 w5 o5 x5 g5 b5;obtain⟨A5,c5,a8,_,_⟩:=qz.open o5;rw[show(o++[r]).length=o.length+1 by simp] at a8;subst a8;have Q:∀j,j<B->some j≠v.ownBlock:=λj hj e=>by have:=hf.out j e.symm;omega
   have a1:w5.heap[H]? =some (.cells #[v,.slice none 0 0] 36 (0,0)):=by rw[g5.block H b8 (Q H VW)];exact b2
   have a3:RdS w5 p A n c sx:=by unfold RdS at jV⊢;rw[g5.block p f8 (Q p a2)];exact jV
   obtain⟨c0,c1,f0,f1⟩:=yO a1;have d4:=far.on hf.out b5 (by have:=X.size;have:=u.size;omega);have VU:RX H w5 (w5.setCell ⟨H,0,none⟩ (.slice A5 (o.length+1) c5)):=RX.set (RX.refl H w5) 0 _ (.inr rfl);have g6:ak.wrap (((k+1:Nat):Int)-1)=(k:Int):=by rw[show(((k+1:Nat):Int)-1)=(k:Int) by omega];exact fh _ ω
   have e9:ak.wrap ((k:Int)+1-1)=(k:Int):=by rw[show((k:Int)+1-1)=(k:Int) by omega];exact fh _ ω
   have Hq:adq w0 w1 B p H A n c l R (Vu k) (w5.setCell ⟨H,0,none⟩ (.slice A5 (o.length+1) c5)):=
        ⟨k,sx,o++[r],_,rfl,ω,by unfold RdS at a3⊢;rw[aQ _ _ _ _ (λe=>LZ e.symm)];exact a3,al _ _ 0 _ _ _ a1,ac (o5.kept VU (d4.ne VW)),ac d4,((X.rx u).on g5 (λj e=> .inl (hf.out j e))).set _,a0,
          λh=>by have:=b6 h;simp only[ag,ar,aG];omega,by simp only[ag,ar,aG];omega,OV⟩
   replace Hq:=ac Hq;clear a3 VU a1 b2 ho hf X jV hS hq nS;go_wp2
   go_roundw
   case rel=>exact Hq.out
   case measure=>simp[intOf];try omega
  ·have d3:(o,z)=R:=by
        rw[<-hrel.out];rcases dE k with h|h
        ·subst h;simp[oU]
        ·have:z.2=true:=by cases a5:z.2 with
          |true=>rfl
          |false=>exact absurd ⟨h,a5⟩ a4
         rw[Jm k this];simp
   have b9:k=0\/(0<k/\z.2=true):=by
        rcases dE k with h|h
        ·exact .inl h
        ·refine .inr ⟨h,?_⟩
         cases a5:z.2 with
         |true=>rfl
         |false=>exact absurd ⟨h,a5⟩ a4
   subst d3;have f3:=ac (uo.out wr z hE hS i);have e7:=sG l z (by rw[hl];exact i);rw[hl] at e7;have f7:=ac (show([]++(mM l (jW l z).1 (jW l z).2).1,(mM l (jW l z).1 (jW l z).2).2)=D from hD.out);clear hD hrel I;generalize jW l z=sb at*;obtain⟨ab,sb⟩:=sb;simp only at f3 e7 f7;have j4:k=0->decide ((0:Int)<(k:Int))=false:=λh=>by subst h;rfl
   have d1:0<k->decide ((0:Int)<(k:Int))=true:=λh=>by rw[decide_eq_true_eq];omega
   rcases b9 with h0|⟨h0,d6⟩
   case' inl=>
        subst h0
   case' inr=>
        have hg:=d1 h0;rw[d6] at d2
   all_goals
        go_wp2_with fail
        refine f3.out.mono ?_;rintro e w3 ⟨rfl,s3,g3⟩;have Zh:=g3.blk hq LZ;have h9:=X.rx g3;have a2:p<B:=ω
        have VW:H<B:=ω
        have Zi:J<B:=ω
        have h6:=ho.out.kept g3 (hf.out.ne a2);clear f3 ho;go_wp2
        go_loopw [5] (adp w0 w1 B p H A n c l D v o) (λv _=>(intOf v).toNat)
        case atStart=>exact⟨ab,sb,[],.slice none 0 0,rfl,e7.2,s3,Zh,ac (kZ.nil _ _),ac (far.nil _),ac h6,(by cases h:v.ownBlock with
          |none=>exact .inl rfl
          |some g=>exact .inr (λe=>by cases e)),h9,e7.1,λ_=>ι,ι,f7⟩
        case round=>
         clear s3 g3 Zh h9 f7 h6 hS hq hE e0 e1 d2 i i2 X;obtain⟨k,z,o2,v2,rfl,hk,hS,hq,b7,U,ho,d5,X,i,I,i2,hrel⟩:=hrel;have hE:Ext w0 wr:=a6.out _ X;obtain⟨e0,e1,_,_⟩:=yO hq;obtain⟨_,_,d2,_,_⟩:=hS.cells;by_cases a4:0<k/\z.2=false
         ·obtain⟨j2,b0⟩:=a4
          obtain⟨at',b⟩:=z;simp only at b0 d2 i I;subst b0;obtain⟨k,rfl⟩:∃j,k=j+1:=⟨k-1,ω⟩;have d1:decide ((0:Int)<((k+1:Nat):Int))=true:=by rw[decide_eq_true_eq];omega
          have j3:decide ((0:Int)<(k:Int)+1)=true:=by rw[decide_eq_true_eq];omega
          have O:=ac (λ(W':ae) (hX:Ext w0 W') (f5:RdS W' p A n c (at',false))=>k1.out W' (at',false) hX f5 i);have a0:=X5 (l:=l) (s:=(at',false)) (by rw[hl];exact i);have b6:(oC l (at',false)).2.2=false->at'+3<=(oC l (at',false)).2.1:=λh=>aa1 (by rw[hl];exact i) h
          have a9:(mM l (k+1) (at',false))=((oC l (at',false)).1::(mM l k (oC l (at',false)).2).1,(mM l k (oC l (at',false)).2).2):=by rw[mM,if_neg ι]
          have OV:=ac (show(o2++[(oC l (at',false)).1]++(mM l k (oC l (at',false)).2).1,(mM l k (oC l (at',false)).2).2)=D by rw[<-hrel.out,a9];simp);have i7:=I rfl;clear a9 hrel I;rw[hl] at a0;generalize oC l (at',false)=x at*;obtain⟨r,sx⟩:=x;simp only at O a0 b6 OV;have hX:Ext w0 wr:=hE;have M:wr.cell? ⟨H,1,none⟩=some v2:=e1;have b3:p<wr.heap.size:=hS.lt;have g1:H<wr.heap.size:=(an.1 hq).1;have hv:=v2
          go_wp2_with fail
          refine ou 5 3 [rw1 3 (λz9 W=>z9=spv r.1 r.2.1 r.2.2/\RdS W p A n c sx),rw1 4 (λz9 W=>∃q,z9= .slice (some ⟨q,0,none⟩) 1 1/\q≠p/\KF W q r)] (RX p _) (λW=>RdS W p A n c (at',false)) Ext (RX p) (RX.ext ((Ext.refl _).drew)) (hS.ext ((Ext.refl _).drew)) (λ_ _ h e=>h.trans (RX.ext e)) (λ_ _ h e=>h.ext e) ⟨(λ_ _ _ _ h e=>⟨h.1,h.2.ext e⟩),(λ_ h=>absurd rfl h),(by rintro _ _ _ _ ⟨q,h1,h2,h3⟩ e;exact⟨q,h1,h2,e.blk h3⟩),(λ_ _=>by rintro _ _ _ _ ⟨q,h1,h2,h3⟩ e;exact⟨q,h1,h2,RX.blk e h3 h2⟩),trivial⟩ λρ _=>?_
          refine .s1 3 false [] (λW Y _ _=>by have q0:=RX.cell Y M LZ;exact jD) ?_;refine .o0 0 [] (λW Y b4 _ N hN=>?_) ?_
          ·go_simp
           exact(O.out W (RX.down hX hp Y) b4).mono (by rintro e W1 ⟨rfl,h1,h2⟩;exact⟨_,rfl,hN _ _ (λ_ e=>by cases e) ⟨rfl,h1⟩ (Y.trans h2) h2⟩)
          refine .o1 1 false [0] (λW Y _ f N hN=>?_) ?_
          ·obtain⟨⟨e3,_⟩,_⟩:=f
           have e3:ρ 3=_:=e3;have j1:p<W.heap.size:=aV b3 Y.size
           go_simp
           exact hN _ _ (λ_ e=>by cases e) ⟨_,rfl,ω,KF.new W r⟩ ((Ext.refl W).alloc _)
          refine .fin λW' u ⟨h3,h4,_⟩=>?_
          obtain⟨e3,jV⟩:=h3 rfl;obtain⟨qb,e4,i6,nS⟩:=h4 rfl;rw[show ρ 3=_ from e3,show ρ 4=_ from e4];simp only[bU,cH];clear M;have f6:Ext w0 W':=RX.down hX hp u;have b2:=u.blk hq LZ;have b8:=aV g1 u.size;have f8:=aV b3 u.size;have f2:=ho.out.kept u (hf.out.ne a2);have j7:=qz.lt f2;refine CS (w0:=w0) rfl (.tmp 40) (.tmp 43) rfl v2 o2 rfl (b7.out.kept u (U.out.ne a2)) f6 _ 1 1 [r] rfl rfl nS.row (by simp only[ar,aG];omega) ?_;intro v5 w5 o5 x5 g5 b5;obtain⟨A5,c5,a8⟩:=kZ.form o5;rw[show(o2++[r]).length=o2.length+1 by simp] at a8;subst a8;have Q:∀j,j<B->some j≠v2.ownBlock:=λj hj e=>by have:=U.out j e.symm;omega
          have a1:w5.heap[H]? =some (.cells #[v,v2] 36 (0,0)):=by rw[g5.block H b8 (Q H VW)];exact b2
          have a3:RdS w5 p A n c sx:=by unfold RdS at jV⊢;rw[g5.block p f8 (Q p a2)];exact jV
          have b1:=f2.kept g5 d5;obtain⟨c0,c1,f0,f1⟩:=yO a1;have d4:=far.on U.out b5 (by have:=X.size;have:=u.size;omega);have j9:v.ownBlock=none\/v.ownBlock≠(Value.slice A5 (o2.length+1) c5).ownBlock:=by
           rcases d5 with h|h
           ·exact .inl h
           ·rcases b5 with b5|b5
            ·exact .inr (by rw[b5];exact h)
            ·rw[b5]
             rcases j0:v.ownBlock with _|g
             ·exact .inl rfl
             ·refine .inr λhe=>?_
              injection he with he;have:=(j7 g j0).2;omega
          have VU:RX H w5 (w5.setCell ⟨H,1,none⟩ (.slice A5 (o2.length+1) c5)):=RX.set (RX.refl H w5) 1 _ (.inr rfl);have g6:ak.wrap (((k+1:Nat):Int)-1)=(k:Int):=by rw[show(((k+1:Nat):Int)-1)=(k:Int) by omega];exact fh _ ω
          have e9:ak.wrap ((k:Int)+1-1)=(k:Int):=by rw[show((k:Int)+1-1)=(k:Int) by omega];exact fh _ ω
          have Hq:adp w0 w1 B p H A n c l D v o (Vu k) (w5.setCell ⟨H,1,none⟩ (.slice A5 (o2.length+1) c5)):=
           ⟨k,sx,o2++[r],_,rfl,ω,by unfold RdS at a3⊢;rw[aQ _ _ _ _ (λe=>LZ e.symm)];exact a3,al _ _ 1 _ _ _ a1,ac (o5.kept VU (d4.ne VW)),ac d4,ac (b1.kept VU (hf.out.ne VW)),j9,((X.rx u).on g5 (λj e=> .inl (U.out j e))).set _,a0,
             λh=>by have:=b6 h;simp only[ag,ar,aG];omega,by simp only[ag,ar,aG];omega,OV⟩
          replace Hq:=ac Hq;clear a3 VU a1 b2 b7 U X jV hS hq nS b1 f2 ho;go_wp2
          go_roundw
          case rel=>exact Hq.out
          case measure=>simp[intOf]
         ·have d3:(o2,z)=D:=by
           rw[<-hrel.out];rcases dE k with h|h
           ·subst h;simp[mM]
           ·have:z.2=true:=by cases a5:z.2 with
             |true=>rfl
             |false=>exact absurd ⟨h,a5⟩ a4
            rw[zP k this];simp
          have b9:k=0\/(0<k/\z.2=true):=by
           rcases dE k with h|h
           ·exact .inl h
           ·refine .inr ⟨h,?_⟩
            cases a5:z.2 with
            |true=>rfl
            |false=>exact absurd ⟨h,a5⟩ a4
          subst d3;obtain⟨Ar,cr,i4,_,_⟩:=qz.open ho.out;obtain⟨Ad,cd,i5⟩:=kZ.form b7.out;have g0:wr.heap[J]? =some (.cells #[.slice none 0 0,.slice none 0 0] 36 (0,0)):=by rw[X.block J Zi f9 ω];exact h5
          have e5:qz w0 ((wr.setCell ⟨J,0,none⟩ v).setCell ⟨J,1,none⟩ v2) v o:=(ho.out.kept (RX.set (RX.refl J wr) 0 v (.inr rfl)) (hf.out.ne Zi)).kept (RX.set (RX.refl J _) 1 v2 (.inr rfl)) (hf.out.ne Zi);have e2:kZ w0 ((wr.setCell ⟨J,0,none⟩ v).setCell ⟨J,1,none⟩ v2) v2 o2:=(b7.out.kept (RX.set (RX.refl J wr) 0 v (.inr rfl)) (U.out.ne Zi)).kept (RX.set (RX.refl J _) 1 v2 (.inr rfl)) (U.out.ne Zi);have d9:RdS ((wr.setCell ⟨J,0,none⟩ v).setCell ⟨J,1,none⟩ v2) p A n c z:=by
           unfold RdS at hS⊢;rw[aQ _ _ _ _ (λe=>f9 e.symm),aQ _ _ _ _ (λe=>f9 e.symm)];exact hS
          have d7:RX p W ((wr.setCell ⟨J,0,none⟩ v).setCell ⟨J,1,none⟩ v2):=((X.ag3 x1 ω ω).set 0 _ (.inl ω)).set 1 _ (.inl ω);have g9:((wr.setCell ⟨J,0,none⟩ v).setCell ⟨J,1,none⟩ v2).heap[J]? =some (.cells #[v,v2] 36 (0,0)):=al _ _ 1 _ _ _ (al _ _ 0 _ _ _ g0);obtain⟨z0,z1,_,_⟩:=yO g9;obtain⟨y0,y1,f0,f1⟩:=yO g0;subst i4;subst i5;replace e5:=ac e5;replace e2:=ac e2;replace d9:=ac d9;replace d7:=ac d7;have b1:=ac (hf.out.mono (show J<=B by omega));have g8:=ac (U.out.mono (show J<=B by omega));clear ho b7 hS X hq g9 g0 hrel d5 hE;have j4:k=0->decide ((0:Int)<(k:Int))=false:=λh=>by subst h;rfl
          have d1:0<k->decide ((0:Int)<(k:Int))=true:=λh=>by rw[decide_eq_true_eq];omega
          rcases b9 with h0|⟨h0,d6⟩
          ·subst h0
           go_wp2;exact aB (v:= .agg #[_,_]) (by simp[cg,results64,go_sem,z0,z1]) rfl ⟨_,_,rfl,e5.out,e2.out,b1.out,g8.out,d9.out,d7.out⟩
          ·have hg:=d1 h0
           rw[d6] at d2;go_wp2;exact aB (v:= .agg #[_,_]) (by simp[cg,results64,go_sem,z0,z1]) rfl ⟨_,_,rfl,e5.out,e2.out,b1.out,g8.out,d9.out,d7.out⟩
end
end
section
attribute [local go_sem] calm jL jH
attribute [local go_sem] ah
def Nb (x y:Int) (W:ae) (q:Nat):Prop:=W.heap[q]? =some (.cells #[Vu x,Vu y] 38 (0,0))
variable {W:ae} {x y:Int}
theorem Nb.store {u v:Int} {q:Nat} (a:W.heap[q]? =some (.cells #[Vu u,Vu v] 38 (0,0))):Nb x y ((W.setCell ⟨q,0,none⟩ (Vu x)).setCell ⟨q,1,none⟩ (Vu y)) q:=
 al _ _ 1 _ _ _ (al _ _ 0 _ _ _ a)
def tZ (B:Nat) (x y:Int) (W W':ae):Prop:=Below B W W'/\(∀q,uf W q->uf W' q)/\∀q,Nb x y W q->Nb x y W' q
theorem tZ.trans {B:Nat} {x y:Int} (a b c:ae) (h:tZ B x y a b) (k:tZ B x y b c):tZ B x y a c:=⟨h.1.trans k.1,λq e=>k.2.1 q (h.2.1 q e),λq e=>k.2.2 q (h.2.2 q e)⟩
theorem tZ.ext {B:Nat} {w W':ae} (e:tZ B x y w W) (h:Ext W W') (f:B<=w.heap.size:=by assumption):tZ B x y W W':=by
 refine⟨Below.mono h (az f e.1.size),λq a=>?_,λq a=>?_⟩
 ·obtain⟨u,v,a⟩:=a
  exact⟨u,v,by rw[av h q (an.1 a).1];exact a⟩
 ·unfold Nb at a⊢
  rw[av h q (an.1 a).1];exact a
theorem tZ.alloc {B:Nat} {x y:Int} {w W:ae} (a:tZ B x y w W) (o:Obj) (e:B<=w.heap.size:=by assumption):tZ B x y W (W.alloc o):=tZ.ext a ((Ext.refl W).alloc o) e
theorem tZ.store {B:Nat} {w:ae} {q:Nat} (j:tZ B x y w W) (i:B<=q):tZ B x y W ((W.setCell ⟨q,0,none⟩ (Vu x)).setCell ⟨q,1,none⟩ (Vu y)):=by
 refine⟨((ik _ _).setCell i _).setCell i _,λf a=>?_,λf a=>?_⟩
 ·obtain⟨u,v,a⟩:=a
  by_cases e:f=q
  ·subst e
   exact⟨x,y,al _ _ 1 _ _ _ (al _ _ 0 _ _ _ a)⟩
  ·exact⟨u,v,by rw[aQ _ _ _ _ e,aQ _ _ _ _ e];exact a⟩
 ·unfold Nb at a⊢
  by_cases e:f=q
  ·subst e
   exact al _ _ 1 _ _ _ (al _ _ 0 _ _ _ a)
  ·rw[aQ _ _ _ _ e,aQ _ _ _ _ e];exact a
theorem QW (r:Rn) (w:ae) (hm:mZ r=true) (b3:0<=r.k) (b2:r.k<=4294967295) (ht:r.t.length<=80000000):
  aO pg 60 #[rnv r] w λe w'=>e= .returned (idv r.c (pW r))/\Ext w w':=by
 have hl:=qL r.t;have a3:(⟨r.t.toArray⟩:ByteArray).size=r.t.length:=by show r.t.toArray.size=_;simp
 have i:=ac (λW=>runeCount_any ⟨r.t.toArray⟩ W (by rw[a3];omega));rw[xR] at i;replace i:Hid (∀(W:ae),aO pg 51 #[.string ⟨r.t.toArray⟩] W λe w'=>e= .returned (.int .i64 ((jK r.t).length:Int))/\Ext W w'):=i;clear a3;obtain⟨v,vs,hr,hc,b1,_,_,_⟩:=yx hm;obtain⟨n,Q⟩:∃n,(jK r.t).length=n:=⟨_,rfl⟩;have a7:n=vs.length+1:=by rw[<-Q,hr];simp
 rw[Q] at i hl;obtain⟨y,hy⟩:∃y,pW r=y:=⟨_,rfl⟩;have a2:y=r.k+((n:Int)-1):=by rw[<-hy,pW,Q];omega
 rw[hy];have X:=ac (λW=>zC (a:=r.c) (b:=r.k) (n:=(n:Int)-1) (l:=4294967295) (x:=r.c) (y:=y) W (by unfold om;rw[if_neg ω,if_neg ω,a2]) b3 b2 ω ω ω ω);have a4:cJ.wrap ((n:Int)-1)=(n:Int)-1:=bP _ ω;clear Q hl hr hc b1 hy a2 a7 hm;go_enter func60,ntmps60
 go_wp2_with fail
 obtain⟨M,H⟩:∃W,(w.alloc (.cells #[.int .u32 r.c,.int .u32 r.k,.int .u32 r.lc,.int .u32 r.lk,.int .u32 r.rc,.int .u32 r.rk,.string ⟨r.t.toArray⟩] 40)).alloc (.cells #[.int .u32 0,.int .u32 0] 38)=W:=⟨_,rfl⟩;have a0:M.cell? ⟨w.heap.size,0,none⟩=some (Vu r.c):=by rw[<-H];simp[go_sem]
 have a1:M.cell? ⟨w.heap.size,1,none⟩=some (Vu r.k):=by rw[<-H];simp[go_sem]
 have a6:M.cell? ⟨w.heap.size,6,none⟩=some (.string ⟨r.t.toArray⟩):=by rw[<-H];simp[go_sem]
 have b0:M.heap[w.heap.size+1]? =some (.cells #[Vu 0,Vu 0] 38 (0,0)):=by
  rw[<-H];have:=aI (w.alloc (.cells #[.int .u32 r.c,.int .u32 r.k,.int .u32 r.lc,.int .u32 r.lk,.int .u32 r.rc,.int .u32 r.rk,.string ⟨r.t.toArray⟩] 40)) (.cells #[.int .u32 0,.int .u32 0] 38);rwa[show(w.alloc (.cells #[.int .u32 r.c,.int .u32 r.k,.int .u32 r.lc,.int .u32 r.lk,.int .u32 r.rc,.int .u32 r.rk,.string ⟨r.t.toArray⟩] 40)).heap.size=w.heap.size+1 by simp] at this
 have x1:Ext w M:=by rw[<-H];exact((Ext.refl _).alloc _).alloc _
 rw[H];clear H;have a9:w.heap.size+1<M.heap.size:=(an.1 b0).1;obtain⟨z,a8⟩:∃z,w.heap.size=z:=⟨_,rfl⟩;rw[a8] at a0 a1 a6 b0 a9⊢;obtain⟨B,a5⟩:∃B,M.heap.size=B:=⟨_,rfl⟩;have hB:B<=M.heap.size:=ω
 have hK:∀W,tZ B r.c y M W->∀{j:Nat} {v:au},M.cell? ⟨z,j,none⟩=some v->W.cell? ⟨z,j,none⟩=some v:=λW hW j v h=>by rw[fx (p:=⟨z,j,none⟩) hW.1 (by show z<B;omega)];exact h
 refine ou 12 99999 [rwI 4 (Vi (n:Int)),rwI 6 (.tuple #[idv r.c y,.nilIface]),rw1 10 (λz9 W=>∃q,z9= .pointer (some ⟨q,0,none⟩)/\B<=q/\uf W q),rw2 11 10 (λ_ z9 W=>∃q,z9= .pointer (some ⟨q,0,none⟩)/\B<=q/\Nb r.c y W q)] (tZ B r.c y _) (λ_=>True) (tZ B r.c y) (tZ B r.c y) ⟨(ik _ _).drew,λ_ h=>h,λ_ h=>h⟩ trivial (λ_ _ h e=>tZ.trans _ _ _ h e) (λ_ _ _ _=>trivial) ⟨λ_ _ _ _ _ _=>trivial,λ_ _ _ _ _ _ _ _=>trivial,λ_ _ _ _ _ _=>trivial,λ_ _ _ _ _ _ _ _=>trivial,(by rintro _ _ _ _ ⟨q,O,Z,Y⟩ e;exact⟨q,O,Z,e.2.1 q Y⟩),(λ_ _=>by rintro _ _ _ _ ⟨q,O,Z,Y⟩ e;exact⟨q,O,Z,e.2.1 q Y⟩),(by rintro _ _ _ _ ⟨q,O,Z,Y⟩ e;exact⟨q,O,Z,e.2.2 q Y⟩),(λ_ _=>by rintro _ _ _ _ ⟨q,O,Z,Y⟩ e;exact⟨q,O,Z,e.2.2 q Y⟩),trivial⟩ λρ hI=>?_
 refine .s1 4 false [] (λW I _ _=>by
  have q0:=hK W I a0;have q1:=hK W I a1;have q6:=hK W I a6;exact jD) ?_
 refine .kv1 hI 0 _ (λW I=>(i.out W).mono (by rintro e W1 ⟨rfl,h⟩;exact⟨rfl,tZ.ext I h⟩)) ?_;refine .s1 1 false [] (λW I _ _=>jD) ?_;refine .kv1 hI 1 _ (λW I=>(X.out W).mono (by rintro e W1 ⟨rfl,h⟩;exact⟨rfl,tZ.ext I h⟩)) ?_;refine .s1 3 false [] (λW I _ _=>jD) ?_;refine .o1 2 false [] (λW I _ _ N hN=>?_) ?_
 ·go_simp
  exact hN _ _ (λ_ e=>by cases e) ⟨_,rfl,az hB I.1.size,uf.new W⟩ (tZ.alloc I _)
 refine .o1 3 false [2] (λW I _ f N hN=>?_) ?_
 ·obtain⟨⟨q,eq,hq,u,v,U⟩,_⟩:=f
  have eq:ρ 10=_:=eq;have f0:=aw W q 0 _ _ U;have f1:=aw W q 1 _ _ U;have g0:=aj W q 0 _ _ _ U;have g1:=aj W q 1 _ _ _ U
  go_simp
  exact hN _ _ (λ_ e=>by cases e) ⟨q,eq,hq,Nb.store U⟩ (tZ.store I hq)
 refine .fin λW hR ⟨_,_,_,b5,_⟩=>?_
 obtain⟨q,b6,hq,U⟩:=b5 rfl;rw[show ρ 10=_ from b6];have b4:Ext w W:=x1.trans (by have O:=hR.1;rw[<-a5] at O;exact O);have g0:=aj W q 0 _ _ _ U;have g1:=aj W q 1 _ _ _ U;have J:W.heap[z+1]? =some (.cells #[Vu 0,Vu 0] 38 (0,0)):=by rw[av hR.1 (z+1) ω];exact b0
 have f0:=aw W (z+1) 0 _ _ J;have f1:=aw W (z+1) 1 _ _ J;have k0:=aj W (z+1) 0 _ _ _ J;have k1:=aj W (z+1) 1 _ _ _ J;clear U a0 a1 a6 hK hR x1 a4 X i b0 hB a5;go_wp2;have hc:=Nb.store (x:=r.c) (y:=y) J;have z0:=aj _ (z+1) 0 _ _ _ hc;have z1:=aj _ (z+1) 1 _ _ _ hc;exact aB (v:=idv r.c y) (by simp[cg,results60,go_sem,z0,z1]) rfl ⟨rfl,(b4.setCell (by show w.heap.size<=z+1;omega) _).setCell (by show w.heap.size<=z+1;omega) _⟩
theorem XG (x y:It):(ko [x,y]).length=if onI x y then 1 else 2:=by
 rw[qJ,DY _ _ _ (λ_=>KZ ι)];show(ko [y]).length+(if onI x y=true then 0 else 1)=_;have:(ko [y]).length=1:=rfl;rw[this]
 split <;> rfl
def xk (r s:Rn):Bool:=I7 r s&& !onR r s
theorem acj (r s:Rn):decide (0<=mK r.c (pW r) s.c s.k)= !I7 r s:=by
 have:(0<=mK r.c (pW r) s.c s.k)↔¬(r.c<s.c\/r.c=s.c/\pW r<s.k):=by
  unfold mK rP
  (repeat' split) <;> omega
 unfold I7;by_cases h:r.c<s.c\/r.c=s.c/\pW r<s.k
 ·simp[this,h]
 ·simp[this,h]
theorem Sj (r s:Rn) (w:ae) (hm:mZ r=true) (I:wfR r) (H:wfR s) (ht:r.t.length<=80000000):
  aO pg 31 #[rnv r,rnv s] w λe w'=>e= .returned (.bool (xk r s))/\Ext w w':=by
 have X:=I;have U:=H;unfold wfR at X U;have Y:0<=pW r/\pW r<=4294967295:=by
  obtain⟨_,vs,_,_,h1,h2,_,_⟩:=yx hm;omega
 have N:=ac (λW=>QW r W hm X.2.2.1 X.2.2.2.1 ht);have M:=ac (λW=>MW r.c (pW r) s.c s.k W);have K:=acj r s;have hx:Hid (Bh [⟨r.c,pW r,0,0,r.rc,r.rk,0⟩,⟨s.c,s.k,s.lc,s.lk,s.rc,s.rk,0⟩]):=ac (by
  intro z hz;simp only[List.mem_cons,List.not_mem_nil,or_false] at hz;unfold wfI;rcases hz with rfl|rfl <;> simp only <;> omega)
 have Q:=ac (XG ⟨r.c,pW r,0,0,r.rc,r.rk,0⟩ ⟨s.c,s.k,s.lc,s.lk,s.rc,s.rk,0⟩);have J:onI ⟨r.c,pW r,0,0,r.rc,r.rk,0⟩ ⟨s.c,s.k,s.lc,s.lk,s.rc,s.rk,0⟩=onR r s:=rfl;rw[J] at Q;clear J;generalize pW r=y at*;generalize mK r.c y s.c s.k=z at*;clear I H X U hm ht Y;cases j:I7 r s with
 |false=>
  rw[j,Bool.not_false] at K;have u:=ac (show xk r s=false by unfold xk;rw[j,et]);go_enter func31,ntmps31
  go_wp2_with fail
  refine(N.out _).mono ?_;rintro e q ⟨rfl,x1⟩;have b0:=x1.keep (p:=⟨w.heap.size+1,0,none⟩) (v:=Vu s.c) σ;have Z:=x1.keep (p:=⟨w.heap.size+1,1,none⟩) (v:=Vu s.k) σ;have f:Ext w q:=(((Ext.refl _).alloc _).alloc _).trans x1;clear x1
  go_wp2_with fail
  refine(M.out _).mono ?_;rintro e w2 ⟨rfl,x2⟩;go_wp2;go_ret;exact⟨kE (a:=false) u.out.symm,(f.alloc _).trans x2⟩
 |true=>
  rw[j,Bool.not_true] at K;have u:=ac (show xk r s= !onR r s by unfold xk;rw[j,fi]);go_enter func31,ntmps31
  go_wp2_with fail
  refine(N.out _).mono ?_;rintro e q ⟨rfl,x1⟩;have a4:=x1.keep (p:=⟨w.heap.size,4,none⟩) (v:=Vu r.rc) σ;have a5:=x1.keep (p:=⟨w.heap.size,5,none⟩) (v:=Vu r.rk) σ;have b0:=x1.keep (p:=⟨w.heap.size+1,0,none⟩) (v:=Vu s.c) σ;have Z:=x1.keep (p:=⟨w.heap.size+1,1,none⟩) (v:=Vu s.k) σ;have b2:=x1.keep (p:=⟨w.heap.size+1,2,none⟩) (v:=Vu s.lc) σ;have b3:=x1.keep (p:=⟨w.heap.size+1,3,none⟩) (v:=Vu s.lk) σ;have b4:=x1.keep (p:=⟨w.heap.size+1,4,none⟩) (v:=Vu s.rc) σ;have b5:=x1.keep (p:=⟨w.heap.size+1,5,none⟩) (v:=Vu s.rk) σ;have f:Ext w q:=(((Ext.refl _).alloc _).alloc _).trans x1;clear x1;generalize w.heap.size=pa at*
  go_wp2_with fail
  refine(M.out _).mono ?_;rintro e w2 ⟨rfl,x2⟩;have i:=((Ext.refl q).alloc (.cells #[.int .u32 r.c,.int .u32 y] 38)).trans x2;have c0:=x2.keep (p:=⟨q.heap.size,0,none⟩) (v:=Vu r.c) σ;have c1:=x2.keep (p:=⟨q.heap.size,1,none⟩) (v:=Vu y) σ;replace a4:=i.keep a4;replace a5:=i.keep a5;replace b0:=i.keep b0;replace Z:=i.keep Z;replace b2:=i.keep b2;replace b3:=i.keep b3;replace b4:=i.keep b4;replace b5:=i.keep b5;replace f:=f.trans i;clear x2 i;generalize q.heap.size=pe at*
  go_wp2_with fail
  refine(Gv _ 2 2 [⟨r.c,y,0,0,r.rc,r.rk,0⟩,⟨s.c,s.k,s.lc,s.lk,s.rc,s.rk,0⟩] _ (Row.new w2 _ 106) rfl ω hx.out ω).mono ?_;rintro e w3 ⟨v3,rfl,o3,x3⟩;obtain⟨A3,a0,rfl,_,_⟩:=qz.open o3;rw[Q.out];cases O:onR r s with
  |true=>
   rw[O,Bool.not_true] at u;go_wp2;go_ret;exact⟨kE (a:=false) u.out.symm,(f.alloc _).trans x3⟩
  |false=>
   rw[O,Bool.not_false] at u;go_wp2;go_ret;exact⟨kE (a:=true) u.out.symm,(f.alloc _).trans x3⟩
end
section
attribute [local go_sem] ah
section
def mP:Option Rn->List Rn->Bool
 |_,[]=>true
 |none,r::l=>mZ r&&mP (some r) l
 |some p,r::l=>mZ r&&(xk p r&&mP (some r) l)
def Es (rs:List Rn):Nat->Option Rn
 |0=>none
 |k+1=>rs[k]?
theorem Ir:∀(l:List Rn) (p:Rn),mP (some p) l=(l.all mZ&&vH I7 (p::l)&&vH (λr s=> !onR r s) (p::l))
 |[],p=>rfl
 |r::l,p=>by
  rw[mP,Ir l r,fR,Bq,Bq,xk];cases mZ r <;> cases I7 p r <;> cases onR p r <;> simp
variable {k:Nat} {r:Rn} {rs:List Rn}
theorem R8 (l:List Rn):mP none l=(l.all mZ&&vH I7 l&&vH (λr s=> !onR r s) l):=by
 cases l with
 |nil=>rfl
 |cons r l=>rw[mP,Ir,fR];simp[Bool.and_assoc]
theorem QL (rs:List Rn) (ds:List Sp):wR rs ds=(mP none rs&&jE zS ds):=by rw[Vj,R8]
theorem Dj (h:rs[k]? =some r):Es rs (k+1)=some r:=h
theorem AU (h:rs[k]? =some r) (p:Option Rn):mP p (rs.drop k)=mP p (r::rs.drop (k+1)):=by
 obtain⟨a,e⟩:=List.getElem?_eq_some_iff.1 h;rw[List.drop_eq_getElem_cons a,e]
theorem WR (h:rs[k]? =some r) (hm:mZ r=false) (p:Option Rn):mP p (rs.drop k)=false:=by
 rw[AU h];cases p <;> rw[mP,hm,et]
theorem PX (h:rs[0]? =some r) (hm:mZ r=true):mP (Es rs 0) (rs.drop 0)=mP (Es rs (0+1)) (rs.drop (0+1)):=by
 rw[AU h,Dj h];show mP none _=_;rw[mP,hm,fi]
theorem R9 {p:Rn} (a:rs[k]? =some p) (h:rs[k+1]? =some r) (hm:mZ r=true):mP (Es rs (k+1)) (rs.drop (k+1))=(xk p r&&mP (Es rs (k+1+1)) (rs.drop (k+1+1))):=by
 rw[AU h,Dj h,Dj a,mP,hm,fi]
theorem WQ (h:rs.length<=k) (p:Option Rn):mP p (rs.drop k)=true:=by
 rw[List.drop_eq_nil_of_le h];cases p <;> rfl
theorem GN (A:Option Addr) (n c:Nat) (B:Option Addr) (m d:Nat) (rs:List Rn) (ds:List Sp) (w:ae) (hT:Tabs w) (hv:RnS w A rs) (hn:rs.length=n) (hS:SpS w B ds) (hm:ds.length=m)
  (hw:∀r∈rs,wfR r/\r.t.length<=80000000) (a3:wfS ds) (hb:m<=400000) (b1:n<=40000000):
  aO pg 17 #[Si A n c B m d] w λe w'=>e= .returned (.bool (wR rs ds))/\Ext w w':=by
 rw[QL];have U:=ac (λW (J:Ext w W)=>YP B m d ds W (hS.ext J) hm a3 hb);replace hn:=ac hn;replace hv:=ac hv;replace hw:=ac hw;replace hT:=ac hT;clear hS hm a3 hb;go_enter func17,ntmps17;go_wp2;have x0:Ext w (w.alloc (.cells #[.slice A n c,.slice B m d] 36)):=(Ext.refl _).alloc _;have a0:(w.alloc (.cells #[.slice A n c,.slice B m d] 36)).cell? ⟨w.heap.size,0,none⟩=some (.slice A n c):=σ
 have a1:(w.alloc (.cells #[.slice A n c,.slice B m d] 36)).cell? ⟨w.heap.size,1,none⟩=some (.slice B m d):=σ
 generalize w.alloc (.cells #[.slice A n c,.slice B m d] 36)=w0 at*;generalize w.heap.size=pa at*
 go_loopw [8] (λi W=>∃(k:Nat),k<=n/\i=Vi k/\Hid (mP none rs=mP (Es rs k) (rs.drop k))/\Hid ((rs.take k).all mZ=true)/\Ext w0 W) (λi _=>n-(intOf i).toNat)
 case atStart=>exact⟨0,Nat.zero_le _,rfl,ac (by simp[Es]),ac ι,Ext.refl _⟩
 case round=>
  obtain⟨k,hk,rfl,hrel,M,J⟩:=hrel;by_cases a5:k<n
  ·obtain⟨b,o,r,rfl,H,dd⟩:=hv.out.at (k:=k) (by rw[hn.out];exact a5)
   obtain⟨O,X⟩:=hw.out r (aD H);have LY:=O;unfold wfR at LY;obtain⟨c0,c1,c2,c3,c4,c5,c6⟩:=dd.ext (x0.trans J);have f:=ac (λW (hX:Ext w W)=>QK r W (hT.out.ext hX) LY.2.2.1 LY.2.2.2.1 X);have y0:=J.keep a0
   go_wp2_with fail
   have q0:(wr.alloc (aT #[.int .u32 r.c,.int .u32 r.k,.int .u32 r.lc,.int .u32 r.lk,.int .u32 r.rc,.int .u32 r.rk,.string ⟨r.t.toArray⟩] 40)).cell? ⟨wr.heap.size,0,none⟩=some (Vu r.c):=σ
   have q1:(wr.alloc (aT #[.int .u32 r.c,.int .u32 r.k,.int .u32 r.lc,.int .u32 r.lk,.int .u32 r.rc,.int .u32 r.rk,.string ⟨r.t.toArray⟩] 40)).cell? ⟨wr.heap.size,1,none⟩=some (Vu r.k):=σ
   have q2:(wr.alloc (aT #[.int .u32 r.c,.int .u32 r.k,.int .u32 r.lc,.int .u32 r.lk,.int .u32 r.rc,.int .u32 r.rk,.string ⟨r.t.toArray⟩] 40)).cell? ⟨wr.heap.size,2,none⟩=some (Vu r.lc):=σ
   have q3:(wr.alloc (aT #[.int .u32 r.c,.int .u32 r.k,.int .u32 r.lc,.int .u32 r.lk,.int .u32 r.rc,.int .u32 r.rk,.string ⟨r.t.toArray⟩] 40)).cell? ⟨wr.heap.size,3,none⟩=some (Vu r.lk):=σ
   have q4:(wr.alloc (aT #[.int .u32 r.c,.int .u32 r.k,.int .u32 r.lc,.int .u32 r.lk,.int .u32 r.rc,.int .u32 r.rk,.string ⟨r.t.toArray⟩] 40)).cell? ⟨wr.heap.size,4,none⟩=some (Vu r.rc):=σ
   have q5:(wr.alloc (aT #[.int .u32 r.c,.int .u32 r.k,.int .u32 r.lc,.int .u32 r.lk,.int .u32 r.rc,.int .u32 r.rk,.string ⟨r.t.toArray⟩] 40)).cell? ⟨wr.heap.size,5,none⟩=some (Vu r.rk):=σ
   have q6:(wr.alloc (aT #[.int .u32 r.c,.int .u32 r.k,.int .u32 r.lc,.int .u32 r.lk,.int .u32 r.rc,.int .u32 r.rk,.string ⟨r.t.toArray⟩] 40)).cell? ⟨wr.heap.size,6,none⟩=some (.string ⟨r.t.toArray⟩):=σ
   have x1:Ext wr (wr.alloc (aT #[.int .u32 r.c,.int .u32 r.k,.int .u32 r.lc,.int .u32 r.lk,.int .u32 r.rc,.int .u32 r.rk,.string ⟨r.t.toArray⟩] 40)):=(Ext.refl _).alloc _;clear c0 c1 c2 c3 c4 c5 c6;generalize wr.alloc (aT #[.int .u32 r.c,.int .u32 r.k,.int .u32 r.lc,.int .u32 r.lk,.int .u32 r.rc,.int .u32 r.rk,.string ⟨r.t.toArray⟩] 40)=W1 at*;generalize wr.heap.size=py at*;have N:=J.trans x1;have z:=x0.trans N;have a7:=ai (x1.keep y0);clear x1 y0;have s0:=ai q0;have s1:=ai q1;have s2:=ai q2;have s3:=ai q3;have s4:=ai q4;have s5:=ai q5;have s6:=ai q6;clear q0 q1 q2 q3 q4 q5 q6;cases q:mZ r with
   |false=>
    rw[q] at f;have K:=ac (WR H q (Es rs k));clear q H dd;refine ax κ κ ?_
    repeat go_big_quiet_step((with_reducible exact Calls.jA (f.out _ (z.trans (Ext.jv _ _ _)))))
    refine bh ?_;intro _ u;obtain⟨⟨dq,osq⟩,j⟩:=u;subst j;go_wp2;go_ret;exact⟨kE (a:=false) (by rw[hrel.out,K.out,et]),z.trans (Ext.jv _ _ _)⟩
   |true=>
    rw[q] at f;have TJ:=ac (show(rs.take (k+1)).all mZ=true by rw[zV H,M.out,q];rfl);cases k with
    |zero=>
     have K:=ac (PX H q);clear q H dd;refine ax κ κ ?_
     repeat go_big_quiet_step((with_reducible exact Calls.jA (f.out _ (z.trans (Ext.jv _ _ _)))))
     refine bh ?_;intro _ u;obtain⟨⟨dq,osq⟩,j⟩:=u;subst j;go_wp2
     go_roundw
     case rel=>exact⟨0+1,ω,ν,ac (by rw[hrel.out,K.out]),TJ,N.trans (Ext.jv _ _ _)⟩
     case measure=>simp[intOf];omega
    |succ k=>
     obtain⟨b',o',p,e,Y,ee⟩:=hv.out.at (k:=k) (by rw[hn.out];omega);injection e with e;injection e with e1 e2;subst e1;subst e2;obtain⟨Q,Z⟩:=hw.out p (aD Y);have a2:mZ p=true:=by
      have:=M.out;rw[zV Y,Bool.and_eq_true] at this;exact this.2
     obtain⟨t0,t1,t2,t3,t4,t5,t6⟩:=ee.ext z;have r0:=ai t0;have r1:=ai t1;have r2:=ai t2;have r3:=ai t3;have r4:=ai t4;have r5:=ai t5;have r6:=ai t6;clear t0 t1 t2 t3 t4 t5 t6 ee dd;have a6:cJ.wrap (((k+1:Nat):Int)-1)=(k:Int):=by rw[show(((k+1:Nat):Int)-1)=(k:Int) by omega];exact bP _ ω
     have a9:(0:Int)<=(k:Int):=ω
     have a8:(k:Int)<(n:Int):=ω
     have hg:decide ((0:Int)<((k+1:Nat):Int))=true:=ι
     have b0:decide ((0:Int)<(k:Int)+1)=true:=by rw[decide_eq_true_eq];omega
     have K:=ac (R9 Y H q);have wV:=ac (λW=>Sj p r W a2 Q O Z);clear q a2 Q O LY Z X;cases I:xk p r with
     |true=>
      rw[I] at wV K;clear I Y H;refine ax κ κ ?_
      repeat go_big_quiet_step((first|with_reducible exact Calls.jA (f.out _ (z.trans (Ext.jv _ _ _)))|with_reducible exact Calls.jA (wV.out _)))
      refine bh ?_;intro _ u;obtain⟨⟨dq,osq⟩,j⟩:=u;subst j;go_wp2
      go_roundw
      case rel=>exact⟨k+1+1,ω,ν,ac (by rw[hrel.out,K.out,fi]),TJ,N.trans (Ext.jv _ _ _)⟩
      case measure=>simp[intOf];omega
     |false=>
      rw[I] at wV K;clear I Y H;refine ax κ κ ?_
      repeat go_big_quiet_step((first|with_reducible exact Calls.jA (f.out _ (z.trans (Ext.jv _ _ _)))|with_reducible exact Calls.jA (wV.out _)))
      refine bh ?_;intro _ u;obtain⟨⟨dq,osq⟩,j⟩:=u;subst j;go_wp2;go_ret;exact⟨kE (a:=false) (by rw[hrel.out,K.out,et,et]),z.trans (Ext.jv _ _ _)⟩
  ·have hz:=ac (show mP none rs=true by rw[hrel.out];exact WQ (by rw[hn.out];omega) _)
   have y1:=J.keep a1;have a4:=ac (U.out wr (x0.trans J))
   go_wp2_with fail
   refine a4.out.mono ?_;rintro e w2 ⟨rfl,x2⟩;go_wp2;go_ret;exact⟨kE (by rw[hz.out,fi]),(x0.trans J).trans x2⟩
end
section
abbrev abq:au:= .agg #[.slice none 0 0,.slice none 0 0]
def ae9 (w:ae) (r:Option (List Rn×List Sp)) (e:Ending) (w':ae):Prop:=match r with
 |none=>e= .returned (.tuple #[abq,lF 2])/\Ext w w'
 |some (rs,ds)=>∃vr a,e= .returned (.tuple #[.agg #[vr,a],.nilIface])/\qz w w' vr rs/\kZ w w' a ds/\Ext w w'
theorem aaV {rs:List Rn} {ds:List Sp} {r:Rn} (h:r∈rs):r.t.length<=(nN rs ds).length:=by
 obtain⟨a,b,rfl⟩:=List.append_of_mem h;simp only[nN,kX,sF,List.flatMap_append,List.flatMap_cons,ag];omega
theorem adr {ds:List Sp} (h:∀s∈ds,EK s):wfS ds:=h
section
variable {w:ae} {A:Option Addr} {n c:Nat} {l:List UInt8}
def Pn (w:ae) (A:Option Addr) (n c:Nat):ae:=(w.alloc (.cells #[.slice none 0 0,.slice none 0 0] 36)).alloc (.cells #[.slice A n c,.int .i64 0,.bool false] 148)
theorem Pm (w:ae) (A:Option Addr) (n c:Nat):Ext w (Pn w A n c):=((Ext.refl _).alloc _).alloc _
theorem aeB (w:ae) (A:Option Addr) (n c:Nat):(Pn w A n c).heap[w.heap.size]? =some (.cells #[.slice none 0 0,.slice none 0 0] 36 (0,0)):=by
 unfold Pn;rw[av ((Ext.refl (w.alloc (.cells #[.slice none 0 0,.slice none 0 0] 36))).alloc _) w.heap.size ι];exact aI _ _
theorem ZI (w:ae) (A:Option Addr) (n c:Nat):RdS (Pn w A n c) (w.heap.size+1) A n c (0,false):=by
 unfold Pn RdS;have h:=aI (w.alloc (.cells #[.slice none 0 0,.slice none 0 0] 36)) (.cells #[.slice A n c,.int .i64 0,.bool false] 148);rw[show(w.alloc (.cells #[.slice none 0 0,.slice none 0 0] 36)).heap.size=w.heap.size+1 by simp] at h;exact h
theorem Ud {p:Prop} (h:p:=by
 obtain⟨hZ,hz⟩:=ZQ.out w2 (.cells #[.slice Ar rs.length cr,.slice Ad ds.length cd] 36) hE2 hq2;obtain⟨u0,u1,_,_⟩:=yO hz;replace hZ:=ac hZ;clear yJ hfact RI ZQ hz hq3 hq2 or3 od3 s2 s3;go_wp2;rw[hG.out];exact aB (v:= .tuple #[abq,lF 2]) (by simp[cg,results35,go_sem,lF,u0,u1]) rfl ⟨rfl,hZ.out⟩):p:=h
theorem Rq (Y:Tabs w) (hb:Bys w A l) (hl:l.length=n) (hc:n<=c) (hn:n<=20000) (a6:∀rs ds e,parse l=some (rs,ds,e)->e=n->ds.length<=400000):
  aO pg 35 #[.slice A n c] w (ae9 w (kT l)):=by
 have i:=ac (U2 (w0:=w) (W:=Pn w A n c) (p:=w.heap.size+1) (Pm w A n c) ω hb hl hc ω Y (ZI w A n c) ι);have M:=Pm w A n c;have Q:=aeB w A n c;have a3:=ZI w A n c;have hg:decide ((20000:Int)<(n:Int))=false:=by rw[decide_eq_false_iff_not];omega
 have yJ:kT l=if(uy l (0,false)).2.2=false/\(uy l (0,false)).2.1=n/\wR (uy l (0,false)).1.1 (uy l (0,false)).1.2=true then some (uy l (0,false)).1 else none:=by
  unfold kT;rw[if_neg ω];cases f:parse l with
  |none=>rw[if_neg (λh=>by rw[P6 f] at h;cases h.1)]
  |some x=>
   obtain⟨rs,ds,e⟩:=x;rw[P5 f];simp only[true_and,hl]
 have hfact:(uy l (0,false)).2.2=false->(uy l (0,false)).2.1<=n/\((uy l (0,false)).2.1=n->(∀r∈(uy l (0,false)).1.1,wfR r/\r.t.length<=80000000)/\wfS (uy l (0,false)).1.2/\(uy l (0,false)).1.2.length<=400000/\(uy l (0,false)).1.1.length<=40000000):=by
  intro u;cases f:parse l with
  |none=>rw[P6 f] at u;cases u
  |some x=>
   obtain⟨rs,ds,e⟩:=x;rw[P5 f];obtain⟨h1,h2,h3,h4,h5⟩:=Ae f;simp only;refine⟨ω,λhe=>⟨λr hr=>⟨(h3 r hr).1,?_⟩,adr h4,a6 rs ds e f he,ω⟩⟩;have h6:=aaV (ds:=ds) hr;have h7:(l.take e).length=(nN rs ds).length:=by rw[h2]
   rw[List.length_take] at h7;omega
 generalize kT l=G at*;generalize uy l (0,false)=X at*;obtain⟨⟨rs,ds⟩,at',b0⟩:=X;simp only at i hfact yJ;replace yJ:=ac yJ;replace Y:=ac Y;replace hfact:=ac hfact;go_enter func35,ntmps35
 go_wp2_with fail
 refine i.out.mono ?_;rintro e w2 ⟨vr,vd,rfl,or,od,fr,fd,s2,g2⟩;have hE2:Ext w w2:=RX.down M ω g2;have hq2:=g2.blk Q ω;obtain⟨Ar,cr,a0,b8,a9⟩:=qz.open or;obtain⟨Ad,cd,a1,a8⟩:=SpS.own od;subst a0;subst a1;have x3:Ext w2 (w2.alloc (.cells #[.slice Ar rs.length cr,.slice Ad ds.length cd] 36)):=(Ext.refl _).alloc _;have hq3:(w2.alloc (.cells #[.slice Ar rs.length cr,.slice Ad ds.length cd] 36)).heap[w.heap.size]? =some (.cells #[.slice none 0 0,.slice none 0 0] 36 (0,0)):=by
  rw[av x3 _ (an.1 hq2).1];exact hq2
 have s3:=s2.ext x3;have K:(w2.alloc (.cells #[.slice Ar rs.length cr,.slice Ad ds.length cd] 36)).heap[w2.heap.size]? =some (.cells #[.slice Ar rs.length cr,.slice Ad ds.length cd] 36 (0,0)):=aI _ _;have or3:=or.ext x3;have od3:=od.ext x3;have I:=hE2.trans x3;have b1:w.heap.size<w2.heap.size:=(an.1 hq2).1;obtain⟨d0,d1,d2,_,_⟩:=s3.cells;obtain⟨y0,y1,_,_⟩:=yO K;obtain⟨z0,z1,f0,f1⟩:=yO hq3;obtain⟨b3,b2,d3,b9⟩:=yO hq2;simp only at d1 d2;clear i g2 K Q a3 M or od;have RI:∀(Z:ae) (hZ:Ext w Z) (hz:Z.heap[w.heap.size]? =some (.cells #[.slice none 0 0,.slice none 0 0] 36 (0,0))),
   Ext w ((Z.setCell ⟨w.heap.size,0,none⟩ (.slice none 0 0)).setCell ⟨w.heap.size,1,none⟩ (.slice none 0 0))/\((Z.setCell ⟨w.heap.size,0,none⟩ (.slice none 0 0)).setCell ⟨w.heap.size,1,none⟩ (.slice none 0 0)).heap[w.heap.size]? =some (.cells #[.slice none 0 0,.slice none 0 0] 36 (0,0)):=λZ hZ hz=>
  ⟨(hZ.setCell (am _) _).setCell (am _) _,al _ _ 1 _ _ _ (al _ _ 0 _ _ _ hz)⟩
 have ZQ:∀(Z:ae) (o:Obj) (hZ:Ext w Z) (hz:Z.heap[w.heap.size]? =some (.cells #[.slice none 0 0,.slice none 0 0] 36 (0,0))),
   Ext w (((Z.setCell ⟨w.heap.size,0,none⟩ (.slice none 0 0)).setCell ⟨w.heap.size,1,none⟩ (.slice none 0 0)).alloc o)/\(((Z.setCell ⟨w.heap.size,0,none⟩ (.slice none 0 0)).setCell ⟨w.heap.size,1,none⟩ (.slice none 0 0)).alloc o).heap[w.heap.size]? =some (.cells #[.slice none 0 0,.slice none 0 0] 36 (0,0)):=λZ o hZ hz=>by
  obtain⟨h1,h2⟩:=RI Z hZ hz;exact⟨h1.alloc o,by rw[av ((Ext.refl _).alloc o) _ (an.1 h2).1];exact h2⟩
 replace RI:=ac RI;replace ZQ:=ac ZQ;have b5:w.heap.size+1<w2.heap.size:=s2.lt;cases b0 with
 |true=>
  have hG:=ac (show G=none by rw[yJ.out,if_neg ι]);exact Ud
 |false=>
  obtain⟨b7,U⟩:=hfact.out rfl;by_cases b6:at'<n
  ·have hG:=ac (show G=none by rw[yJ.out,if_neg (λh=>ω)])
   have a4:decide ((at':Int)<(n:Int))=true:=by rw[decide_eq_true_eq];omega
   exact Ud
  ·have a7:at'=n:=ω
   subst a7;obtain⟨N,O,a5,a2⟩:=U rfl;have a4:decide ((at':Int)<(at':Int))=false:=ι
   have j:=ac (GN Ar rs.length cr Ad ds.length cd rs ds (w2.alloc (.cells #[.slice Ar rs.length cr,.slice Ad ds.length cd] 36)) (Y.out.ext I) (a9.ext x3) rfl (a8.ext x3) rfl N O a5 a2);replace or3:=ac or3;replace od3:=ac od3;replace hq3:=ac hq3;clear N O hfact U;cases q:wR rs ds with
   |false=>
    rw[q] at j;have hG:=ac (show G=none by rw[yJ.out,if_neg (λh=>by rw[q] at h;cases h.2.2)]);clear yJ
    go_wp2_with fail
    refine j.out.mono ?_;rintro e J ⟨rfl,x4⟩;have a:J.heap[w.heap.size]? =some (.cells #[.slice none 0 0,.slice none 0 0] 36 (0,0)):=by
       rw[av x4 _ (an.1 hq3.out).1];exact hq3.out
    obtain⟨_,_,f0,f1⟩:=yO a;obtain⟨z0,z1,_,_⟩:=yO a;obtain⟨hZ,hz⟩:=RI.out _ (I.trans x4) a;obtain⟨u0,u1,_,_⟩:=yO hz;replace hZ:=ac hZ;clear RI hz a;go_wp2;rw[hG.out];exact aB (v:= .tuple #[abq,lF 2]) (by simp[cg,results35,go_sem,lF,u0,u1]) rfl ⟨rfl,hZ.out⟩
   |true=>
    rw[q] at j;have hG:=ac (show G=some (rs,ds) by rw[yJ.out,if_pos ⟨rfl,rfl,q⟩]);clear yJ
    go_wp2_with fail
    refine j.out.mono ?_;rintro e J ⟨rfl,x4⟩;have a:J.heap[w.heap.size]? =some (.cells #[.slice none 0 0,.slice none 0 0] 36 (0,0)):=by
       rw[av x4 _ (an.1 hq3.out).1];exact hq3.out
    obtain⟨z0,z1,f0,f1⟩:=yO a;have v0:=x4.keep y0;have v1:=x4.keep y1;have hz:=al _ _ 1 _ _ (.slice Ad ds.length cd) (al _ _ 0 _ _ (.slice Ar rs.length cr) a);obtain⟨u0,u1,_,_⟩:=yO (x:= .slice Ar rs.length cr) (y:= .slice Ad ds.length cd) hz;have b4:(Pn w A at' c).heap.size=w.heap.size+2:=by unfold Pn;simp
    have nr:=fr.ne (k:=w.heap.size) ω;have nd:=fd.ne (k:=w.heap.size) ω;have z:=((or3.out.ext x4).kept (RX.set (RX.refl w.heap.size J) 0 (.slice Ar rs.length cr) (.inr rfl)) nr).kept (RX.set (RX.refl w.heap.size _) 1 (.slice Ad ds.length cd) (.inr rfl)) nr;have H:=((od3.out.ext x4).kept (RX.set (RX.refl w.heap.size J) 0 (.slice Ar rs.length cr) (.inr rfl)) nd).kept (RX.set (RX.refl w.heap.size _) 1 (.slice Ad ds.length cd) (.inr rfl)) nd;have hZ:=ac (((I.trans x4).setCell (p:=⟨w.heap.size,0,none⟩) (am _) (.slice Ar rs.length cr)).setCell (p:=⟨w.heap.size,1,none⟩) (am _) (.slice Ad ds.length cd));replace z:=ac z;replace H:=ac H;clear hz a RI ZQ or3 od3 s2 s3 nr nd fr fd;go_wp2;rw[hG.out];exact aB (v:= .tuple #[.agg #[.slice Ar rs.length cr,.slice Ad ds.length cd],.nilIface]) (by simp[cg,results35,go_sem,u0,u1]) rfl ⟨_,_,rfl,z.out,H.out,hZ.out⟩
end
end
end
end Go.Proofs.YtncfhbpejchbfaaGreatDoor

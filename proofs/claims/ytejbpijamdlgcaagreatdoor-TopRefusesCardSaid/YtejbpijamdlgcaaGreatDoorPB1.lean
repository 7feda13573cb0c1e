/-
  Lemmas of this seat; no claim.
-/
import Derived.Test.YtejbpijamdlgcaaGreatDoorBMayP
import Derived.Test.YtejbpijamdlgcaaGreatDoorPW1
import Derived.Test.YtejbpijamdlgcaaGreatDoorPRf1
import Derived.Test.YtejbpijamdlgcaaGreatDoorPN1
set_option linter.unusedVariables false
set_option linter.unusedSimpArgs false
set_option maxRecDepth 100000
set_option maxHeartbeats 16000000
open Array renaming getElem?_eq_some_iff→aC
open Bool renaming false_and→iQ,true_and→jr
open Go renaming Calls→aX,Value→aI,World→aj,bodyPost_ret→aN,cell_of_row→ak,cell_regrown→av,frozen_of_row→aK,heap_alloc_new→aT,heap_setCell_other→bA,heap_setCell_same→aB,results→dK,wpQuiet_nil→bQ,wp_region_quiet_below→aL
open Go.IntKind renaming i64→dO,u32→aA
open Go.IntWalk renaming i64_in→cO,u32_in→iX
open Go.Lib renaming hid→ah
open Go.Obj renaming cells→bF
open Go.RowKit.Below renaming block→aJ,cell→jG,refl→lV
open Go.World renaming cell?_alloc_some→au
open Go.World.ownsRow renaming kept→kS
open List renaming all_cons→jS,drop_succ_cons→dN,drop_zero→dX,length_append→ay,length_cons→aH,length_nil→aR,mem_of_getElem?→aP
open Nat renaming eq_zero_or_pos→gD,le_refl→aD,le_trans→aM,lt_of_lt_of_le→bD,zero_add→bH
open Option.some renaming injEq→bJ
open Prod.mk renaming injEq→dI
namespace Go.Proofs.YtejbpijamdlgcaaGreatDoor
open Go.ChangeShapes Go.WideShapes Go.ChangeAt Go.RowKit Go.Sort
section
attribute [local go_sem] au
section
def pG (l:List UInt8) (s:Nat×Bool):Nat×Nat×Bool:=match uJ l s.1 with
 |none=>(0,s.1,true)
 |some (v,k)=>(v,s.1+k,s.2)
def yQ (l:List UInt8) (s:Nat×Bool):List UInt8×Nat×Bool:=match Dp l s.1 with
 |none=>([],s.1,true)
 |some (t,k)=>(t,s.1+k,s.2)
def idS (l:List UInt8) (s:Nat×Bool):(Nat×Nat)×Nat×Bool:=(((pG l s).1,(pG l (pG l s).2).1),(pG l (pG l s).2).2)
def tZ (l:List UInt8) (s:Nat×Bool):Sp×Nat×Bool:=(((pG l s).1,(pG l (pG l s).2).1,(pG l (pG l (pG l s).2).2).1),(pG l (pG l (pG l s).2).2).2)
def yS (l:List UInt8) (s:Nat×Bool):Rn×Nat×Bool:=
 (⟨(idS l s).1.1,(idS l s).1.2,(idS l (idS l s).2).1.1,(idS l (idS l s).2).1.2,(idS l (idS l (idS l s).2).2).1.1,(idS l (idS l (idS l s).2).2).1.2,(yQ l (idS l (idS l (idS l s).2).2).2).1⟩,(yQ l (idS l (idS l (idS l s).2).2).2).2)
theorem xg (l:List UInt8) (s:Nat×Bool) (h:s.1<=l.length):(pG l s).2.1<=l.length/\(pG l s).1<4294967296:=by
 unfold pG;cases a:uJ l s.1 with
 |none=>exact⟨h,ι⟩
 |some x=>
  obtain⟨v,k⟩:=x;have:=Df a;have e:=(xB a).2.2.2.2;exact⟨by simp only;omega,e⟩
theorem acB (l:List UInt8) (s:Nat×Bool) (h:s.1<=l.length):(yQ l s).2.1<=l.length:=by
 unfold yQ;cases a:Dp l s.1 with
 |none=>exact h
 |some x=>
  obtain⟨t,k⟩:=x;exact(D9 h a).1
theorem Uc (l:List UInt8) (s:Nat×Bool) (h:s.1<=l.length):(idS l s).2.1<=l.length:=(xg l _ (xg l s h).1).1
def RdS (W:aj) (p:Nat) (A:Option Addr) (n c:Nat) (s:Nat×Bool):Prop:=W.heap[p]? =some (.cells #[.slice A n c,Vi s.1,.bool s.2] 205 (0,0))
theorem RdS.ext {W W':aj} {p:Nat} {A:Option Addr} {n c:Nat} {s:Nat×Bool} (h:RdS W p A n c s) (a:Ext W W'):RdS W' p A n c s:=by
 unfold RdS at h⊢;rw[aJ a p (aC.1 h).1];exact h
theorem RdS.lt {W:aj} {p:Nat} {A:Option Addr} {n c:Nat} {s:Nat×Bool} (h:RdS W p A n c s):p<W.heap.size:=(aC.1 h).1
theorem RdS.cells {W:aj} {p:Nat} {A:Option Addr} {n c:Nat} {s:Nat×Bool} (h:RdS W p A n c s):
  W.cell? ⟨p,0,none⟩=some (.slice A n c)/\W.cell? ⟨p,1,none⟩=some (Vi s.1)/\W.cell? ⟨p,2,none⟩=some (.bool s.2)/\W.frozen? ⟨p,1,none⟩=false/\W.frozen? ⟨p,2,none⟩=false:=
 ⟨by rw[ak W p 0 _ _ _ h];rfl,by rw[ak W p 1 _ _ _ h];rfl,by rw[ak W p 2 _ _ _ h];rfl,aK W p 1 _ _ h,aK W p 2 _ _ h⟩
theorem RdS.set {W:aj} {p:Nat} {A:Option Addr} {n c:Nat} {s:Nat×Bool} (h:RdS W p A n c s) (a:Nat) (b:Bool):RdS ((W.setCell ⟨p,1,none⟩ (Vi a)).setCell ⟨p,2,none⟩ (.bool b)) p A n c (a,b):=
 aB _ _ 2 _ _ _ (aB _ _ 1 _ _ _ h)
theorem Pv {p:Prop} (h:p:=by
 go_enter Tryz.func167,Tryz.ntmps167;go_wp2;exact bodyPost_end (v:= .tuple #[]) (by simp[dK,Tryz.results167,go_sem]) rfl ⟨rfl,hst.out,hrx.out⟩):p:=h
theorem ac1 (W:aj) (p:Nat) (A:Option Addr) (n c at':Nat) (b:Bool) (k:Nat) (a:RdS W p A n c (at',b)) (h:at'<=40000000) (i:k<=40000000):
  aX Tryz.prog 167 #[.pointer (some ⟨p,0,none⟩),Vi k,.nilIface] W λe w'=>e= .returned (.tuple #[])/\RdS w' p A n c (at'+k,b)/\RX p W w':=by
 obtain⟨_,c1,c2,q,j⟩:=a.cells;have f:dO.wrap ((at':Int)+(k:Int))=((at'+k:Nat):Int):=by rw[cO _ ω];omega
 have hst:=ah (a.set (at'+k) b);have hrx:RX p W ((W.setCell ⟨p,1,none⟩ (Vi ((at'+k:Nat):Int))).setCell ⟨p,2,none⟩ (.bool b)):=((RX.refl p W).set 1 _ (.inr rfl)).set 2 _ (.inr rfl);replace hrx:=ah hrx;simp only at c1 c2;clear a;cases b with
 |true=>
  exact Pv
 |false=>
  exact Pv
theorem ZW (W:aj) (p:Nat) (A:Option Addr) (n c at':Nat) (b:Bool) (a:RdS W p A n c (at',b)) (h:at'<=40000000):
  aX Tryz.prog 167 #[.pointer (some ⟨p,0,none⟩),Vi 0,KC] W λe w'=>e= .returned (.tuple #[])/\RdS w' p A n c (at',true)/\RX p W w':=by
 obtain⟨_,c1,c2,j,i⟩:=a.cells;have f:dO.wrap (at':Int)=(at':Int):=cO _ ω;have hst:=ah (a.set at' true);have hrx:RX p W ((W.setCell ⟨p,1,none⟩ (Vi (at':Int))).setCell ⟨p,2,none⟩ (.bool true)):=((RX.refl p W).set 1 _ (.inr rfl)).set 2 _ (.inr rfl);replace hrx:=ah hrx;simp only at c1 c2;clear a;cases b with
 |true=>
  exact Pv
 |false=>
  exact Pv
section
variable {w0 W:aj} {p:Nat} {A:Option Addr} {n c:Nat} {l:List UInt8} {s:Nat×Bool}
theorem ab1 {p:Prop} (h:p:=by
 go_wp2_with fail
 refine aL κ κ ?_
 repeat go_big_quiet_step((with_reducible exact Calls.oh (hget.out _ (Ext.nX _ _ _))))
 refine bQ ?_;intro _ hw';obtain⟨⟨dq,osq⟩,hw''⟩:=hw';subst hw'';have hs2:=hs'.out.ext (Ext.nX W dq osq);have hx2:=RX.ext (p:=p) (Ext.nX W dq osq);clear c0 c1;generalize grow (redrawn W dq) osq=W2 at*
 go_wp2_with fail
 refine(ac1 W2 p A n c at' b k hs2 ω ω).mono ?_;rintro e w3 ⟨rfl,s3,x3⟩;go_wp2;go_ret;exact⟨rfl,s3,hx2.trans x3⟩):p:=h
theorem ab0 {p:Prop} (h:p:=by
 go_wp2_with fail
 refine aL κ κ ?_
 repeat go_big_quiet_step((with_reducible exact Calls.oh (hget.out _ (Ext.nX _ _ _))))
 refine bQ ?_;intro _ hw';obtain⟨⟨dq,osq⟩,hw''⟩:=hw';subst hw'';have hs2:=hs'.out.ext (Ext.nX W dq osq);have hx2:=RX.ext (p:=p) (Ext.nX W dq osq);clear c0 c1;generalize grow (redrawn W dq) osq=W2 at*
 go_wp2_with fail
 refine(ZW W2 p A n c at' b hs2 ω).mono ?_;rintro e w3 ⟨rfl,s3,x3⟩;go_wp2;go_ret;exact⟨rfl,s3,hx2.trans x3⟩):p:=h
theorem xA (z:Ext w0 W) (N:w0.heap.size<=p) (K:Bys w0 A l) (I:l.length=n) (J:n<=c) (H:n<=12000000) (j:RdS W p A n c s) (i:s.1<=n):
  aX Tryz.prog 135 #[.pointer (some ⟨p,0,none⟩)] W λe w'=>e= .returned (Vu (pG l s).1)/\RdS w' p A n c (pG l s).2/\RX p W w':=by
 have hget:=ah (λW' (M:Ext W W')=>OZ A n c l s.1 W' (K.ext (z.trans M)) I J H);obtain⟨d0,q,_,_,_⟩:=j.cells;have c0:=av d0;have c1:=av q;clear d0 q;have hs':=ah j;obtain⟨at',b⟩:=s;simp only at i hget c1;cases a:uJ l at' with
 |none=>
  rw[a] at hget;simp only[Kq] at hget;have f:pG l (at',b)=(0,at',true):=by simp only[pG,a]
  rw[f];clear a f;go_enter Tryz.func135,Tryz.ntmps135;exact ab0
 |some u=>
  obtain⟨v,k⟩:=u;have O:=Df a;rw[a] at hget;simp only[Kq] at hget;have f:pG l (at',b)=(v,at'+k,b):=by simp only[pG,a]
  rw[f];clear a f;go_enter Tryz.func135,Tryz.ntmps135;exact ab1
theorem Xg (j:Ext w0 W) (O:w0.heap.size<=p) (M:Bys w0 A l) (J:l.length=n) (K:n<=c) (I:n<=12000000) (N:Tabs w0) (q:RdS W p A n c s) (i:s.1<=n):
  aX Tryz.prog 169 #[.pointer (some ⟨p,0,none⟩)] W λe w'=>e= .returned (Vt (yQ l s).1)/\RdS w' p A n c (yQ l s).2/\RX p W w':=by
 have hget:=ah (λW' (u:Ext W W')=>RF A n c l s.1 W' (M.ext (j.trans u)) J K I (N.ext (j.trans u)));obtain⟨d0,z,_,_,_⟩:=q.cells;have c0:=av d0;have c1:=av z;clear d0 z;have hs':=ah q;obtain⟨at',b⟩:=s;simp only at i hget c1;cases a:Dp l at' with
 |none=>
  rw[a] at hget;simp only[vE] at hget;have f:yQ l (at',b)=([],at',true):=by simp only[yQ,a]
  rw[f];clear a f;go_enter Tryz.func169,Tryz.ntmps169;exact ab0
 |some H=>
  obtain⟨v,k⟩:=H;have Q:=(D9 (l:=l) (p:=at') ω a).1;rw[a] at hget;simp only[vE] at hget;have f:yQ l (at',b)=(v,at'+k,b):=by simp only[yQ,a]
  rw[f];clear a f;go_enter Tryz.func169,Tryz.ntmps169;exact ab1
theorem Ce {W:aj} {q:Nat} {x y:aI} {t:TypeId} (h:W.heap[q]? =some (.cells #[x,y] t (0,0))):W.cell? ⟨q,0,none⟩=some x/\W.cell? ⟨q,1,none⟩=some y/\W.frozen? ⟨q,0,none⟩=false/\W.frozen? ⟨q,1,none⟩=false:=
 ⟨by rw[ak W q 0 _ _ _ h];rfl,by rw[ak W q 1 _ _ _ h];rfl,aK W q 0 _ _ h,aK W q 1 _ _ h⟩
theorem Jk (U:Ext w0 W) (hp:w0.heap.size<=p) (hb:Bys w0 A l) (K:l.length=n) (hc:n<=c) (hn:n<=12000000) (X:RdS W p A n c s) (J:s.1<=n):
  aX Tryz.prog 168 #[.pointer (some ⟨p,0,none⟩)] W λe w'=>e= .returned (idv (idS l s).1.1 (idS l s).1.2)/\RdS w' p A n c (idS l s).2/\RX p W w':=by
 have a3:=X.lt;have a0:(W.alloc (.cells #[.int .u32 0,.int .u32 0] 55)).heap[W.heap.size]? =some (.cells #[.int .u32 0,.int .u32 0] 55 (0,0)):=aT _ _;have i:Ext W (W.alloc (.cells #[.int .u32 0,.int .u32 0] 55)):=(Ext.refl _).alloc _;have u:=X.ext i;have h1:=xg l s (by rw[K];exact J);have h2:=xg l _ h1.1;have I:=ah (xA (U.trans i) hp hb K hc hn u J);have H:=ah (λ(W':aj) (hX:Ext w0 W') (hS:RdS W' p A n c (pG l s).2)=>xA hX hp hb K hc hn hS (by rw[<-K];exact h1.1));have f:idS l s=(((pG l s).1,(pG l (pG l s).2).1),(pG l (pG l s).2).2):=rfl;rw[f];clear f X u h1 h2;generalize pG l (pG l s).2=r2 at*;generalize pG l s=r1 at*;obtain⟨N,s1⟩:=r1;obtain⟨M,s2⟩:=r2;simp only at I H⊢;have a:W.heap.size≠p:=ω
 have a2:∃q,q=W.heap.size:=⟨_,rfl⟩;go_enter Tryz.func168,Tryz.ntmps168
 go_wp2_with fail
 refine I.out.mono ?_;rintro e w1 ⟨rfl,O,x1⟩;have a1:=(U.trans i).trans (Ext.refl _);have Q:Ext w0 w1:=RX.down (U.trans i) hp x1;have Z:=x1.blk a0 a
 go_wp2_with fail
 refine(H.out w1 Q O).mono ?_;rintro e w2 ⟨rfl,j,x2⟩;have z:=x2.blk Z a;obtain⟨g0,g1,f0,f1⟩:=Ce z;go_wp2;have Y:=aB _ _ 1 _ _ (Vu M) (aB _ _ 0 _ _ (Vu N) z);obtain⟨z0,z1,_,_⟩:=Ce (x:=Vu N) (y:=Vu M) Y;refine aN (v:=idv N M) (by simp[dK,Tryz.results168,go_sem,z0,z1]) rfl ⟨rfl,?_,((((RX.ext i).trans x1).trans x2).set 0 _ (.inl (aD _))).set 1 _ (.inl (aD _))⟩;unfold RdS at j⊢;rw[bA _ _ _ _ (λe=>a e.symm),bA _ _ _ _ (λe=>a e.symm)];exact j
end
end
section
section
variable {w0 W:aj} {p:Nat} {A:Option Addr} {n c:Nat} {l:List UInt8} {s:Nat×Bool}
theorem ah7 {W:aj} {q:Nat} {x y z:aI} {t:TypeId} (h:W.heap[q]? =some (.cells #[x,y,z] t (0,0))):(W.cell? ⟨q,0,none⟩=some x/\W.cell? ⟨q,1,none⟩=some y/\W.cell? ⟨q,2,none⟩=some z)/\W.frozen? ⟨q,0,none⟩=false/\W.frozen? ⟨q,1,none⟩=false/\W.frozen? ⟨q,2,none⟩=false:=
 ⟨⟨by rw[ak W q 0 _ _ _ h];rfl,by rw[ak W q 1 _ _ _ h];rfl,by rw[ak W q 2 _ _ _ h];rfl⟩,aK W q 0 _ _ h,aK W q 1 _ _ h,aK W q 2 _ _ h⟩
theorem ah6 {W:aj} {q:Nat} {x0 x1 x2 x3 x4 x5 x6:aI} {t:TypeId} (h:W.heap[q]? =some (.cells #[x0,x1,x2,x3,x4,x5,x6] t (0,0))):
  (W.cell? ⟨q,0,none⟩=some x0/\W.cell? ⟨q,1,none⟩=some x1/\W.cell? ⟨q,2,none⟩=some x2/\W.cell? ⟨q,3,none⟩=some x3/\W.cell? ⟨q,4,none⟩=some x4/\W.cell? ⟨q,5,none⟩=some x5/\W.cell? ⟨q,6,none⟩=some x6)/\
  W.frozen? ⟨q,0,none⟩=false/\W.frozen? ⟨q,1,none⟩=false/\W.frozen? ⟨q,2,none⟩=false/\W.frozen? ⟨q,3,none⟩=false/\W.frozen? ⟨q,4,none⟩=false/\W.frozen? ⟨q,5,none⟩=false/\W.frozen? ⟨q,6,none⟩=false:=
 ⟨⟨by rw[ak W q 0 _ _ _ h];rfl,by rw[ak W q 1 _ _ _ h];rfl,by rw[ak W q 2 _ _ _ h];rfl,by rw[ak W q 3 _ _ _ h];rfl,by rw[ak W q 4 _ _ _ h];rfl,by rw[ak W q 5 _ _ _ h];rfl,by rw[ak W q 6 _ _ _ h];rfl⟩,
   aK W q 0 _ _ h,aK W q 1 _ _ h,aK W q 2 _ _ h,aK W q 3 _ _ h,aK W q 4 _ _ h,aK W q 5 _ _ h,aK W q 6 _ _ h⟩
theorem Tj (hx:Ext w0 W) (I:w0.heap.size<=p) (hb:Bys w0 A l) (i:l.length=n) (hc:n<=c) (hn:n<=12000000) (hs:RdS W p A n c s) (N:s.1<=n):
  aX Tryz.prog 137 #[.pointer (some ⟨p,0,none⟩)] W λe w'=>e= .returned (spv (tZ l s).1.1 (tZ l s).1.2.1 (tZ l s).1.2.2)/\RdS w' p A n c (tZ l s).2/\RX p W w':=by
 have a5:=hs.lt;have a4:(W.alloc (.cells #[.int .u32 0,.int .u32 0,.int .u32 0] 98)).heap[W.heap.size]? =some (.cells #[.int .u32 0,.int .u32 0,.int .u32 0] 98 (0,0)):=aT _ _;have O:Ext W (W.alloc (.cells #[.int .u32 0,.int .u32 0,.int .u32 0] 98)):=(Ext.refl _).alloc _;have u:=hs.ext O;have h1:=xg l s (by rw[i];exact N);have h2:=xg l _ h1.1;have M:=ah (xA (hx.trans O) I hb i hc hn u N);have K:=ah (λ(W':aj) (hX:Ext w0 W') (hS:RdS W' p A n c (pG l s).2)=>xA hX I hb i hc hn hS (by rw[<-i];exact h1.1));have J:=ah (λ(W':aj) (hX:Ext w0 W') (hS:RdS W' p A n c (pG l (pG l s).2).2)=>xA hX I hb i hc hn hS (by rw[<-i];exact h2.1));have f:tZ l s=(((((pG l s).1:Nat):Int),(((pG l (pG l s).2).1:Nat):Int),(((pG l (pG l (pG l s).2).2).1:Nat):Int)),(pG l (pG l (pG l s).2).2).2):=rfl;rw[f];clear f hs u h1 h2;generalize pG l (pG l (pG l s).2).2=r3 at*;generalize pG l (pG l s).2=r2 at*;generalize pG l s=r1 at*;obtain⟨X,s1⟩:=r1;obtain⟨U,s2⟩:=r2;obtain⟨Q,s3⟩:=r3;simp only at M K J⊢;have a:W.heap.size≠p:=ω
 go_enter Tryz.func137,Tryz.ntmps137
 go_wp2_with fail
 refine M.out.mono ?_;rintro e w1 ⟨rfl,Z,x1⟩;have q:Ext w0 w1:=RX.down (hx.trans O) I x1;have a3:=x1.blk a4 a
 go_wp2_with fail
 refine(K.out w1 q Z).mono ?_;rintro e w2 ⟨rfl,Y,x2⟩;have a0:Ext w0 w2:=RX.down q I x2;have a2:=x2.blk a3 a
 go_wp2_with fail
 refine(J.out w2 a0 Y).mono ?_;rintro e w3 ⟨rfl,j,x3⟩;have H:=x3.blk a2 a;obtain⟨⟨g0,g1,g2⟩,f0,f1,f2⟩:=ah7 H;go_wp2;have a1:=aB _ _ 2 _ _ (Vu Q) (aB _ _ 1 _ _ (Vu U) (aB _ _ 0 _ _ (Vu X) H));obtain⟨⟨z0,z1,z2⟩,_⟩:=ah7 (x:=Vu X) (y:=Vu U) (z:=Vu Q) a1;refine aN (v:=spv X U Q) (by simp[dK,Tryz.results137,go_sem,z0,z1,z2]) rfl ⟨rfl,?_,((((((RX.ext O).trans x1).trans x2).trans x3).set 0 _ (.inl (aD _))).set 1 _ (.inl (aD _))).set 2 _ (.inl (aD _))⟩;unfold RdS at j⊢;rw[bA _ _ _ _ (λe=>a e.symm),bA _ _ _ _ (λe=>a e.symm),bA _ _ _ _ (λe=>a e.symm)];exact j
theorem Xh (hx:Ext w0 W) (j:w0.heap.size<=p) (hb:Bys w0 A l) (f:l.length=n) (Z:n<=c) (Y:n<=12000000) (hT:Tabs w0) (hs:RdS W p A n c s) (O:s.1<=n):
  aX Tryz.prog 136 #[.pointer (some ⟨p,0,none⟩)] W λe w'=>e= .returned (rnv (yS l s).1)/\RdS w' p A n c (yS l s).2/\RX p W w':=by
 have b5:=hs.lt;have b4:(W.alloc (.cells #[.int .u32 0,.int .u32 0,.int .u32 0,.int .u32 0,.int .u32 0,.int .u32 0,.string ⟨#[]⟩] 64)).heap[W.heap.size]? =some (.cells #[.int .u32 0,.int .u32 0,.int .u32 0,.int .u32 0,.int .u32 0,.int .u32 0,.string ⟨#[]⟩] 64 (0,0)):=aT _ _;have X:Ext W (W.alloc (.cells #[.int .u32 0,.int .u32 0,.int .u32 0,.int .u32 0,.int .u32 0,.int .u32 0,.string ⟨#[]⟩] 64)):=(Ext.refl _).alloc _;have H:=hs.ext X;have h1:=Uc l s (by rw[f];exact O);have h2:=Uc l _ h1;have h3:=Uc l _ h2;have N:=ah (Jk (hx.trans X) j hb f Z Y H O);have M:=ah (λ(W':aj) (Q:Ext w0 W') (U:RdS W' p A n c (idS l s).2)=>Jk Q j hb f Z Y U (by rw[<-f];exact h1));have K:=ah (λ(W':aj) (Q:Ext w0 W') (U:RdS W' p A n c (idS l (idS l s).2).2)=>Jk Q j hb f Z Y U (by rw[<-f];exact h2));have J:=ah (λ(W':aj) (Q:Ext w0 W') (U:RdS W' p A n c (idS l (idS l (idS l s).2).2).2)=>Xg Q j hb f Z Y hT U (by rw[<-f];exact h3));have i:yS l s=(⟨(idS l s).1.1,(idS l s).1.2,(idS l (idS l s).2).1.1,(idS l (idS l s).2).1.2,(idS l (idS l (idS l s).2).2).1.1,(idS l (idS l (idS l s).2).2).1.2,(yQ l (idS l (idS l (idS l s).2).2).2).1⟩,(yQ l (idS l (idS l (idS l s).2).2).2).2):=rfl;rw[i];clear i hs H h1 h2 h3;generalize yQ l (idS l (idS l (idS l s).2).2).2=r4 at*;generalize idS l (idS l (idS l s).2).2=r3 at*;generalize idS l (idS l s).2=r2 at*;generalize idS l s=r1 at*;obtain⟨⟨a1,b1⟩,s1⟩:=r1;obtain⟨⟨a2,b2⟩,s2⟩:=r2;obtain⟨⟨a3,b3⟩,s3⟩:=r3;obtain⟨t4,s4⟩:=r4;simp only at N M K J⊢;have a:W.heap.size≠p:=ω
 go_enter Tryz.func136,Tryz.ntmps136
 go_wp2_with fail
 refine N.out.mono ?_;rintro e w1 ⟨rfl,a5,x1⟩;have z:Ext w0 w1:=RX.down (hx.trans X) j x1;have b0:=x1.blk b4 a
 go_wp2_with fail
 refine(M.out w1 z a5).mono ?_;rintro e w2 ⟨rfl,a4,x2⟩;have u:Ext w0 w2:=RX.down z j x2;have a9:=x2.blk b0 a
 go_wp2_with fail
 refine(K.out w2 u a4).mono ?_;rintro e w3 ⟨rfl,a0,x3⟩;have a6:Ext w0 w3:=RX.down u j x3;have a8:=x3.blk a9 a
 go_wp2_with fail
 refine(J.out w3 a6 a0).mono ?_;rintro e w4 ⟨rfl,q,x4⟩;have I:=x4.blk a8 a;obtain⟨⟨g0,g1,g2,g3,g4,g5,g6⟩,f0,f1,f2,f3,f4,f5,f6⟩:=ah6 I;go_wp2;have a7:=aB _ _ 6 _ _ (Vt t4) (aB _ _ 5 _ _ (Vu b3) (aB _ _ 4 _ _ (Vu a3) (aB _ _ 3 _ _ (Vu b2) (aB _ _ 2 _ _ (Vu a2) (aB _ _ 1 _ _ (Vu b1) (aB _ _ 0 _ _ (Vu a1) I))))));obtain⟨⟨z0,z1,z2,z3,z4,z5,z6⟩,_⟩:=ah6 (x0:=Vu a1) (x1:=Vu b1) (x2:=Vu a2) (x3:=Vu b2) (x4:=Vu a3) (x5:=Vu b3) (x6:=Vt t4) a7;refine aN (v:=rnv ⟨a1,b1,a2,b2,a3,b3,t4⟩) (by simp[dK,Tryz.results136,go_sem,z0,z1,z2,z3,z4,z5,z6]) rfl ⟨rfl,?_,((((((((((((RX.ext X).trans x1).trans x2).trans x3).trans x4).set 0 _ (.inl (aD _))).set 1 _ (.inl (aD _))).set 2 _ (.inl (aD _))).set 3 _ (.inl (aD _))).set 4 _ (.inl (aD _))).set 5 _ (.inl (aD _))).set 6 _ (.inl (aD _)))⟩;unfold RdS at q⊢
 iterate 7 rw[bA _ _ _ _ (λe=>a e.symm)]
 exact q
end
end
end
section
attribute [local go_sem] au calm oK oG
def uD (l:List UInt8):Nat->Nat×Bool->List Rn×Nat×Bool
 |0,s=>([],s)
 |k+1,s=>if s.2 then([],s) else((yS l s).1::(uD l k (yS l s).2).1,(uD l k (yS l s).2).2)
def rG (l:List UInt8):Nat->Nat×Bool->List Sp×Nat×Bool
 |0,s=>([],s)
 |k+1,s=>if s.2 then([],s) else((tZ l s).1::(rG l k (tZ l s).2).1,(rG l k (tZ l s).2).2)
def Dv (l:List UInt8) (s:Nat×Bool):List Rn×Nat×Bool:=uD l (pG l s).1 (pG l s).2
def zU (l:List UInt8) (s:Nat×Bool):List Sp×Nat×Bool:=rG l (pG l s).1 (pG l s).2
def yC (l:List UInt8) (s:Nat×Bool):(List Rn×List Sp)×Nat×Bool:=(((Dv l s).1,(zU l (Dv l s).2).1),(zU l (Dv l s).2).2)
theorem Ou {l:List UInt8} {s:Nat×Bool} (h:s.2=true):(pG l s).2.2=true:=by
 unfold pG;split
 ·rfl
 ·exact h
theorem acA {l:List UInt8} {s:Nat×Bool} (h:s.2=true):(yQ l s).2.2=true:=by
 unfold yQ;split
 ·rfl
 ·exact h
theorem BG {l:List UInt8} {p v k:Nat} (h:uJ l p=some (v,k)):pG l (p,false)=(v,p+k,false):=by
 unfold pG;simp only[h]
theorem Qz {l:List UInt8} {p:Nat} (h:uJ l p=none):(pG l (p,false)).2.2=true:=by
 unfold pG;simp only[h]
theorem Zb {l:List UInt8} {p k:Nat} {t:List UInt8} (h:Dp l p=some (t,k)):yQ l (p,false)=(t,p+k,false):=by
 unfold yQ;simp only[h]
theorem Zc {l:List UInt8} {p:Nat} (h:Dp l p=none):(yQ l (p,false)).2.2=true:=by
 unfold yQ;simp only[h]
def xK (l:List UInt8):Nat->Nat×Bool->List Nat×Nat×Bool
 |0,s=>([],s)
 |k+1,s=>((pG l s).1::(xK l k (pG l s).2).1,(xK l k (pG l s).2).2)
theorem Qy {l:List UInt8}:∀(k:Nat) {s:Nat×Bool},s.2=true->(xK l k s).2.2=true
 |0,_,h=>h
 |k+1,_,h=>Qy k (Ou h)
theorem F6 {l:List UInt8}:∀(k p:Nat),qZ l k p=none->(xK l k (p,false)).2.2=true
 |0,p,h=>by cases h
 |k+1,p,h=>by
  rw[qZ] at h;cases a:uJ l p with
  |none=>exact Qy k (Qz a)
  |some x=>
   obtain⟨v,j⟩:=x;rw[a] at h;simp only at h;have ih:=F6 (l:=l) k (p+j);cases e:qZ l k (p+j) with
   |none=>simp only[xK,BG a];exact ih e
   |some y=>obtain⟨f,q⟩:=y;rw[e] at h;cases h
theorem C8 {l:List UInt8}:∀(k p:Nat) {a:List Nat} {q:Nat},qZ l k p=some (a,q)->xK l k (p,false)=(a,q,false)
 |0,p,a,q,h=>by
  simp only[qZ,bJ,dI] at h;obtain⟨rfl,rfl⟩:=h;rfl
 |k+1,p,a,q,h=>by
  rw[qZ] at h;cases i:uJ l p with
  |none=>rw[i] at h;cases h
  |some x=>
   obtain⟨v,j⟩:=x;rw[i] at h;simp only at h;cases f:qZ l k (p+j) with
   |none=>rw[f] at h;cases h
   |some y=>
    obtain⟨u,e⟩:=y;rw[f] at h;simp only[bJ,dI] at h;obtain⟨rfl,rfl⟩:=h;simp only[xK,BG i,C8 k (p+j) f]
theorem Jc (l:List UInt8) (s:Nat×Bool):yS l s=(Vj (xK l 6 s).1 (yQ l (xK l 6 s).2).1,(yQ l (xK l 6 s).2).2):=rfl
theorem FL (l:List UInt8) (s:Nat×Bool):tZ l s=(IZ (xK l 3 s).1,(xK l 3 s).2):=rfl
theorem Jd {l:List UInt8} {p:Nat} (h:Bq l p=none):(yS l (p,false)).2.2=true:=by
 rw[Bq] at h;rw[Jc];cases a:qZ l 6 p with
 |none=>exact acA (F6 6 p a)
 |some x=>
  obtain⟨f,q⟩:=x;rw[a] at h;simp only at h;rw[C8 6 p a];cases e:Dp l q with
  |none=>exact Zc e
  |some y=>obtain⟨t,k⟩:=y;rw[e] at h;cases h
theorem Jb {l:List UInt8} {p q:Nat} {r:Rn} (h:Bq l p=some (r,q)):yS l (p,false)=(r,q,false):=by
 rw[Bq] at h;rw[Jc];cases f:qZ l 6 p with
 |none=>rw[f] at h;cases h
 |some x=>
  obtain⟨i,e⟩:=x;rw[f] at h;simp only at h;rw[C8 6 p f];cases a:Dp l e with
  |none=>rw[a] at h;cases h
  |some y=>
   obtain⟨t,k⟩:=y;rw[a] at h;simp only[bJ,dI] at h;obtain⟨rfl,rfl⟩:=h;simp only[Zb a]
theorem FM {l:List UInt8} {p:Nat} (h:qZ l 3 p=none):(tZ l (p,false)).2.2=true:=by rw[FL];show(xK l 3 (p,false)).2.2=true;exact F6 3 p h
theorem FK {l:List UInt8} {p q:Nat} {a:List Nat} (h:qZ l 3 p=some (a,q)):tZ l (p,false)=(IZ a,q,false):=by rw[FL,C8 3 p h]
theorem LX {l:List UInt8} (k:Nat) {s:Nat×Bool} (h:s.2=true):uD l k s=([],s):=by
 cases k with
 |zero=>rfl
 |succ k=>rw[uD,if_pos h]
theorem DI {l:List UInt8} (k:Nat) {s:Nat×Bool} (h:s.2=true):rG l k s=([],s):=by
 cases k with
 |zero=>rfl
 |succ k=>rw[rG,if_pos h]
theorem LW {l:List UInt8}:∀(k p:Nat),uF l k p=none->(uD l k (p,false)).2.2=true
 |0,p,h=>by cases h
 |k+1,p,h=>by
  rw[uF] at h;rw[uD,if_neg ι];cases a:Bq l p with
  |none=>simp only;rw[LX k (Jd a)];exact Jd a
  |some x=>
   obtain⟨r,q⟩:=x;rw[a] at h;simp only at h;rw[Jb a];cases f:uF l k q with
   |none=>exact LW k q f
   |some y=>obtain⟨rs,e⟩:=y;rw[f] at h;cases h
theorem FT {l:List UInt8}:∀(k p:Nat) {rs:List Rn} {q:Nat},uF l k p=some (rs,q)->uD l k (p,false)=(rs,q,false)
 |0,p,rs,q,h=>by
  simp only[uF,bJ,dI] at h;obtain⟨rfl,rfl⟩:=h;rfl
 |k+1,p,rs,q,h=>by
  rw[uF] at h;rw[uD,if_neg ι];cases a:Bq l p with
  |none=>rw[a] at h;cases h
  |some x=>
   obtain⟨r,e⟩:=x;rw[a] at h;simp only at h;rw[Jb a];cases f:uF l k e with
   |none=>rw[f] at h;cases h
   |some y=>
    obtain⟨i,j⟩:=y;rw[f] at h;simp only[bJ,dI] at h;obtain⟨rfl,rfl⟩:=h;simp only[FT k e f]
theorem IY {l:List UInt8}:∀(k p:Nat),sG l k p=none->(rG l k (p,false)).2.2=true
 |0,p,h=>by cases h
 |k+1,p,h=>by
  rw[sG] at h;rw[rG,if_neg ι];cases a:qZ l 3 p with
  |none=>simp only;rw[DI k (FM a)];exact FM a
  |some x=>
   obtain⟨r,q⟩:=x;rw[a] at h;simp only at h;rw[FK a];cases f:sG l k q with
   |none=>exact IY k q f
   |some y=>obtain⟨rs,e⟩:=y;rw[f] at h;cases h
theorem IX {l:List UInt8}:∀(k p:Nat) {rs:List Sp} {q:Nat},sG l k p=some (rs,q)->rG l k (p,false)=(rs,q,false)
 |0,p,rs,q,h=>by
  simp only[sG,bJ,dI] at h;obtain⟨rfl,rfl⟩:=h;rfl
 |k+1,p,rs,q,h=>by
  rw[sG] at h;rw[rG,if_neg ι];cases a:qZ l 3 p with
  |none=>rw[a] at h;cases h
  |some x=>
   obtain⟨r,e⟩:=x;rw[a] at h;simp only at h;rw[FK a];cases f:sG l k e with
   |none=>rw[f] at h;cases h
   |some y=>
    obtain⟨i,j⟩:=y;rw[f] at h;simp only[bJ,dI] at h;obtain⟨rfl,rfl⟩:=h;simp only[IX k e f]
theorem Z4 {l:List UInt8} (h:uJ l 0=none):pG l (0,false)=(0,0,true):=by unfold pG;simp only[Int.natCast_zero,h]
theorem L8 {l:List UInt8} {m p:Nat} (h:uJ l 0=some (m,p)):pG l (0,false)=(m,p,false):=by have:=BG (l:=l) (p:=0) h;rw[this,bH]
theorem DJ {l:List UInt8} {s:Nat×Bool} (h:(pG l s).2.2=true):(zU l s).2.2=true:=by rw[zU,DI _ h];exact h
theorem Sj {l:List UInt8} (h:parse l=none):(yC l (0,false)).2.2=true:=by
 rw[parse] at h;rw[yC];cases H:uJ l 0 with
 |none=>
  have j:Dv l (0,false)=([],0,true):=by rw[Dv,Z4 H];rfl
  rw[j];exact DJ (Ou rfl)
 |some x=>
  obtain⟨m,p⟩:=x;rw[H] at h;simp only at h;have j:Dv l (0,false)=uD l m (p,false):=by rw[Dv,L8 H]
  rw[j];cases f:uF l m p with
  |none=>exact DJ (Ou (LW m p f))
  |some y=>
   obtain⟨rs,q⟩:=y;rw[f] at h;simp only at h;rw[FT m p f];cases i:uJ l q with
   |none=>exact DJ (Qz i)
   |some z=>
    obtain⟨a,k⟩:=z;rw[i] at h;simp only at h;have J:zU l (q,false)=rG l a (q+k,false):=by rw[zU,BG i]
    simp only;rw[J];cases I:sG l a (q+k) with
    |none=>exact IY a (q+k) I
    |some u=>obtain⟨ds,e⟩:=u;rw[I] at h;cases h
theorem Si {l:List UInt8} {rs:List Rn} {ds:List Sp} {e:Nat} (h:parse l=some (rs,ds,e)):yC l (0,false)=((rs,ds),e,false):=by
 rw[parse] at h;rw[yC];cases H:uJ l 0 with
 |none=>rw[H] at h;cases h
 |some x=>
  obtain⟨m,p⟩:=x;rw[H] at h;simp only at h;have K:Dv l (0,false)=uD l m (p,false):=by rw[Dv,L8 H]
  rw[K];cases f:uF l m p with
  |none=>rw[f] at h;cases h
  |some y=>
   obtain⟨I,q⟩:=y;rw[f] at h;simp only at h;rw[FT m p f];cases j:uJ l q with
   |none=>rw[j] at h;cases h
   |some z=>
    obtain⟨a,k⟩:=z;rw[j] at h;simp only at h;have J:zU l (q,false)=rG l a (q+k,false):=by rw[zU,BG j]
    simp only;rw[J];cases i:sG l a (q+k) with
    |none=>rw[i] at h;cases h
    |some u=>
     obtain⟨M,N⟩:=u;rw[i] at h;simp only[bJ,dI] at h;obtain⟨rfl,rfl,rfl⟩:=h;rw[IX a (q+k) i]
theorem Jy {l:List UInt8}:∀(k:Nat) {s:Nat×Bool},s.1<=l.length->(xK l k s).2.1<=l.length
 |0,_,h=>h
 |k+1,s,h=>Jy k (xg l s h).1
theorem acS {l:List UInt8} {s:Nat×Bool} (h:s.1<=l.length):(yS l s).2.1<=l.length:=by rw[Jc];exact acB l _ (Jy 6 h)
theorem Zw {l:List UInt8} {s:Nat×Bool} (h:s.1<=l.length):(tZ l s).2.1<=l.length:=by rw[FL];show(xK l 3 s).2.1<=l.length;exact Jy 3 h
theorem afl {l:List UInt8} {p:Nat} (e:p<=l.length) (h:(yS l (p,false)).2.2=false):p+7<=(yS l (p,false)).2.1:=by
 cases a:Bq l p with
 |none=>rw[Jd a] at h;cases h
 |some x=>obtain⟨r,q⟩:=x;rw[Jb a];exact(Jg e a).2.2.2
theorem acK {l:List UInt8} {p:Nat} (e:p<=l.length) (h:(tZ l (p,false)).2.2=false):p+3<=(tZ l (p,false)).2.1:=by
 cases a:qZ l 3 p with
 |none=>rw[FM a] at h;cases h
 |some x=>obtain⟨r,q⟩:=x;rw[FK a];exact(yH e a).2.2.2.2
def YS (W:aj) (q:Nat) (r:Rn):Prop:=W.heap[q]? =some (.cells #[.int .u32 r.c,.int .u32 r.k,.int .u32 r.lc,.int .u32 r.lk,.int .u32 r.rc,.int .u32 r.rk,.string ⟨r.t.toArray⟩] 64 (0,0))
theorem YS.new (W:aj) (r:Rn):YS (W.alloc (.cells #[.int .u32 r.c,.int .u32 r.k,.int .u32 r.lc,.int .u32 r.lk,.int .u32 r.rc,.int .u32 r.rk,.string ⟨r.t.toArray⟩] 64)) W.heap.size r:=aT W _
theorem YS.row {W:aj} {q:Nat} {r:Rn} (h:YS W q r):RnS W (some ⟨q,0,none⟩) [r]:=λ_=>⟨q,0,rfl,λj u a=>by rw[bH,ak W q j _ _ _ h];rw[Kw] at a;simpa[encR,encS] using a⟩
def NJ (W:aj) (q:Nat) (r:Sp):Prop:=W.heap[q]? =some (.cells #[.int .u32 r.1,.int .u32 r.2.1,.int .u32 r.2.2] 98 (0,0))
theorem NJ.new (W:aj) (r:Sp):NJ (W.alloc (.cells #[.int .u32 r.1,.int .u32 r.2.1,.int .u32 r.2.2] 98)) W.heap.size r:=aT W _
theorem NJ.row {W:aj} {q:Nat} {r:Sp} (h:NJ W q r):SpS W (some ⟨q,0,none⟩) [r]:=λ_=>⟨q,0,rfl,λj u a=>by rw[bH,ak W q j _ _ _ h];rw[Kw] at a;simpa[encR,encS] using a⟩
theorem qg.kept {w W W':aj} {v:aI} {l:List Sp} {row:Option Nat} (h:qg w W v l) (e:W.grownBy W' row) (a:v.ownBlock=none\/v.ownBlock≠row):qg w W' v l:=kS h e a
theorem FB {w0 w:aj} {j:Array Oper} {rest:List Oper} {o:Oper} {a:Act} {Q:Exit->Act->aj->Prop} (I:o.guard=none) (s x:Operand)
  (U:o.op= .call { callee:= .builtin .append,args:= #[s,x],argTypes:= #[42,42] })
  (v:aI) (l:List Sp) (N:a.eval s=v) (e:qg w0 w v l) (J:Ext w0 w)
  (A:Option Addr) (m c:Nat) (r:List Sp) (X:a.eval x= .slice A m c) (W:r.length=m) (O:SpS w A r) (hb:l.length+r.length<=40000000)
  (h:∀f w',qg w0 w' f (l++r)->Ext w0 w'->w.grownBy w' v.ownBlock->(f.ownBlock=v.ownBlock\/f.ownBlock=some w.heap.size)->wpList Tryz.prog j Q rest (a.put o.dst f) w'):wpList Tryz.prog j Q (o::rest) a w:=by
 refine wpList_plain I λK Y=>?_
 obtain⟨i,hi,H,z,u⟩:=info_parts QZ;subst W;obtain⟨f,w',q,h2,M,Z⟩:=ql (P:=Tryz.prog) w w0.heap.size 42 o.type 98 i _ 3 12 Tryz.underlying42 hi H z u rfl ω v l.length _ e A r.length c _ (oV sJ r) O (qy E8 r)
  (by unfold maxLen;omega) ω J.size
 unfold Oper.wp execOp;simp only[U,resolve,invoke,builtin,Sem.run_bind,Sem.run_pure,Result.andThen_ok,List.map_toArray,List.map_cons,List.map_nil,N,X,q];refine Y _ _ (h f w' ?_ (J.grown M e.lt) M Z);unfold qg;rw[qp,ay];exact h2
section
variable {w0 W:aj} {p:Nat} {A:Option Addr} {n c:Nat} {l:List UInt8} {s:Nat×Bool}
def ae6 (w0 e:aj) (B p a:Nat) (A:Option Addr) (n c:Nat) (l:List UInt8) (R:List Rn×Nat×Bool) (f:aI) (W:aj):Prop:=
 ∃(k:Nat) (s:Nat×Bool) (o:List Rn) (v:aI),f=Vu k/\k<4294967296/\RdS W p A n c s/\W.heap[a]? =some (.cells #[v,.slice none 0 0] 44 (0,0))/\Hid (vH w0 W v o)/\Hid (far B v)/\GX B p a e W/\s.1<=n/\(s.2=false->o.length<=s.1)/\o.length<=n+1/\Hid ((o++(uD l k s).1,(uD l k s).2)=R)
def ae5 (w0 e:aj) (B p a:Nat) (A:Option Addr) (n c:Nat) (l:List UInt8) (R:List Sp×Nat×Bool) (vr:aI) (rs:List Rn) (f:aI) (W:aj):Prop:=
 ∃(k:Nat) (s:Nat×Bool) (o:List Sp) (v:aI),f=Vu k/\k<4294967296/\RdS W p A n c s/\W.heap[a]? =some (.cells #[vr,v] 44 (0,0))/\Hid (qg w0 W v o)/\Hid (far B v)/\Hid (vH w0 W vr rs)/\(vr.ownBlock=none\/vr.ownBlock≠v.ownBlock)/\GX B p a e W/\s.1<=n/\(s.2=false->o.length<=s.1)/\o.length<=n+1/\Hid ((o++(rG l k s).1,(rG l k s).2)=R)
theorem Xi (hx:Ext w0 W) (hp:w0.heap.size<=p) (hb:Bys w0 A l) (hl:l.length=n) (hc:n<=c) (hn:n<=12000000) (hT:Tabs w0) (hs:RdS W p A n c s) (h8:s.1<=n):
  aX Tryz.prog 103 #[.pointer (some ⟨p,0,none⟩)] W λe w'=>∃vr vd,e= .returned (.agg #[vr,vd])/\vH w0 w' vr (yC l s).1.1/\qg w0 w' vd (yC l s).1.2/\far W.heap.size vr/\far W.heap.size vd/\RdS w' p A n c (yC l s).2/\RX p W w':=by
 have k1:=hs.lt;obtain⟨w1,a7⟩:∃W1,(W.alloc (.cells #[.slice none 0 0,.slice none 0 0] 44)).alloc (.cells #[.slice none 0 0,.slice none 0 0] 44)=W1:=⟨_,rfl⟩;have g6:(W.alloc (.cells #[.slice none 0 0,.slice none 0 0] 44)).heap.size=W.heap.size+1:=ι
 have hB:w1.heap.size=W.heap.size+2:=by rw[<-a7];simp
 have x1:Ext W w1:=by rw[<-a7];exact((Ext.refl _).alloc _).alloc _
 have e7:w1.heap[W.heap.size+1]? =some (.cells #[.slice none 0 0,.slice none 0 0] 44 (0,0)):=by
  rw[<-a7,<-g6];exact aT _ _
 have h6:w1.heap[W.heap.size]? =some (.cells #[.slice none 0 0,.slice none 0 0] 44 (0,0)):=by
  rw[<-a7,aJ ((Ext.refl (W.alloc (.cells #[.slice none 0 0,.slice none 0 0] 44))).alloc _) W.heap.size ω];exact aT _ _
 have g8:=hs.ext x1;have yA:=ah (λ(W':aj) (z:Nat×Bool) (hX:Ext w0 W') (O:RdS W' p A n c z) (ha:z.1<=n)=>xA hX hp hb hl hc hn O ha);have j7:=ah (λ(W':aj) (z:Nat×Bool) (hX:Ext w0 W') (O:RdS W' p A n c z) (ha:z.1<=n)=>Xh hX hp hb hl hc hn hT O ha);have j9:=ah (λ(W':aj) (z:Nat×Bool) (hX:Ext w0 W') (O:RdS W' p A n c z) (ha:z.1<=n)=>Tj hX hp hb hl hc hn O ha);have h9:Ext w0 w1:=hx.trans x1;have i4:w0.heap.size<=W.heap.size:=hx.size;obtain⟨R,hR⟩:∃R,Dv l s=R:=⟨_,rfl⟩;obtain⟨D,hD⟩:∃D,zU l R.2=D:=⟨_,rfl⟩;have i2:yC l s=((R.1,D.1),D.2):=by rw[yC,hR,hD]
 rw[i2];have e9:=xg l s (by rw[hl];exact h8);rw[hl] at e9;replace hR:=ah (show([]++(uD l (pG l s).1 (pG l s).2).1,(uD l (pG l s).1 (pG l s).2).2)=R from hR);replace hD:=ah hD;have f5:=ah (yA.out w1 s h9 g8 h8);clear i2 hs g6 hb hT;generalize pG l s=sa at*;obtain⟨a,sa⟩:=sa;simp only at e9 hR f5;go_enter Tryz.func103,Tryz.ntmps103
 go_wp2_with fail
 clear a7;obtain⟨J,j4⟩:∃q,W.heap.size=q:=⟨_,rfl⟩;rw[j4] at k1 hB e7 h6 i4⊢;obtain⟨B,k2⟩:∃B,w1.heap.size=B:=⟨_,rfl⟩;have k3:B=J+2:=ω
 have OO:J+1≠p:=ω
 have g0:J≠p:=ω
 obtain⟨H,j5⟩:∃q,J+1=q:=⟨_,rfl⟩;rw[j5] at e7 OO⊢;have a6:∀(Z:aj) (Y:GX B p H w1 Z),Ext w0 Z:=λZ Y=>Y.down h9 ω hp ω
 replace a6:=ah a6;refine f5.out.mono ?_;rintro e w2 ⟨rfl,s2,g2⟩;clear f5;have d8:=g2.blk e7 OO;have i1:GX B p H w1 w2:=(GX.refl B p H w1 ω).rx g2;go_wp2
 go_loopw [4] (ae6 w0 w1 B p H A n c l R) (λv _=>(intOf v).toNat)
 case atStart=>exact⟨a,sa,[],.slice none 0 0,rfl,e9.2,s2,d8,ah (vH.nil _ _),ah (far.nil _),i1,e9.1,λ_=>ι,ι,hR⟩
 case round=>
  clear s2 g2 d8 i1 hR e7 g8;obtain⟨k,z,o,v,rfl,hk,O,hq,ho,hf,Y,i,I,i3,hrel⟩:=hrel;have hE:Ext w0 wr:=a6.out _ Y;obtain⟨e0,e1,_,_⟩:=Ce hq;obtain⟨_,_,d2,_,_⟩:=O.cells;by_cases a4:0<k/\z.2=false
  ·obtain⟨j1,b0⟩:=a4
   obtain⟨at',b⟩:=z;simp only at b0 d2 i I;subst b0;obtain⟨k,rfl⟩:∃j,k=j+1:=⟨k-1,ω⟩;have d1:decide ((0:Int)<((k+1:Nat):Int))=true:=by rw[decide_eq_true_eq];omega
   have j2:decide ((0:Int)<(k:Int)+1)=true:=by rw[decide_eq_true_eq];omega
   have Q:=ah (λ(W':aj) (hX:Ext w0 W') (f6:RdS W' p A n c (at',false))=>j7.out W' (at',false) hX f6 i);have a0:=acS (l:=l) (s:=(at',false)) (by rw[hl];exact i);have b6:(yS l (at',false)).2.2=false->at'+7<=(yS l (at',false)).2.1:=λh=>afl (by rw[hl];exact i) h
   have a9:(uD l (k+1) (at',false))=((yS l (at',false)).1::(uD l k (yS l (at',false)).2).1,(uD l k (yS l (at',false)).2).2):=by rw[uD,if_neg ι]
   have Rb:=ah (show(o++[(yS l (at',false)).1]++(uD l k (yS l (at',false)).2).1,(uD l k (yS l (at',false)).2).2)=R by rw[<-hrel.out,a9];simp);have i8:=I rfl;clear a9 hrel I;rw[hl] at a0;generalize yS l (at',false)=x at*;obtain⟨r,sx⟩:=x;simp only at Q a0 b6 Rb;have hX:Ext w0 wr:=hE;have M:wr.cell? ⟨H,0,none⟩=some v:=e0;have b3:p<wr.heap.size:=O.lt;have g4:H<wr.heap.size:=(aC.1 hq).1;have a2:p<B:=ω
   have X3:H<B:=ω
   go_wp2_with fail
   refine tY 5 3 [rw1 3 (λz9 W=>z9=rnv r/\RdS W p A n c sx),rw1 4 (λz9 W=>∃q,z9= .slice (some ⟨q,0,none⟩) 1 1/\q≠p/\YS W q r)] (RX p _) (λW=>RdS W p A n c (at',false)) Ext (RX p) (RX.ext ((Ext.refl _).drew)) (O.ext ((Ext.refl _).drew)) (λ_ _ h e=>h.trans (RX.ext e)) (λ_ _ h e=>h.ext e) ⟨(λ_ _ _ _ h e=>⟨h.1,h.2.ext e⟩),(λ_ h=>absurd rfl h),(by rintro _ _ _ _ ⟨q,h1,h2,h3⟩ e;exact⟨q,h1,h2,e.blk h3⟩),(λ_ _=>by rintro _ _ _ _ ⟨q,h1,h2,h3⟩ e;exact⟨q,h1,h2,RX.blk e h3 h2⟩),trivial⟩ λρ _=>?_
   refine .s1 3 false [] (λW hx _ _=>by have q0:=RX.cell hx M OO;exact oz) ?_;refine .o0 0 [] (λW hx b4 _ N hN=>?_) ?_
   ·go_simp
    exact(Q.out W (RX.down hX hp hx) b4).mono (by rintro e W1 ⟨rfl,h1,h2⟩;exact⟨_,rfl,hN _ _ (λ_ e=>by cases e) ⟨rfl,h1⟩ (hx.trans h2) h2⟩)
   refine .o1 1 false [0] (λW hx _ f N hN=>?_) ?_
   ·obtain⟨⟨e3,_⟩,_⟩:=f
    have e3:ρ 3=_:=e3;have j0:p<W.heap.size:=bD b3 hx.size
    go_simp
    exact hN _ _ (λ_ e=>by cases e) ⟨_,rfl,ω,YS.new W r⟩ ((Ext.refl W).alloc _)
   refine .fin λW' u ⟨h3,h4,_⟩=>?_
   obtain⟨e3,pE⟩:=h3 rfl;obtain⟨qb,e4,i7,tu⟩:=h4 rfl;rw[show ρ 3=_ from e3,show ρ 4=_ from e4];simp only[dN,dX];clear M;have f7:Ext w0 W':=RX.down hX hp u;have b2:=u.blk hq OO;have b8:=bD g4 u.size;have f9:=bD b3 u.size;refine AL (w0:=w0) rfl (.tmp 20) (.tmp 23) rfl v o rfl (ho.out.kept u (hf.out.ne a2)) f7 _ 1 1 [r] rfl rfl tu.row (by simp only[aH,aR];omega) ?_;intro v5 w5 o5 x5 g5 b5;obtain⟨A5,c5,a8,_,_⟩:=vH.open o5;rw[show(o++[r]).length=o.length+1 by simp] at a8;subst a8;have U:∀j,j<B->some j≠v.ownBlock:=λj hj e=>by have:=hf.out j e.symm;omega
   have a1:w5.heap[H]? =some (.cells #[v,.slice none 0 0] 44 (0,0)):=by rw[g5.block H b8 (U H X3)];exact b2
   have a3:RdS w5 p A n c sx:=by unfold RdS at pE⊢;rw[g5.block p f9 (U p a2)];exact pE
   obtain⟨c0,c1,f0,f1⟩:=Ce a1;have d4:=far.on hf.out b5 (by have:=Y.size;have:=u.size;omega);have X0:RX H w5 (w5.setCell ⟨H,0,none⟩ (.slice A5 (o.length+1) c5)):=RX.set (RX.refl H w5) 0 _ (.inr rfl);have g7:aA.wrap (((k+1:Nat):Int)-1)=(k:Int):=by rw[show(((k+1:Nat):Int)-1)=(k:Int) by omega];exact iX _ ω
   have f2:aA.wrap ((k:Int)+1-1)=(k:Int):=by rw[show((k:Int)+1-1)=(k:Int) by omega];exact iX _ ω
   have JZ:ae6 w0 w1 B p H A n c l R (Vu k) (w5.setCell ⟨H,0,none⟩ (.slice A5 (o.length+1) c5)):=
        ⟨k,sx,o++[r],_,rfl,ω,by unfold RdS at a3⊢;rw[bA _ _ _ _ (λe=>OO e.symm)];exact a3,aB _ _ 0 _ _ _ a1,ah (o5.kept X0 (d4.ne X3)),ah d4,((Y.rx u).on g5 (λj e=> .inl (hf.out j e))).set _,a0,
          λh=>by have:=b6 h;simp only[ay,aH,aR];omega,by simp only[ay,aH,aR];omega,Rb⟩
   replace JZ:=ah JZ;clear a3 X0 a1 b2 ho hf Y pE O hq tu;go_wp2
   go_roundw
   case rel=>exact JZ.out
   case measure=>simp[intOf];try omega
  ·have d3:(o,z)=R:=by
        rw[<-hrel.out];rcases gD k with h|h
        ·subst h;simp[uD]
        ·have:z.2=true:=by cases a5:z.2 with
          |true=>rfl
          |false=>exact absurd ⟨h,a5⟩ a4
         rw[LX k this];simp
   have b9:k=0\/(0<k/\z.2=true):=by
        rcases gD k with h|h
        ·exact .inl h
        ·refine .inr ⟨h,?_⟩
         cases a5:z.2 with
         |true=>rfl
         |false=>exact absurd ⟨h,a5⟩ a4
   subst d3;have f4:=ah (yA.out wr z hE O i);have e8:=xg l z (by rw[hl];exact i);rw[hl] at e8;have f8:=ah (show([]++(rG l (pG l z).1 (pG l z).2).1,(rG l (pG l z).1 (pG l z).2).2)=D from hD.out);clear hD hrel I;generalize pG l z=sb at*;obtain⟨ab,sb⟩:=sb;simp only at f4 e8 f8;have j3:k=0->decide ((0:Int)<(k:Int))=false:=λh=>by subst h;rfl
   have d1:0<k->decide ((0:Int)<(k:Int))=true:=λh=>by rw[decide_eq_true_eq];omega
   rcases b9 with h0|⟨h0,d6⟩
   case' inl=>
        subst h0
   case' inr=>
        have hg:=d1 h0;rw[d6] at d2
   all_goals
        go_wp2_with fail
        refine f4.out.mono ?_;rintro e w3 ⟨rfl,s3,g3⟩;have d8:=g3.blk hq OO;have i0:=Y.rx g3;have a2:p<B:=ω
        have X3:H<B:=ω
        have d7:J<B:=ω
        have h7:=ho.out.kept g3 (hf.out.ne a2);clear f4 ho;go_wp2
        go_loopw [5] (ae5 w0 w1 B p H A n c l D v o) (λv _=>(intOf v).toNat)
        case atStart=>exact⟨ab,sb,[],.slice none 0 0,rfl,e8.2,s3,d8,ah (qg.nil _ _),ah (far.nil _),ah h7,(by cases h:v.ownBlock with
          |none=>exact .inl rfl
          |some g=>exact .inr (λe=>by cases e)),i0,e8.1,λ_=>ι,ι,f8⟩
        case round=>
         clear s3 g3 d8 i0 f8 h7 O hq hE e0 e1 d2 i i3 Y;obtain⟨k,z,o2,v2,rfl,hk,O,hq,b7,X,ho,d5,Y,i,I,i3,hrel⟩:=hrel;have hE:Ext w0 wr:=a6.out _ Y;obtain⟨e0,e1,_,_⟩:=Ce hq;obtain⟨_,_,d2,_,_⟩:=O.cells;by_cases a4:0<k/\z.2=false
         ·obtain⟨j1,b0⟩:=a4
          obtain⟨at',b⟩:=z;simp only at b0 d2 i I;subst b0;obtain⟨k,rfl⟩:∃j,k=j+1:=⟨k-1,ω⟩;have d1:decide ((0:Int)<((k+1:Nat):Int))=true:=by rw[decide_eq_true_eq];omega
          have j2:decide ((0:Int)<(k:Int)+1)=true:=by rw[decide_eq_true_eq];omega
          have Q:=ah (λ(W':aj) (hX:Ext w0 W') (f6:RdS W' p A n c (at',false))=>j9.out W' (at',false) hX f6 i);have a0:=Zw (l:=l) (s:=(at',false)) (by rw[hl];exact i);have b6:(tZ l (at',false)).2.2=false->at'+3<=(tZ l (at',false)).2.1:=λh=>acK (by rw[hl];exact i) h
          have a9:(rG l (k+1) (at',false))=((tZ l (at',false)).1::(rG l k (tZ l (at',false)).2).1,(rG l k (tZ l (at',false)).2).2):=by rw[rG,if_neg ι]
          have Rb:=ah (show(o2++[(tZ l (at',false)).1]++(rG l k (tZ l (at',false)).2).1,(rG l k (tZ l (at',false)).2).2)=D by rw[<-hrel.out,a9];simp);have i8:=I rfl;clear a9 hrel I;rw[hl] at a0;generalize tZ l (at',false)=x at*;obtain⟨r,sx⟩:=x;simp only at Q a0 b6 Rb;have hX:Ext w0 wr:=hE;have M:wr.cell? ⟨H,1,none⟩=some v2:=e1;have b3:p<wr.heap.size:=O.lt;have g4:H<wr.heap.size:=(aC.1 hq).1;have hv:=v2
          go_wp2_with fail
          refine tY 5 3 [rw1 3 (λz9 W=>z9=spv r.1 r.2.1 r.2.2/\RdS W p A n c sx),rw1 4 (λz9 W=>∃q,z9= .slice (some ⟨q,0,none⟩) 1 1/\q≠p/\NJ W q r)] (RX p _) (λW=>RdS W p A n c (at',false)) Ext (RX p) (RX.ext ((Ext.refl _).drew)) (O.ext ((Ext.refl _).drew)) (λ_ _ h e=>h.trans (RX.ext e)) (λ_ _ h e=>h.ext e) ⟨(λ_ _ _ _ h e=>⟨h.1,h.2.ext e⟩),(λ_ h=>absurd rfl h),(by rintro _ _ _ _ ⟨q,h1,h2,h3⟩ e;exact⟨q,h1,h2,e.blk h3⟩),(λ_ _=>by rintro _ _ _ _ ⟨q,h1,h2,h3⟩ e;exact⟨q,h1,h2,RX.blk e h3 h2⟩),trivial⟩ λρ _=>?_
          refine .s1 3 false [] (λW hx _ _=>by have q0:=RX.cell hx M OO;exact oz) ?_;refine .o0 0 [] (λW hx b4 _ N hN=>?_) ?_
          ·go_simp
           exact(Q.out W (RX.down hX hp hx) b4).mono (by rintro e W1 ⟨rfl,h1,h2⟩;exact⟨_,rfl,hN _ _ (λ_ e=>by cases e) ⟨rfl,h1⟩ (hx.trans h2) h2⟩)
          refine .o1 1 false [0] (λW hx _ f N hN=>?_) ?_
          ·obtain⟨⟨e3,_⟩,_⟩:=f
           have e3:ρ 3=_:=e3;have j0:p<W.heap.size:=bD b3 hx.size
           go_simp
           exact hN _ _ (λ_ e=>by cases e) ⟨_,rfl,ω,NJ.new W r⟩ ((Ext.refl W).alloc _)
          refine .fin λW' u ⟨h3,h4,_⟩=>?_
          obtain⟨e3,pE⟩:=h3 rfl;obtain⟨qb,e4,i7,tu⟩:=h4 rfl;rw[show ρ 3=_ from e3,show ρ 4=_ from e4];simp only[dN,dX];clear M;have f7:Ext w0 W':=RX.down hX hp u;have b2:=u.blk hq OO;have b8:=bD g4 u.size;have f9:=bD b3 u.size;have f3:=ho.out.kept u (hf.out.ne a2);have j6:=vH.lt f3;refine FB (w0:=w0) rfl (.tmp 40) (.tmp 43) rfl v2 o2 rfl (b7.out.kept u (X.out.ne a2)) f7 _ 1 1 [r] rfl rfl tu.row (by simp only[aH,aR];omega) ?_;intro v5 w5 o5 x5 g5 b5;obtain⟨A5,c5,a8⟩:=qg.form o5;rw[show(o2++[r]).length=o2.length+1 by simp] at a8;subst a8;have U:∀j,j<B->some j≠v2.ownBlock:=λj hj e=>by have:=X.out j e.symm;omega
          have a1:w5.heap[H]? =some (.cells #[v,v2] 44 (0,0)):=by rw[g5.block H b8 (U H X3)];exact b2
          have a3:RdS w5 p A n c sx:=by unfold RdS at pE⊢;rw[g5.block p f9 (U p a2)];exact pE
          have b1:=f3.kept g5 d5;obtain⟨c0,c1,f0,f1⟩:=Ce a1;have d4:=far.on X.out b5 (by have:=Y.size;have:=u.size;omega);have j8:v.ownBlock=none\/v.ownBlock≠(Value.slice A5 (o2.length+1) c5).ownBlock:=by
           rcases d5 with h|h
           ·exact .inl h
           ·rcases b5 with b5|b5
            ·exact .inr (by rw[b5];exact h)
            ·rw[b5]
             rcases i9:v.ownBlock with _|g
             ·exact .inl rfl
             ·refine .inr λhe=>?_
              injection he with he;have:=(j6 g i9).2;omega
          have X0:RX H w5 (w5.setCell ⟨H,1,none⟩ (.slice A5 (o2.length+1) c5)):=RX.set (RX.refl H w5) 1 _ (.inr rfl);have g7:aA.wrap (((k+1:Nat):Int)-1)=(k:Int):=by rw[show(((k+1:Nat):Int)-1)=(k:Int) by omega];exact iX _ ω
          have f2:aA.wrap ((k:Int)+1-1)=(k:Int):=by rw[show((k:Int)+1-1)=(k:Int) by omega];exact iX _ ω
          have JZ:ae5 w0 w1 B p H A n c l D v o (Vu k) (w5.setCell ⟨H,1,none⟩ (.slice A5 (o2.length+1) c5)):=
           ⟨k,sx,o2++[r],_,rfl,ω,by unfold RdS at a3⊢;rw[bA _ _ _ _ (λe=>OO e.symm)];exact a3,aB _ _ 1 _ _ _ a1,ah (o5.kept X0 (d4.ne X3)),ah d4,ah (b1.kept X0 (hf.out.ne X3)),j8,((Y.rx u).on g5 (λj e=> .inl (X.out j e))).set _,a0,
             λh=>by have:=b6 h;simp only[ay,aH,aR];omega,by simp only[ay,aH,aR];omega,Rb⟩
          replace JZ:=ah JZ;clear a3 X0 a1 b2 b7 X Y pE O hq tu b1 f3 ho;go_wp2
          go_roundw
          case rel=>exact JZ.out
          case measure=>simp[intOf]
         ·have d3:(o2,z)=D:=by
           rw[<-hrel.out];rcases gD k with h|h
           ·subst h;simp[rG]
           ·have:z.2=true:=by cases a5:z.2 with
             |true=>rfl
             |false=>exact absurd ⟨h,a5⟩ a4
            rw[DI k this];simp
          have b9:k=0\/(0<k/\z.2=true):=by
           rcases gD k with h|h
           ·exact .inl h
           ·refine .inr ⟨h,?_⟩
            cases a5:z.2 with
            |true=>rfl
            |false=>exact absurd ⟨h,a5⟩ a4
          subst d3;obtain⟨Ar,cr,i5,_,_⟩:=vH.open ho.out;obtain⟨Ad,cd,i6⟩:=qg.form b7.out;have g1:wr.heap[J]? =some (.cells #[.slice none 0 0,.slice none 0 0] 44 (0,0)):=by rw[Y.block J d7 g0 ω];exact h6
          have e6:vH w0 ((wr.setCell ⟨J,0,none⟩ v).setCell ⟨J,1,none⟩ v2) v o:=(ho.out.kept (RX.set (RX.refl J wr) 0 v (.inr rfl)) (hf.out.ne d7)).kept (RX.set (RX.refl J _) 1 v2 (.inr rfl)) (hf.out.ne d7);have e5:qg w0 ((wr.setCell ⟨J,0,none⟩ v).setCell ⟨J,1,none⟩ v2) v2 o2:=(b7.out.kept (RX.set (RX.refl J wr) 0 v (.inr rfl)) (X.out.ne d7)).kept (RX.set (RX.refl J _) 1 v2 (.inr rfl)) (X.out.ne d7);have e2:RdS ((wr.setCell ⟨J,0,none⟩ v).setCell ⟨J,1,none⟩ v2) p A n c z:=by
           unfold RdS at O⊢;rw[bA _ _ _ _ (λe=>g0 e.symm),bA _ _ _ _ (λe=>g0 e.symm)];exact O
          have d9:RX p W ((wr.setCell ⟨J,0,none⟩ v).setCell ⟨J,1,none⟩ v2):=((Y.aiK x1 ω ω).set 0 _ (.inl ω)).set 1 _ (.inl ω);have h5:((wr.setCell ⟨J,0,none⟩ v).setCell ⟨J,1,none⟩ v2).heap[J]? =some (.cells #[v,v2] 44 (0,0)):=aB _ _ 1 _ _ _ (aB _ _ 0 _ _ _ g1);obtain⟨z0,z1,_,_⟩:=Ce h5;obtain⟨y0,y1,f0,f1⟩:=Ce g1;subst i5;subst i6;replace e6:=ah e6;replace e5:=ah e5;replace e2:=ah e2;replace d9:=ah d9;have b1:=ah (hf.out.mono (show J<=B by omega));have g9:=ah (X.out.mono (show J<=B by omega));clear ho b7 O Y hq h5 g1 hrel d5 hE;have j3:k=0->decide ((0:Int)<(k:Int))=false:=λh=>by subst h;rfl
          have d1:0<k->decide ((0:Int)<(k:Int))=true:=λh=>by rw[decide_eq_true_eq];omega
          rcases b9 with h0|⟨h0,d6⟩
          ·subst h0
           go_wp2;exact aN (v:= .agg #[_,_]) (by simp[dK,Tryz.results103,go_sem,z0,z1]) rfl ⟨_,_,rfl,e6.out,e5.out,b1.out,g9.out,e2.out,d9.out⟩
          ·have hg:=d1 h0
           rw[d6] at d2;go_wp2;exact aN (v:= .agg #[_,_]) (by simp[dK,Tryz.results103,go_sem,z0,z1]) rfl ⟨_,_,rfl,e6.out,e5.out,b1.out,g9.out,e2.out,d9.out⟩
end
end
section
attribute [local go_sem] calm oK oG
attribute [local go_sem] au
def PL (x y:Int) (W:aj) (q:Nat):Prop:=W.heap[q]? =some (.cells #[Vu x,Vu y] 55 (0,0))
variable {W:aj} {x y:Int}
theorem PL.store {u v:Int} {q:Nat} (a:W.heap[q]? =some (.cells #[Vu u,Vu v] 55 (0,0))):PL x y ((W.setCell ⟨q,0,none⟩ (Vu x)).setCell ⟨q,1,none⟩ (Vu y)) q:=
 aB _ _ 1 _ _ _ (aB _ _ 0 _ _ _ a)
def yc (B:Nat) (x y:Int) (W W':aj):Prop:=Below B W W'/\(∀q,yg W q->yg W' q)/\∀q,PL x y W q->PL x y W' q
theorem yc.trans {B:Nat} {x y:Int} (a b c:aj) (h:yc B x y a b) (k:yc B x y b c):yc B x y a c:=⟨h.1.trans k.1,λq e=>k.2.1 q (h.2.1 q e),λq e=>k.2.2 q (h.2.2 q e)⟩
theorem yc.ext {B:Nat} {w W':aj} (e:yc B x y w W) (h:Ext W W') (f:B<=w.heap.size:=by assumption):yc B x y W W':=by
 refine⟨Below.mono h (aM f e.1.size),λq a=>?_,λq a=>?_⟩
 ·obtain⟨u,v,a⟩:=a
  exact⟨u,v,by rw[aJ h q (aC.1 a).1];exact a⟩
 ·unfold PL at a⊢
  rw[aJ h q (aC.1 a).1];exact a
theorem yc.alloc {B:Nat} {x y:Int} {w W:aj} (a:yc B x y w W) (o:Obj) (e:B<=w.heap.size:=by assumption):yc B x y W (W.alloc o):=yc.ext a ((Ext.refl W).alloc o) e
theorem yc.store {B:Nat} {w:aj} {q:Nat} (j:yc B x y w W) (i:B<=q):yc B x y W ((W.setCell ⟨q,0,none⟩ (Vu x)).setCell ⟨q,1,none⟩ (Vu y)):=by
 refine⟨((lV _ _).setCell i _).setCell i _,λf a=>?_,λf a=>?_⟩
 ·obtain⟨u,v,a⟩:=a
  by_cases e:f=q
  ·subst e
   exact⟨x,y,aB _ _ 1 _ _ _ (aB _ _ 0 _ _ _ a)⟩
  ·exact⟨u,v,by rw[bA _ _ _ _ e,bA _ _ _ _ e];exact a⟩
 ·unfold PL at a⊢
  by_cases e:f=q
  ·subst e
   exact aB _ _ 1 _ _ _ (aB _ _ 0 _ _ _ a)
  ·rw[bA _ _ _ _ e,bA _ _ _ _ e];exact a
theorem TU (r:Rn) (w:aj) (hm:rW r=true) (b3:0<=r.k) (b2:r.k<=4294967295) (ht:r.t.length<=80000000):
  aX Tryz.prog 99 #[rnv r] w λe w'=>e= .returned (idv r.c (uS r))/\Ext w w':=by
 have hl:=xI r.t;have a3:(⟨r.t.toArray⟩:ByteArray).size=r.t.length:=by show r.t.toArray.size=_;simp
 have i:=ah (λW=>runeCount_any ⟨r.t.toArray⟩ W (by rw[a3];omega));rw[Bj] at i;replace i:Hid (∀(W:aj),aX Tryz.prog 81 #[.string ⟨r.t.toArray⟩] W λe w'=>e= .returned (.int .i64 ((oJ r.t).length:Int))/\Ext W w'):=i;clear a3;obtain⟨v,vs,hr,hc,b1,_,_,_⟩:=DX hm;obtain⟨n,Q⟩:∃n,(oJ r.t).length=n:=⟨_,rfl⟩;have a7:n=vs.length+1:=by rw[<-Q,hr];simp
 rw[Q] at i hl;obtain⟨y,hy⟩:∃y,uS r=y:=⟨_,rfl⟩;have a2:y=r.k+((n:Int)-1):=by rw[<-hy,uS,Q];omega
 rw[hy];have X:=ah (λW=>Dj (a:=r.c) (b:=r.k) (n:=(n:Int)-1) (l:=4294967295) (x:=r.c) (y:=y) W (by unfold tV;rw[if_neg ω,if_neg ω,a2]) b3 b2 ω ω ω ω);have a4:dO.wrap ((n:Int)-1)=(n:Int)-1:=cO _ ω;clear Q hl hr hc b1 hy a2 a7 hm;go_enter Tryz.func99,Tryz.ntmps99
 go_wp2_with fail
 obtain⟨M,H⟩:∃W,(w.alloc (.cells #[.int .u32 r.c,.int .u32 r.k,.int .u32 r.lc,.int .u32 r.lk,.int .u32 r.rc,.int .u32 r.rk,.string ⟨r.t.toArray⟩] 64)).alloc (.cells #[.int .u32 0,.int .u32 0] 55)=W:=⟨_,rfl⟩;have a0:M.cell? ⟨w.heap.size,0,none⟩=some (Vu r.c):=by rw[<-H];simp[go_sem]
 have a1:M.cell? ⟨w.heap.size,1,none⟩=some (Vu r.k):=by rw[<-H];simp[go_sem]
 have a6:M.cell? ⟨w.heap.size,6,none⟩=some (.string ⟨r.t.toArray⟩):=by rw[<-H];simp[go_sem]
 have b0:M.heap[w.heap.size+1]? =some (.cells #[Vu 0,Vu 0] 55 (0,0)):=by
  rw[<-H];have:=aT (w.alloc (.cells #[.int .u32 r.c,.int .u32 r.k,.int .u32 r.lc,.int .u32 r.lk,.int .u32 r.rc,.int .u32 r.rk,.string ⟨r.t.toArray⟩] 64)) (.cells #[.int .u32 0,.int .u32 0] 55);rwa[show(w.alloc (.cells #[.int .u32 r.c,.int .u32 r.k,.int .u32 r.lc,.int .u32 r.lk,.int .u32 r.rc,.int .u32 r.rk,.string ⟨r.t.toArray⟩] 64)).heap.size=w.heap.size+1 by simp] at this
 have x1:Ext w M:=by rw[<-H];exact((Ext.refl _).alloc _).alloc _
 rw[H];clear H;have a9:w.heap.size+1<M.heap.size:=(aC.1 b0).1;obtain⟨z,a8⟩:∃z,w.heap.size=z:=⟨_,rfl⟩;rw[a8] at a0 a1 a6 b0 a9⊢;obtain⟨B,a5⟩:∃B,M.heap.size=B:=⟨_,rfl⟩;have hB:B<=M.heap.size:=ω
 have hK:∀W,yc B r.c y M W->∀{j:Nat} {v:aI},M.cell? ⟨z,j,none⟩=some v->W.cell? ⟨z,j,none⟩=some v:=λW hW j v h=>by rw[jG (p:=⟨z,j,none⟩) hW.1 (by show z<B;omega)];exact h
 refine tY 12 99999 [rwI 4 (Vi (n:Int)),rwI 6 (.tuple #[idv r.c y,.nilIface]),rw1 10 (λz9 W=>∃q,z9= .pointer (some ⟨q,0,none⟩)/\B<=q/\yg W q),rw2 11 10 (λ_ z9 W=>∃q,z9= .pointer (some ⟨q,0,none⟩)/\B<=q/\PL r.c y W q)] (yc B r.c y _) (λ_=>True) (yc B r.c y) (yc B r.c y) ⟨(lV _ _).drew,λ_ h=>h,λ_ h=>h⟩ trivial (λ_ _ h e=>yc.trans _ _ _ h e) (λ_ _ _ _=>trivial) ⟨λ_ _ _ _ _ _=>trivial,λ_ _ _ _ _ _ _ _=>trivial,λ_ _ _ _ _ _=>trivial,λ_ _ _ _ _ _ _ _=>trivial,(by rintro _ _ _ _ ⟨q,O,Z,Y⟩ e;exact⟨q,O,Z,e.2.1 q Y⟩),(λ_ _=>by rintro _ _ _ _ ⟨q,O,Z,Y⟩ e;exact⟨q,O,Z,e.2.1 q Y⟩),(by rintro _ _ _ _ ⟨q,O,Z,Y⟩ e;exact⟨q,O,Z,e.2.2 q Y⟩),(λ_ _=>by rintro _ _ _ _ ⟨q,O,Z,Y⟩ e;exact⟨q,O,Z,e.2.2 q Y⟩),trivial⟩ λρ hI=>?_
 refine .s1 4 false [] (λW I _ _=>by
  have q0:=hK W I a0;have q1:=hK W I a1;have q6:=hK W I a6;exact oz) ?_
 refine .kv1 hI 0 _ (λW I=>(i.out W).mono (by rintro e W1 ⟨rfl,h⟩;exact⟨rfl,yc.ext I h⟩)) ?_;refine .s1 1 false [] (λW I _ _=>oz) ?_;refine .kv1 hI 1 _ (λW I=>(X.out W).mono (by rintro e W1 ⟨rfl,h⟩;exact⟨rfl,yc.ext I h⟩)) ?_;refine .s1 3 false [] (λW I _ _=>oz) ?_;refine .o1 2 false [] (λW I _ _ N hN=>?_) ?_
 ·go_simp
  exact hN _ _ (λ_ e=>by cases e) ⟨_,rfl,aM hB I.1.size,yg.new W⟩ (yc.alloc I _)
 refine .o1 3 false [2] (λW I _ f N hN=>?_) ?_
 ·obtain⟨⟨q,eq,hq,u,v,U⟩,_⟩:=f
  have eq:ρ 10=_:=eq;have f0:=aK W q 0 _ _ U;have f1:=aK W q 1 _ _ U;have g0:=ak W q 0 _ _ _ U;have g1:=ak W q 1 _ _ _ U
  go_simp
  exact hN _ _ (λ_ e=>by cases e) ⟨q,eq,hq,PL.store U⟩ (yc.store I hq)
 refine .fin λW hR ⟨_,_,_,b5,_⟩=>?_
 obtain⟨q,b6,hq,U⟩:=b5 rfl;rw[show ρ 10=_ from b6];have b4:Ext w W:=x1.trans (by have O:=hR.1;rw[<-a5] at O;exact O);have g0:=ak W q 0 _ _ _ U;have g1:=ak W q 1 _ _ _ U;have J:W.heap[z+1]? =some (.cells #[Vu 0,Vu 0] 55 (0,0)):=by rw[aJ hR.1 (z+1) ω];exact b0
 have f0:=aK W (z+1) 0 _ _ J;have f1:=aK W (z+1) 1 _ _ J;have k0:=ak W (z+1) 0 _ _ _ J;have k1:=ak W (z+1) 1 _ _ _ J;clear U a0 a1 a6 hK hR x1 a4 X i b0 hB a5;go_wp2;have hc:=PL.store (x:=r.c) (y:=y) J;have z0:=ak _ (z+1) 0 _ _ _ hc;have z1:=ak _ (z+1) 1 _ _ _ hc;exact aN (v:=idv r.c y) (by simp[dK,Tryz.results99,go_sem,z0,z1]) rfl ⟨rfl,(b4.setCell (by show w.heap.size<=z+1;omega) _).setCell (by show w.heap.size<=z+1;omega) _⟩
theorem Zd (x y:It):(pO [x,y]).length=if onI x y then 1 else 2:=by
 rw[vP,Gz _ _ _ (λ_=>Oc ι)];show(pO [y]).length+(if onI x y=true then 0 else 1)=_;have:(pO [y]).length=1:=rfl;rw[this]
 split <;> rfl
def Az (r s:Rn):Bool:=Lu r s&& !onR r s
theorem aea (r s:Rn):decide (0<=rE r.c (uS r) s.c s.k)= !Lu r s:=by
 have:(0<=rE r.c (uS r) s.c s.k)↔¬(r.c<s.c\/r.c=s.c/\uS r<s.k):=by
  unfold rE wJ
  (repeat' split) <;> omega
 unfold Lu;by_cases h:r.c<s.c\/r.c=s.c/\uS r<s.k
 ·simp[this,h]
 ·simp[this,h]
theorem UZ (r s:Rn) (w:aj) (Y:rW r=true) (I:wfR r) (H:wfR s) (ht:r.t.length<=80000000):
  aX Tryz.prog 65 #[rnv r,rnv s] w λe w'=>e= .returned (.bool (Az r s))/\Ext w w':=by
 have X:=I;have U:=H;unfold wfR at X U;have Z:0<=uS r/\uS r<=4294967295:=by
  obtain⟨_,vs,_,_,h1,h2,_,_⟩:=DX Y;omega
 have N:=ah (λW=>TU r W Y X.2.2.1 X.2.2.2.1 ht);have M:=ah (λW=>Pm r.c (uS r) s.c s.k W);have K:=aea r s;have hx:Hid (Eo [⟨r.c,uS r,0,0,r.rc,r.rk,0⟩,⟨s.c,s.k,s.lc,s.lk,s.rc,s.rk,0⟩]):=ah (by
  intro z hz;simp only[List.mem_cons,List.not_mem_nil,or_false] at hz;unfold wfI;rcases hz with rfl|rfl <;> simp only <;> omega)
 have Q:=ah (Zd ⟨r.c,uS r,0,0,r.rc,r.rk,0⟩ ⟨s.c,s.k,s.lc,s.lk,s.rc,s.rk,0⟩);have J:onI ⟨r.c,uS r,0,0,r.rc,r.rk,0⟩ ⟨s.c,s.k,s.lc,s.lk,s.rc,s.rk,0⟩=onR r s:=rfl;rw[J] at Q;clear J;generalize uS r=y at*;generalize rE r.c y s.c s.k=z at*;clear I H X U Y ht Z;cases j:Lu r s with
 |false=>
  rw[j,Bool.not_false] at K;have u:=ah (show Az r s=false by unfold Az;rw[j,iQ]);go_enter Tryz.func65,Tryz.ntmps65
  go_wp2_with fail
  refine(N.out _).mono ?_;rintro e q ⟨rfl,x1⟩;have b0:=x1.keep (p:=⟨w.heap.size+1,0,none⟩) (v:=Vu s.c) σ;have b1:=x1.keep (p:=⟨w.heap.size+1,1,none⟩) (v:=Vu s.k) σ;have f:Ext w q:=(((Ext.refl _).alloc _).alloc _).trans x1;clear x1
  go_wp2_with fail
  refine(M.out _).mono ?_;rintro e w2 ⟨rfl,x2⟩;go_wp2;go_ret;exact⟨pR (a:=false) u.out.symm,(f.alloc _).trans x2⟩
 |true=>
  rw[j,Bool.not_true] at K;have u:=ah (show Az r s= !onR r s by unfold Az;rw[j,jr]);go_enter Tryz.func65,Tryz.ntmps65
  go_wp2_with fail
  refine(N.out _).mono ?_;rintro e q ⟨rfl,x1⟩;have a4:=x1.keep (p:=⟨w.heap.size,4,none⟩) (v:=Vu r.rc) σ;have a5:=x1.keep (p:=⟨w.heap.size,5,none⟩) (v:=Vu r.rk) σ;have b0:=x1.keep (p:=⟨w.heap.size+1,0,none⟩) (v:=Vu s.c) σ;have b1:=x1.keep (p:=⟨w.heap.size+1,1,none⟩) (v:=Vu s.k) σ;have b2:=x1.keep (p:=⟨w.heap.size+1,2,none⟩) (v:=Vu s.lc) σ;have b3:=x1.keep (p:=⟨w.heap.size+1,3,none⟩) (v:=Vu s.lk) σ;have b4:=x1.keep (p:=⟨w.heap.size+1,4,none⟩) (v:=Vu s.rc) σ;have b5:=x1.keep (p:=⟨w.heap.size+1,5,none⟩) (v:=Vu s.rk) σ;have f:Ext w q:=(((Ext.refl _).alloc _).alloc _).trans x1;clear x1;generalize w.heap.size=pa at*
  go_wp2_with fail
  refine(M.out _).mono ?_;rintro e w2 ⟨rfl,x2⟩;have i:=((Ext.refl q).alloc (.cells #[.int .u32 r.c,.int .u32 y] 55)).trans x2;have c0:=x2.keep (p:=⟨q.heap.size,0,none⟩) (v:=Vu r.c) σ;have c1:=x2.keep (p:=⟨q.heap.size,1,none⟩) (v:=Vu y) σ;replace a4:=i.keep a4;replace a5:=i.keep a5;replace b0:=i.keep b0;replace b1:=i.keep b1;replace b2:=i.keep b2;replace b3:=i.keep b3;replace b4:=i.keep b4;replace b5:=i.keep b5;replace f:=f.trans i;clear x2 i;generalize q.heap.size=pe at*
  go_wp2_with fail
  refine(Jw _ 2 2 [⟨r.c,y,0,0,r.rc,r.rk,0⟩,⟨s.c,s.k,s.lc,s.lk,s.rc,s.rk,0⟩] _ (Row.new w2 _ 57) rfl ω hx.out ω).mono ?_;rintro e w3 ⟨v3,rfl,o3,x3⟩;obtain⟨A3,a0,rfl,_,_⟩:=vH.open o3;rw[Q.out];cases O:onR r s with
  |true=>
   rw[O,Bool.not_true] at u;go_wp2;go_ret;exact⟨pR (a:=false) u.out.symm,(f.alloc _).trans x3⟩
  |false=>
   rw[O,Bool.not_false] at u;go_wp2;go_ret;exact⟨pR (a:=true) u.out.symm,(f.alloc _).trans x3⟩
end
section
attribute [local go_sem] au
section
def rJ:Option Rn->List Rn->Bool
 |_,[]=>true
 |none,r::l=>rW r&&rJ (some r) l
 |some p,r::l=>rW r&&(Az p r&&rJ (some r) l)
def G7 (rs:List Rn):Nat->Option Rn
 |0=>none
 |k+1=>rs[k]?
theorem KL:∀(l:List Rn) (p:Rn),rJ (some p) l=(l.all rW&&zl Lu (p::l)&&zl (λr s=> !onR r s) (p::l))
 |[],p=>rfl
 |r::l,p=>by
  rw[rJ,KL l r,jS,Ey,Ey,Az];cases rW r <;> cases Lu p r <;> cases onR p r <;> simp
variable {k:Nat} {r:Rn} {rs:List Rn}
theorem UQ (l:List Rn):rJ none l=(l.all rW&&zl Lu l&&zl (λr s=> !onR r s) l):=by
 cases l with
 |nil=>rfl
 |cons r l=>rw[rJ,KL,jS];simp[Bool.and_assoc]
theorem TL (rs:List Rn) (ds:List Sp):Ia rs ds=(rJ none rs&&oC zS ds):=by rw[Xx,UQ]
theorem FX (h:rs[k]? =some r):G7 rs (k+1)=some r:=h
theorem Ed (h:rs[k]? =some r) (p:Option Rn):rJ p (rs.drop k)=rJ p (r::rs.drop (k+1)):=by
 obtain⟨a,e⟩:=List.getElem?_eq_some_iff.1 h;rw[List.drop_eq_getElem_cons a,e]
theorem YB (h:rs[k]? =some r) (a:rW r=false) (p:Option Rn):rJ p (rs.drop k)=false:=by
 rw[Ed h];cases p <;> rw[rJ,a,iQ]
theorem R8 (h:rs[0]? =some r) (a:rW r=true):rJ (G7 rs 0) (rs.drop 0)=rJ (G7 rs (0+1)) (rs.drop (0+1)):=by
 rw[Ed h,FX h];show rJ none _=_;rw[rJ,a,jr]
theorem UR {p:Rn} (a:rs[k]? =some p) (h:rs[k+1]? =some r) (e:rW r=true):rJ (G7 rs (k+1)) (rs.drop (k+1))=(Az p r&&rJ (G7 rs (k+1+1)) (rs.drop (k+1+1))):=by
 rw[Ed h,FX h,FX a,rJ,e,jr]
theorem YA (h:rs.length<=k) (p:Option Rn):rJ p (rs.drop k)=true:=by
 rw[List.drop_eq_nil_of_le h];cases p <;> rfl
theorem JJ (A:Option Addr) (n c:Nat) (B:Option Addr) (m d:Nat) (rs:List Rn) (ds:List Sp) (w:aj) (hT:Tabs w) (hv:RnS w A rs) (hn:rs.length=n) (hS:SpS w B ds) (hm:ds.length=m)
  (hw:∀r∈rs,wfR r/\r.t.length<=80000000) (a3:wfS ds) (hb:m<=400000) (b2:n<=40000000):
  aX Tryz.prog 41 #[ab7 A n c B m d] w λe w'=>e= .returned (.bool (Ia rs ds))/\Ext w w':=by
 rw[TL];have U:=ah (λW (J:Ext w W)=>aai B m d ds W (hS.ext J) hm a3 hb);replace hn:=ah hn;replace hv:=ah hv;replace hw:=ah hw;replace hT:=ah hT;clear hS hm a3 hb;go_enter Tryz.func41,Tryz.ntmps41;go_wp2;have x0:Ext w (w.alloc (.cells #[.slice A n c,.slice B m d] 44)):=(Ext.refl _).alloc _;have a0:(w.alloc (.cells #[.slice A n c,.slice B m d] 44)).cell? ⟨w.heap.size,0,none⟩=some (.slice A n c):=σ
 have a1:(w.alloc (.cells #[.slice A n c,.slice B m d] 44)).cell? ⟨w.heap.size,1,none⟩=some (.slice B m d):=σ
 generalize w.alloc (.cells #[.slice A n c,.slice B m d] 44)=w0 at*;generalize w.heap.size=pa at*
 go_loopw [8] (λi W=>∃(k:Nat),k<=n/\i=Vi k/\Hid (rJ none rs=rJ (G7 rs k) (rs.drop k))/\Hid ((rs.take k).all rW=true)/\Ext w0 W) (λi _=>n-(intOf i).toNat)
 case atStart=>exact⟨0,Nat.zero_le _,rfl,ah (by simp[G7]),ah ι,Ext.refl _⟩
 case round=>
  obtain⟨k,hk,rfl,hrel,M,J⟩:=hrel;by_cases a6:k<n
  ·obtain⟨b,o,r,rfl,H,dd⟩:=hv.out.at (k:=k) (by rw[hn.out];exact a6)
   obtain⟨O,X⟩:=hw.out r (aP H);have OM:=O;unfold wfR at OM;obtain⟨c0,c1,c2,c3,c4,c5,c6⟩:=dd.ext (x0.trans J);have f:=ah (λW (hX:Ext w W)=>TK r W (hT.out.ext hX) OM.2.2.1 OM.2.2.2.1 X);have y0:=J.keep a0
   go_wp2_with fail
   have q0:(wr.alloc (bF #[.int .u32 r.c,.int .u32 r.k,.int .u32 r.lc,.int .u32 r.lk,.int .u32 r.rc,.int .u32 r.rk,.string ⟨r.t.toArray⟩] 64)).cell? ⟨wr.heap.size,0,none⟩=some (Vu r.c):=σ
   have q1:(wr.alloc (bF #[.int .u32 r.c,.int .u32 r.k,.int .u32 r.lc,.int .u32 r.lk,.int .u32 r.rc,.int .u32 r.rk,.string ⟨r.t.toArray⟩] 64)).cell? ⟨wr.heap.size,1,none⟩=some (Vu r.k):=σ
   have q2:(wr.alloc (bF #[.int .u32 r.c,.int .u32 r.k,.int .u32 r.lc,.int .u32 r.lk,.int .u32 r.rc,.int .u32 r.rk,.string ⟨r.t.toArray⟩] 64)).cell? ⟨wr.heap.size,2,none⟩=some (Vu r.lc):=σ
   have q3:(wr.alloc (bF #[.int .u32 r.c,.int .u32 r.k,.int .u32 r.lc,.int .u32 r.lk,.int .u32 r.rc,.int .u32 r.rk,.string ⟨r.t.toArray⟩] 64)).cell? ⟨wr.heap.size,3,none⟩=some (Vu r.lk):=σ
   have q4:(wr.alloc (bF #[.int .u32 r.c,.int .u32 r.k,.int .u32 r.lc,.int .u32 r.lk,.int .u32 r.rc,.int .u32 r.rk,.string ⟨r.t.toArray⟩] 64)).cell? ⟨wr.heap.size,4,none⟩=some (Vu r.rc):=σ
   have q5:(wr.alloc (bF #[.int .u32 r.c,.int .u32 r.k,.int .u32 r.lc,.int .u32 r.lk,.int .u32 r.rc,.int .u32 r.rk,.string ⟨r.t.toArray⟩] 64)).cell? ⟨wr.heap.size,5,none⟩=some (Vu r.rk):=σ
   have q6:(wr.alloc (bF #[.int .u32 r.c,.int .u32 r.k,.int .u32 r.lc,.int .u32 r.lk,.int .u32 r.rc,.int .u32 r.rk,.string ⟨r.t.toArray⟩] 64)).cell? ⟨wr.heap.size,6,none⟩=some (.string ⟨r.t.toArray⟩):=σ
   have x1:Ext wr (wr.alloc (bF #[.int .u32 r.c,.int .u32 r.k,.int .u32 r.lc,.int .u32 r.lk,.int .u32 r.rc,.int .u32 r.rk,.string ⟨r.t.toArray⟩] 64)):=(Ext.refl _).alloc _;clear c0 c1 c2 c3 c4 c5 c6;generalize wr.alloc (bF #[.int .u32 r.c,.int .u32 r.k,.int .u32 r.lc,.int .u32 r.lk,.int .u32 r.rc,.int .u32 r.rk,.string ⟨r.t.toArray⟩] 64)=W1 at*;generalize wr.heap.size=py at*;have N:=J.trans x1;have z:=x0.trans N;have a8:=av (x1.keep y0);clear x1 y0;have s0:=av q0;have s1:=av q1;have s2:=av q2;have s3:=av q3;have s4:=av q4;have s5:=av q5;have s6:=av q6;clear q0 q1 q2 q3 q4 q5 q6;cases q:rW r with
   |false=>
    rw[q] at f;have K:=ah (YB H q (G7 rs k));clear q H dd;refine aL κ κ ?_
    repeat go_big_quiet_step((with_reducible exact Calls.oh (f.out _ (z.trans (Ext.nX _ _ _)))))
    refine bQ ?_;intro _ u;obtain⟨⟨dq,osq⟩,j⟩:=u;subst j;go_wp2;go_ret;exact⟨pR (a:=false) (by rw[hrel.out,K.out,iQ]),z.trans (Ext.nX _ _ _)⟩
   |true=>
    rw[q] at f;have a4:=ah (show(rs.take (k+1)).all rW=true by rw[I4 H,M.out,q];rfl);cases k with
    |zero=>
     have K:=ah (R8 H q);clear q H dd;refine aL κ κ ?_
     repeat go_big_quiet_step((with_reducible exact Calls.oh (f.out _ (z.trans (Ext.nX _ _ _)))))
     refine bQ ?_;intro _ u;obtain⟨⟨dq,osq⟩,j⟩:=u;subst j;go_wp2
     go_roundw
     case rel=>exact⟨0+1,ω,ν,ah (by rw[hrel.out,K.out]),a4,N.trans (Ext.nX _ _ _)⟩
     case measure=>simp[intOf];omega
    |succ k=>
     obtain⟨b',o',p,e,Y,ee⟩:=hv.out.at (k:=k) (by rw[hn.out];omega);injection e with e;injection e with e1 e2;subst e1;subst e2;obtain⟨Q,Z⟩:=hw.out p (aP Y);have a2:rW p=true:=by
      have:=M.out;rw[I4 Y,Bool.and_eq_true] at this;exact this.2
     obtain⟨t0,t1,t2,t3,t4,t5,t6⟩:=ee.ext z;have r0:=av t0;have r1:=av t1;have r2:=av t2;have r3:=av t3;have r4:=av t4;have r5:=av t5;have r6:=av t6;clear t0 t1 t2 t3 t4 t5 t6 ee dd;have a7:dO.wrap (((k+1:Nat):Int)-1)=(k:Int):=by rw[show(((k+1:Nat):Int)-1)=(k:Int) by omega];exact cO _ ω
     have b0:(0:Int)<=(k:Int):=ω
     have a9:(k:Int)<(n:Int):=ω
     have hg:decide ((0:Int)<((k+1:Nat):Int))=true:=ι
     have b1:decide ((0:Int)<(k:Int)+1)=true:=by rw[decide_eq_true_eq];omega
     have K:=ah (UR Y H q);have Ah:=ah (λW=>UZ p r W a2 Q O Z);clear q a2 Q O OM Z X;cases I:Az p r with
     |true=>
      rw[I] at Ah K;clear I Y H;refine aL κ κ ?_
      repeat go_big_quiet_step((first|with_reducible exact Calls.oh (f.out _ (z.trans (Ext.nX _ _ _)))|with_reducible exact Calls.oh (Ah.out _)))
      refine bQ ?_;intro _ u;obtain⟨⟨dq,osq⟩,j⟩:=u;subst j;go_wp2
      go_roundw
      case rel=>exact⟨k+1+1,ω,ν,ah (by rw[hrel.out,K.out,jr]),a4,N.trans (Ext.nX _ _ _)⟩
      case measure=>simp[intOf];omega
     |false=>
      rw[I] at Ah K;clear I Y H;refine aL κ κ ?_
      repeat go_big_quiet_step((first|with_reducible exact Calls.oh (f.out _ (z.trans (Ext.nX _ _ _)))|with_reducible exact Calls.oh (Ah.out _)))
      refine bQ ?_;intro _ u;obtain⟨⟨dq,osq⟩,j⟩:=u;subst j;go_wp2;go_ret;exact⟨pR (a:=false) (by rw[hrel.out,K.out,iQ,iQ]),z.trans (Ext.nX _ _ _)⟩
  ·have hz:=ah (show rJ none rs=true by rw[hrel.out];exact YA (by rw[hn.out];omega) _)
   have y1:=J.keep a1;have a5:=ah (U.out wr (x0.trans J))
   go_wp2_with fail
   refine a5.out.mono ?_;rintro e w2 ⟨rfl,x2⟩;go_wp2;go_ret;exact⟨pR (by rw[hz.out,jr]),(x0.trans J).trans x2⟩
end
section
abbrev ac6:aI:= .agg #[.slice none 0 0,.slice none 0 0]
def agU (w:aj) (r:Option (List Rn×List Sp)) (e:Ending) (w':aj):Prop:=match r with
 |none=>e= .returned (.tuple #[ac6,qD 2])/\Ext w w'
 |some (rs,ds)=>∃vr a,e= .returned (.tuple #[.agg #[vr,a],.nilIface])/\vH w w' vr rs/\qg w w' a ds/\Ext w w'
theorem acE {rs:List Rn} {ds:List Sp} {r:Rn} (h:r∈rs):r.t.length<=(Ap rs ds).length:=by
 obtain⟨a,b,rfl⟩:=List.append_of_mem h;simp only[Ap,yw,FV,List.flatMap_append,List.flatMap_cons,ay];omega
theorem ae7 {ds:List Sp} (h:∀s∈ds,Y2 s):wfS ds:=h
section
variable {w:aj} {A:Option Addr} {n c:Nat} {l:List UInt8}
def RD (w:aj) (A:Option Addr) (n c:Nat):aj:=(w.alloc (.cells #[.slice none 0 0,.slice none 0 0] 44)).alloc (.cells #[.slice A n c,.int .i64 0,.bool false] 205)
theorem RA (w:aj) (A:Option Addr) (n c:Nat):Ext w (RD w A n c):=((Ext.refl _).alloc _).alloc _
theorem agf (w:aj) (A:Option Addr) (n c:Nat):(RD w A n c).heap[w.heap.size]? =some (.cells #[.slice none 0 0,.slice none 0 0] 44 (0,0)):=by
 unfold RD;rw[aJ ((Ext.refl (w.alloc (.cells #[.slice none 0 0,.slice none 0 0] 44))).alloc _) w.heap.size ι];exact aT _ _
theorem abf (w:aj) (A:Option Addr) (n c:Nat):RdS (RD w A n c) (w.heap.size+1) A n c (0,false):=by
 unfold RD RdS;have h:=aT (w.alloc (.cells #[.slice none 0 0,.slice none 0 0] 44)) (.cells #[.slice A n c,.int .i64 0,.bool false] 205);rw[show(w.alloc (.cells #[.slice none 0 0,.slice none 0 0] 44)).heap.size=w.heap.size+1 by simp] at h;exact h
theorem Ws {p:Prop} (h:p:=by
 obtain⟨hZ,hz⟩:=abn.out w2 (.cells #[.slice Ar rs.length cr,.slice Ad ds.length cd] 44) hE2 hq2;obtain⟨u0,u1,_,_⟩:=Ce hz;replace hZ:=ah hZ;clear BU hfact Uy abn hz hq3 hq2 or3 od3 s2 s3;go_wp2;rw[hG.out];exact aN (v:= .tuple #[ac6,qD 2]) (by simp[dK,Tryz.results69,go_sem,qD,u0,u1]) rfl ⟨rfl,hZ.out⟩):p:=h
theorem Uk (Y:Tabs w) (hb:Bys w A l) (hl:l.length=n) (hc:n<=c) (hn:n<=20000) (a6:∀rs ds e,parse l=some (rs,ds,e)->e=n->ds.length<=400000):
  aX Tryz.prog 69 #[.slice A n c] w (agU w (uo l)):=by
 have i:=ah (Xi (w0:=w) (W:=RD w A n c) (p:=w.heap.size+1) (RA w A n c) ω hb hl hc ω Y (abf w A n c) ι);have M:=RA w A n c;have Q:=agf w A n c;have a3:=abf w A n c;have hg:decide ((20000:Int)<(n:Int))=false:=by rw[decide_eq_false_iff_not];omega
 have BU:uo l=if(yC l (0,false)).2.2=false/\(yC l (0,false)).2.1=n/\Ia (yC l (0,false)).1.1 (yC l (0,false)).1.2=true then some (yC l (0,false)).1 else none:=by
  unfold uo;rw[if_neg ω];cases f:parse l with
  |none=>rw[if_neg (λh=>by rw[Sj f] at h;cases h.1)]
  |some x=>
   obtain⟨rs,ds,e⟩:=x;rw[Si f];simp only[true_and,hl]
 have hfact:(yC l (0,false)).2.2=false->(yC l (0,false)).2.1<=n/\((yC l (0,false)).2.1=n->(∀r∈(yC l (0,false)).1.1,wfR r/\r.t.length<=80000000)/\wfS (yC l (0,false)).1.2/\(yC l (0,false)).1.2.length<=400000/\(yC l (0,false)).1.1.length<=40000000):=by
  intro u;cases f:parse l with
  |none=>rw[Sj f] at u;cases u
  |some x=>
   obtain⟨rs,ds,e⟩:=x;rw[Si f];obtain⟨h1,h2,h3,h4,h5⟩:=DU f;simp only;refine⟨ω,λhe=>⟨λr hr=>⟨(h3 r hr).1,?_⟩,ae7 h4,a6 rs ds e f he,ω⟩⟩;have h6:=acE (ds:=ds) hr;have h7:(l.take e).length=(Ap rs ds).length:=by rw[h2]
   rw[List.length_take] at h7;omega
 generalize uo l=G at*;generalize yC l (0,false)=X at*;obtain⟨⟨rs,ds⟩,at',b0⟩:=X;simp only at i hfact BU;replace BU:=ah BU;replace Y:=ah Y;replace hfact:=ah hfact;go_enter Tryz.func69,Tryz.ntmps69
 go_wp2_with fail
 refine i.out.mono ?_;rintro e w2 ⟨vr,vd,rfl,or,od,fr,fd,s2,g2⟩;have hE2:Ext w w2:=RX.down M ω g2;have hq2:=g2.blk Q ω;obtain⟨Ar,cr,a0,b8,a9⟩:=vH.open or;obtain⟨Ad,cd,a1,a8⟩:=SpS.own od;subst a0;subst a1;have x3:Ext w2 (w2.alloc (.cells #[.slice Ar rs.length cr,.slice Ad ds.length cd] 44)):=(Ext.refl _).alloc _;have hq3:(w2.alloc (.cells #[.slice Ar rs.length cr,.slice Ad ds.length cd] 44)).heap[w.heap.size]? =some (.cells #[.slice none 0 0,.slice none 0 0] 44 (0,0)):=by
  rw[aJ x3 _ (aC.1 hq2).1];exact hq2
 have s3:=s2.ext x3;have K:(w2.alloc (.cells #[.slice Ar rs.length cr,.slice Ad ds.length cd] 44)).heap[w2.heap.size]? =some (.cells #[.slice Ar rs.length cr,.slice Ad ds.length cd] 44 (0,0)):=aT _ _;have or3:=or.ext x3;have od3:=od.ext x3;have I:=hE2.trans x3;have b1:w.heap.size<w2.heap.size:=(aC.1 hq2).1;obtain⟨d0,d1,d2,_,_⟩:=s3.cells;obtain⟨y0,y1,_,_⟩:=Ce K;obtain⟨z0,z1,f0,f1⟩:=Ce hq3;obtain⟨b3,b2,d3,b9⟩:=Ce hq2;simp only at d1 d2;clear i g2 K Q a3 M or od;have Uy:∀(Z:aj) (hZ:Ext w Z) (hz:Z.heap[w.heap.size]? =some (.cells #[.slice none 0 0,.slice none 0 0] 44 (0,0))),
   Ext w ((Z.setCell ⟨w.heap.size,0,none⟩ (.slice none 0 0)).setCell ⟨w.heap.size,1,none⟩ (.slice none 0 0))/\((Z.setCell ⟨w.heap.size,0,none⟩ (.slice none 0 0)).setCell ⟨w.heap.size,1,none⟩ (.slice none 0 0)).heap[w.heap.size]? =some (.cells #[.slice none 0 0,.slice none 0 0] 44 (0,0)):=λZ hZ hz=>
  ⟨(hZ.setCell (aD _) _).setCell (aD _) _,aB _ _ 1 _ _ _ (aB _ _ 0 _ _ _ hz)⟩
 have abn:∀(Z:aj) (o:Obj) (hZ:Ext w Z) (hz:Z.heap[w.heap.size]? =some (.cells #[.slice none 0 0,.slice none 0 0] 44 (0,0))),
   Ext w (((Z.setCell ⟨w.heap.size,0,none⟩ (.slice none 0 0)).setCell ⟨w.heap.size,1,none⟩ (.slice none 0 0)).alloc o)/\(((Z.setCell ⟨w.heap.size,0,none⟩ (.slice none 0 0)).setCell ⟨w.heap.size,1,none⟩ (.slice none 0 0)).alloc o).heap[w.heap.size]? =some (.cells #[.slice none 0 0,.slice none 0 0] 44 (0,0)):=λZ o hZ hz=>by
  obtain⟨h1,h2⟩:=Uy Z hZ hz;exact⟨h1.alloc o,by rw[aJ ((Ext.refl _).alloc o) _ (aC.1 h2).1];exact h2⟩
 replace Uy:=ah Uy;replace abn:=ah abn;have b5:w.heap.size+1<w2.heap.size:=s2.lt;cases b0 with
 |true=>
  have hG:=ah (show G=none by rw[BU.out,if_neg ι]);exact Ws
 |false=>
  obtain⟨b7,U⟩:=hfact.out rfl;by_cases b6:at'<n
  ·have hG:=ah (show G=none by rw[BU.out,if_neg (λh=>ω)])
   have a4:decide ((at':Int)<(n:Int))=true:=by rw[decide_eq_true_eq];omega
   exact Ws
  ·have a7:at'=n:=ω
   subst a7;obtain⟨N,O,a5,a2⟩:=U rfl;have a4:decide ((at':Int)<(at':Int))=false:=ι
   have j:=ah (JJ Ar rs.length cr Ad ds.length cd rs ds (w2.alloc (.cells #[.slice Ar rs.length cr,.slice Ad ds.length cd] 44)) (Y.out.ext I) (a9.ext x3) rfl (a8.ext x3) rfl N O a5 a2);replace or3:=ah or3;replace od3:=ah od3;replace hq3:=ah hq3;clear N O hfact U;cases q:Ia rs ds with
   |false=>
    rw[q] at j;have hG:=ah (show G=none by rw[BU.out,if_neg (λh=>by rw[q] at h;cases h.2.2)]);clear BU
    go_wp2_with fail
    refine j.out.mono ?_;rintro e J ⟨rfl,x4⟩;have a:J.heap[w.heap.size]? =some (.cells #[.slice none 0 0,.slice none 0 0] 44 (0,0)):=by
       rw[aJ x4 _ (aC.1 hq3.out).1];exact hq3.out
    obtain⟨_,_,f0,f1⟩:=Ce a;obtain⟨z0,z1,_,_⟩:=Ce a;obtain⟨hZ,hz⟩:=Uy.out _ (I.trans x4) a;obtain⟨u0,u1,_,_⟩:=Ce hz;replace hZ:=ah hZ;clear Uy hz a;go_wp2;rw[hG.out];exact aN (v:= .tuple #[ac6,qD 2]) (by simp[dK,Tryz.results69,go_sem,qD,u0,u1]) rfl ⟨rfl,hZ.out⟩
   |true=>
    rw[q] at j;have hG:=ah (show G=some (rs,ds) by rw[BU.out,if_pos ⟨rfl,rfl,q⟩]);clear BU
    go_wp2_with fail
    refine j.out.mono ?_;rintro e J ⟨rfl,x4⟩;have a:J.heap[w.heap.size]? =some (.cells #[.slice none 0 0,.slice none 0 0] 44 (0,0)):=by
       rw[aJ x4 _ (aC.1 hq3.out).1];exact hq3.out
    obtain⟨z0,z1,f0,f1⟩:=Ce a;have v0:=x4.keep y0;have v1:=x4.keep y1;have hz:=aB _ _ 1 _ _ (.slice Ad ds.length cd) (aB _ _ 0 _ _ (.slice Ar rs.length cr) a);obtain⟨u0,u1,_,_⟩:=Ce (x:= .slice Ar rs.length cr) (y:= .slice Ad ds.length cd) hz;have b4:(RD w A at' c).heap.size=w.heap.size+2:=by unfold RD;simp
    have nr:=fr.ne (k:=w.heap.size) ω;have nd:=fd.ne (k:=w.heap.size) ω;have z:=((or3.out.ext x4).kept (RX.set (RX.refl w.heap.size J) 0 (.slice Ar rs.length cr) (.inr rfl)) nr).kept (RX.set (RX.refl w.heap.size _) 1 (.slice Ad ds.length cd) (.inr rfl)) nr;have H:=((od3.out.ext x4).kept (RX.set (RX.refl w.heap.size J) 0 (.slice Ar rs.length cr) (.inr rfl)) nd).kept (RX.set (RX.refl w.heap.size _) 1 (.slice Ad ds.length cd) (.inr rfl)) nd;have hZ:=ah (((I.trans x4).setCell (p:=⟨w.heap.size,0,none⟩) (aD _) (.slice Ar rs.length cr)).setCell (p:=⟨w.heap.size,1,none⟩) (aD _) (.slice Ad ds.length cd));replace z:=ah z;replace H:=ah H;clear hz a Uy abn or3 od3 s2 s3 nr nd fr fd;go_wp2;rw[hG.out];exact aN (v:= .tuple #[.agg #[.slice Ar rs.length cr,.slice Ad ds.length cd],.nilIface]) (by simp[dK,Tryz.results69,go_sem,u0,u1]) rfl ⟨_,_,rfl,z.out,H.out,hZ.out⟩
end
end
end
end Go.Proofs.YtejbpijamdlgcaaGreatDoor

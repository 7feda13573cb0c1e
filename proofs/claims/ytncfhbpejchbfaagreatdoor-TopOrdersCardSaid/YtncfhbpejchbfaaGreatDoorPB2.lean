/-
  Lemmas of this seat; no claim.
-/
import Derived.Test.YtncfhbpejchbfaaGreatDoorPE1
set_option linter.unusedVariables false
set_option linter.unusedSimpArgs false
set_option maxRecDepth 100000
set_option maxHeartbeats 4000000
open Go renaming Value→au,World→ae
open Go.DataW renaming trod_int→gK
open Go.Lib renaming hid→ac
open Go.RowKit.Below renaming block→av,os→ef,output→dI,tape→dS
open Go.Value renaming slice→i9
open Go.World.ownsRow renaming kept→eY,lt→bQ
open Int renaming toNat_of_nonneg→dO
open List renaming append_assoc→aK,flatMap_append→fa,length_append→ag,mem_of_getElem?→aD,take_add_one→bG,take_append_drop→ek,take_of_length_le→aU
open Nat renaming le_refl→am,le_trans→az,zero_le→bN
open Go.Proofs.Tryz
open Go.Proofs.Tryz renaming prog→pg
namespace Go.Proofs.YtncfhbpejchbfaaGreatDoor
open Go.ChangeShapes Go.WideShapes Go.ChangeAt Go.RowKit Go.Sort
section
attribute [local go_sem] World.cell?_alloc_some
variable {W w w' w0:ae} {v:au}
theorem vw {j:Array Oper} {rest:List Oper} {o:Oper} {a:Act} {Q:Exit->Act->ae->Prop} (I:o.guard=none) (s x:Operand)
  (U:o.op= .call { callee:= .builtin .append,args:= #[s,x],argTypes:= #[41,41] })
  (v:au) (l:List UInt8) (N:a.eval s=v) (e:nk w0 w v l) (J:Ext w0 w)
  (A:Option Addr) (m c:Nat) (r:List UInt8) (X:a.eval x= .slice A m c) (hm:r.length=m) (O:Bys w A r) (hb:l.length+r.length<=30000)
  (h:∀f w',nk w0 w' f (l++r)->Ext w0 w'->w.grownBy w' v.ownBlock->(f.ownBlock=v.ownBlock\/f.ownBlock=some w.heap.size)->wpList pg j Q rest (a.put o.dst f) w'):wpList pg j Q (o::rest) a w:=by
 refine wpList_plain I λK Y=>?_
 obtain⟨i,hi,H,z,u⟩:=info_parts Ey;subst hm;obtain⟨f,w',q,h2,M,Z⟩:=kL (P:=pg) w w0.heap.size 41 o.type 5 i _ 1 1 underlying41 hi H z u rfl ω v l.length _ e A r.length c _ ι O (GU r)
  (by unfold maxLen;omega) ω J.size
 unfold Oper.wp execOp;simp only[U,resolve,invoke,builtin,Sem.run_bind,Sem.run_pure,Result.andThen_ok,List.map_toArray,List.map_cons,List.map_nil,N,X,q];refine Y _ _ (h f w' ?_ (J.grown M e.lt) M Z);unfold nk jQ;rw[List.map_append,ag];exact h2
theorem uZ.kept {w W W':ae} {v:au} {l:List Nat} {row:Option Nat} (h:uZ w W v l) (a:W.grownBy W' row) (hn:v.ownBlock=none\/v.ownBlock≠row):uZ w W' v l:=eY h a hn
theorem uZ.lt {w W:ae} {v:au} {l:List Nat} (h:uZ w W v l):∀k,v.ownBlock=some k->w.heap.size<=k/\k<W.heap.size:=bQ h
theorem uZ.new (e:Ext w0 W) (l:List Nat) (i:l.length<=3000) (a:Array au) (f:a=(l.map Vn).toArray) (n:Nat) (hn:l.length=n):uZ w0 (W.alloc (.cells a 30)) (.slice (some ⟨W.heap.size,0,none⟩) n n) l:=by
 subst f;subst hn;refine⟨ι,.inr ⟨W.heap.size,l.length,_,rfl,e.size,heap_alloc_new W _,am _,by unfold maxLen;omega,ι,by simpa using aU ι⟩⟩
theorem U8 {a:List Nat} {k v:Nat} (h:a[k]? =some v):jN (a.take (k+1))=jN (a.take k)++jX v:=by
 rw[bG,h,jN,jN,fa];simp
theorem pF (a:List Nat) (k:Nat):(jN (a.take k)).length<=(jN a).length:=by
 conv=>rhs;rw[<-ek k a]
 rw[jN,jN,fa,ag];omega
def GB (w w':ae) (v a:au):Prop:=w.grownBy w' v.ownBlock/\(a.ownBlock=v.ownBlock\/∃g,a.ownBlock=some g/\w.heap.size<=g)
theorem GB.refl (w:ae) (v:au):GB w w v v:=⟨⟨rfl,rfl,rfl,am _,λ_ _ _=>rfl⟩,.inl rfl⟩
theorem GB.ext (h:Ext w w') (v:au):GB w w' v v:=⟨⟨ef h,dS h,dI h,h.size,λk a _=>av h k a⟩,.inl rfl⟩
theorem GB.trans {w H z:ae} {v J I:au} (h:GB w H v J) (k:GB H z J I):GB w z v I:=by
 obtain⟨a,N⟩:=h;obtain⟨f,O⟩:=k;refine⟨⟨f.os.trans a.os,f.tape.trans a.tape,f.output.trans a.output,az a.size f.size,λj K i=>?_⟩,?_⟩
 ·rw[f.block j (Nat.lt_of_lt_of_le K a.size) ?_,a.block j K i]
  rcases N with e|⟨g,e,q⟩
  ·rw[e];exact i
  ·rw[e];intro M;injection M with M;omega
 ·rcases O with e|⟨g,e,q⟩
  ·rcases N with u|⟨g,u,q⟩
   ·exact .inl (e.trans u)
   ·exact .inr ⟨g,e.trans u,q⟩
  ·exact .inr ⟨g,e,az a.size q⟩
theorem GB.of {a:au} (h:w.grownBy w' v.ownBlock) (b:a.ownBlock=v.ownBlock\/a.ownBlock=some w.heap.size):GB w w' v a:=
 ⟨h,b.imp id λe=>⟨_,e,am _⟩⟩
theorem GB.down {a:au} {o:List UInt8} (g:GB w w' v a) (e:Ext w0 w) (f:nk w0 w v o):Ext w0 w':=e.grown g.1 f.lt
theorem GB.cell {w w':ae} {v i:au} (g:GB w w' v i) {q j:Nat} {x:au} (h:w.cell? ⟨q,j,none⟩=some x) (f:v.ownBlock≠some q):w'.cell? ⟨q,j,none⟩=some x:=by
 rw[World.cell?_of_block (w:=w) (w':=w') (a:=⟨q,j,none⟩) (g.1.block q (World.block_lt_of_cell? _ _ h) (λe=>f e.symm))];exact h
def acL (w0 w:ae) (v:au) (l:List UInt8) (e:Ending) (w':ae):Prop:=∃a,e= .returned a/\nk w0 w' a l/\GB w w' v a
def afe (w0 w:ae) (v:au) (o:List UInt8) (a:List Nat) (u:au) (f e:au) (W:ae):Prop:=
 ∃k:Nat,k<=a.length/\f=Vi k/\Hid (nk w0 W e (o++jN (a.take k)))/\Hid (uZ w0 W u a)/\Hid (u.ownBlock=none\/u.ownBlock≠e.ownBlock)/\Ext w0 W/\Hid (GB w W v e)
theorem yT (w0 w:ae) (v:au) (o:List UInt8) (M:nk w0 w v o) (hx:Ext w0 w) (u:au) (a:List Nat) (K:uZ w0 w u a) (j:u.ownBlock=none\/u.ownBlock≠v.ownBlock)
  (a6:∀x∈a,x<4294967296) (hL:o.length+(jN a).length<=29000) (hn:a.length<=100):
  Calls pg 20 #[v,u] w (acL w0 w v (o++jN a)):=by
 obtain⟨A,c,J,hc,a3⟩:=uZ.open K;have Q:=ac K;have X:=ac (show nk w0 w v (o++jN (a.take 0)) by simpa[jN] using M);have H:=ac j;have b0:=ac J;rw[J];clear K j a3 J M;go_enter func20,ntmps20;go_wp2
 go_loopw [9,0] (afe w0 w v o a u) (λi _ _=>a.length-(intOf i).toNat)
 case atStart=>exact⟨0,bN _,rfl,X,Q,H,hx,ac (GB.refl _ _)⟩
 case round=>
  clear X Q H hx;obtain⟨k,hk,rfl,M,K,j,hx,hG⟩:=hrel;obtain⟨A0,c0,e0,_,f⟩:=uZ.open K.out;rw[b0.out] at e0;injection e0 with e0 _ e2;subst e0;subst e2;by_cases I:k<a.length
  ·obtain⟨x,z⟩:∃x,a[k]? =some x:=⟨a[k],List.getElem?_eq_getElem I⟩
   obtain⟨b,oo,e,q⟩:=f (by simpa using Nat.lt_of_le_of_lt (bN _) I);subst e;have d0:=q k (Vn x) (by rw[List.getElem?_map,z];rfl);have a2:=a6 x (aD z);have U:=ac (U8 z);have Z:=pF a (k+1);rw[U.out,ag] at Z;have a1:=ac (Fa x a2 wr);clear q f z
   go_wp2_with fail
   refine a1.out.mono ?_;rintro e w1 ⟨v1,rfl,o1,x1⟩;obtain⟨A1,c1,rfl,b1,a9⟩:=nk.open o1;have a5:=ac (M.out.ext x1);have O:=ac (K.out.ext x1);have a8:=ac (hG.out.trans (GB.ext x1 _));have Y:=uZ.lt O.out;clear a1 o1 hG
   go_wp2_with(at_builtin;go_loud (refine vw (w0:=w0) rfl (.tmp 13) (.tmp 15) rfl _ (o++jN (a.take k)) rfl a5.out (hx.trans x1) A1 _ c1 (jX x) rfl rfl a9 (by rw[ag];omega) ?_;intro v3 w3 o3 x3 g3 N))
   go_roundw
   case rel=>
        refine⟨k+1,ω,ν,ac (by rw[U.out,<-aK];exact o3),ac (O.out.kept g3 j.out),ac ?_,x3,ac (a8.out.trans (GB.of g3 N))⟩;rcases j.out with h|h
        ·exact .inl h
        ·rcases N with N|N
         ·exact .inr (by rw[N];exact h)
         ·rw[N]
          rcases a4:u.ownBlock with _|g
          ·exact .inl rfl
          ·refine .inr λhe=>?_
           injection he with he;have:=(Y g a4).2;omega
   case measure=>simp[intOf];omega
  ·have a7:k=a.length:=ω
   have a0:=ac (show a.take k=a by rw[a7,List.take_length]);rw[a0.out] at M;clear f;go_wp2;go_ret;exact⟨_,rfl,M.out,hG.out⟩
theorem Gs {o:List UInt8} (h:nk w0 W v o) (n:Nat):(i9 (some ⟨W.heap.size,0,none⟩) n n).ownBlock=none\/(i9 (some ⟨W.heap.size,0,none⟩) n n).ownBlock≠v.ownBlock:=by
 refine .inr λa=>?_
 have:=bQ h W.heap.size (by rw[<-a];rfl);omega
theorem aaS (a:Ext w0 W) {x y:Int} (f:0<=x) (e:0<=y):uZ w0 (W.alloc (.cells #[.int .u32 x,.int .u32 y] 30)) (.slice (some ⟨W.heap.size,0,none⟩) 2 2) [x.toNat,y.toNat]:=
 uZ.new a [x.toNat,y.toNat] ι _ (by simp[dO f,dO e]) 2 rfl
theorem Uz (a:Ext w0 W) {x y z:Int} (i:0<=x) (f:0<=y) (e:0<=z):uZ w0 (W.alloc (.cells #[.int .u32 x,.int .u32 y,.int .u32 z] 30)) (.slice (some ⟨W.heap.size,0,none⟩) 3 3) [x.toNat,y.toNat,z.toNat]:=
 uZ.new a [x.toNat,y.toNat,z.toNat] ι _ (by simp[dO i,dO f,dO e]) 3 rfl
def ae3 (w0 w:ae) (v:au) (o:List UInt8) (r:Rn) (a e:au) (W:ae):Prop:=
 ∃k:Nat,k<=3/\a=Vi k/\Hid (nk w0 W e (o++jN ((runN r).take (2*k))))/\Ext w0 W/\Hid (GB w W v e)
theorem Ba (w0 W:ae) (a:au) (o:List UInt8) (x y:Int) (q:nk w0 W a o) (j:Ext w0 W) (H:o.length+(jN [x.toNat,y.toNat]).length<=29000) (i:0<=x/\x<=4294967295) (f:0<=y/\y<=4294967295) (g:Nat) (z:W.heap.size=g):
  Calls pg 20 #[a,.slice (some ⟨g,0,none⟩) 2 2] (W.alloc (.cells #[.int .u32 x,.int .u32 y] 30)) (acL w0 W a (o++jN [x.toNat,y.toNat])):=by
 subst z;refine(yT w0 _ a o (q.ext ((Ext.refl _).alloc _)) (j.alloc _) _ _ (aaS j i.1 f.1) (Gs q 2) (by simp;omega) H ι).mono ?_;rintro e w' ⟨u,rfl,J,I⟩;exact⟨u,rfl,J,(GB.ext ((Ext.refl _).alloc _) _).trans I⟩
theorem M7 (w0 W:ae) (a:au) (o:List UInt8) (x y z:Int) (u:nk w0 W a o) (q:Ext w0 W) (J:o.length+(jN [x.toNat,y.toNat,z.toNat]).length<=29000) (j:0<=x/\x<=4294967295) (i:0<=y/\y<=4294967295) (f:0<=z/\z<=4294967295) (g:Nat) (I:W.heap.size=g):
  Calls pg 20 #[a,.slice (some ⟨g,0,none⟩) 3 3] (W.alloc (.cells #[.int .u32 x,.int .u32 y,.int .u32 z] 30)) (acL w0 W a (o++jN [x.toNat,y.toNat,z.toNat])):=by
 subst I;refine(yT w0 _ a o (u.ext ((Ext.refl _).alloc _)) (q.alloc _) _ _ (Uz q j.1 i.1 f.1) (Gs u 3) (by simp;omega) J ι).mono ?_;rintro e w' ⟨H,rfl,M,K⟩;exact⟨H,rfl,M,(GB.ext ((Ext.refl _).alloc _) _).trans K⟩
theorem Sm (w0 w:ae) (v:au) (o:List UInt8) (r:Rn) (a:nk w0 w v o) (u:Ext w0 w) (hr:wfR r) (ht:r.t.length<=20000) (hL:o.length+(kX r).length<=28000):
  Calls pg 19 #[v,rnv r] w (acL w0 w v (o++kX r)):=by
 have X:=hr;unfold wfR at X;have a4:(kX r).length=(jN (runN r)).length+(sF r.t).length:=by rw[kX,ag]
 have a5:r.t.length<=(sF r.t).length:=by rw[sF,ag];omega
 have I:(⟨r.t.toArray⟩:ByteArray).size=r.t.length:=by show r.t.toArray.size=_;simp
 have a8:(jN (runN r)).length=(jN ((runN r).take 0)).length+(jN [r.c.toNat,r.k.toNat]).length+(jN [r.lc.toNat,r.lk.toNat]).length+(jN [r.rc.toNat,r.rk.toNat]).length:=by
  simp[jN,runN,ag];omega
 have b1:=pF (runN r) 2;have b0:=pF (runN r) 4;have O:jN ((runN r).take 0)++jN [r.c.toNat,r.k.toNat]=jN ((runN r).take (2*1)):=by simp[jN,runN]
 have N:jN ((runN r).take (2*1))++jN [r.lc.toNat,r.lk.toNat]=jN ((runN r).take (2*2)):=by simp[jN,runN]
 have e3:jN ((runN r).take (2*2))++jN [r.rc.toNat,r.rk.toNat]=jN ((runN r).take (2*3)):=by simp[jN,runN]
 have e4:jN ((runN r).take (2*3))++sF r.t=kX r:=by simp[jN,runN,kX]
 have z0:(jN ((runN r).take (2*0))).length=0:=rfl;have z1:(jN ((runN r).take (2*1))).length=(jN [r.c.toNat,r.k.toNat]).length:=by rw[<-O];simp[jN]
 have z2:(jN ((runN r).take (2*2))).length=(jN [r.c.toNat,r.k.toNat]).length+(jN [r.lc.toNat,r.lk.toNat]).length:=by rw[<-N,ag,z1]
 have i0:∀W:ae,(Instr.index 94 (.agg #[.int .u32 r.c,.int .u32 r.k,.int .u32 r.lc,.int .u32 r.lk,.int .u32 r.rc,.int .u32 r.rk]) (.int .i64 0)).run pg W= .ok (idv r.c r.k) W:=λ_=>κ
 have i1:∀W:ae,(Instr.index 94 (.agg #[.int .u32 r.c,.int .u32 r.k,.int .u32 r.lc,.int .u32 r.lk,.int .u32 r.rc,.int .u32 r.rk]) (.int .i64 1)).run pg W= .ok (idv r.lc r.lk) W:=λ_=>κ
 have i2:∀W:ae,(Instr.index 94 (.agg #[.int .u32 r.c,.int .u32 r.k,.int .u32 r.lc,.int .u32 r.lk,.int .u32 r.rc,.int .u32 r.rk]) (.int .i64 2)).run pg W= .ok (idv r.rc r.rk) W:=λ_=>κ
 have Z:=ac a.lt;have j:v.ownBlock≠some w.heap.size:=λhe=>by have:=(bQ a _ he).2;omega
 replace j:=ac j;replace O:=ac O;replace N:=ac N;replace e3:=ac e3;replace e4:=ac e4;have J:=ac (λW=>N8 ⟨r.t.toArray⟩ (by rw[I];omega) W);have K:=ac (show nk w0 (w.alloc (.cells #[.int .u32 r.c,.int .u32 r.k,.int .u32 r.lc,.int .u32 r.lk,.int .u32 r.rc,.int .u32 r.rk,.string ⟨r.t.toArray⟩] 40)) v (o++jN ((runN r).take (2*0))) by
  have:=a.ext ((Ext.refl w).alloc (.cells #[.int .u32 r.c,.int .u32 r.k,.int .u32 r.lc,.int .u32 r.lk,.int .u32 r.rc,.int .u32 r.rk,.string ⟨r.t.toArray⟩] 40));simpa[jN] using this)
 have a1:=ac (GB.ext ((Ext.refl w).alloc (.cells #[.int .u32 r.c,.int .u32 r.k,.int .u32 r.lc,.int .u32 r.lk,.int .u32 r.rc,.int .u32 r.rk,.string ⟨r.t.toArray⟩] 40)) v);have x0:=u.alloc (.cells #[.int .u32 r.c,.int .u32 r.k,.int .u32 r.lc,.int .u32 r.lk,.int .u32 r.rc,.int .u32 r.rk,.string ⟨r.t.toArray⟩] 40);have a6:(w.alloc (.cells #[.int .u32 r.c,.int .u32 r.k,.int .u32 r.lc,.int .u32 r.lk,.int .u32 r.rc,.int .u32 r.rk,.string ⟨r.t.toArray⟩] 40)).cell? ⟨w.heap.size,6,none⟩=some (.string ⟨r.t.toArray⟩):=σ
 clear a u Z I;go_enter func19,ntmps19;go_wp2;generalize w.alloc (.cells #[.int .u32 r.c,.int .u32 r.k,.int .u32 r.lc,.int .u32 r.lk,.int .u32 r.rc,.int .u32 r.rk,.string ⟨r.t.toArray⟩] 40)=w1 at*;generalize w.heap.size=pa at*
 go_loopw [14,0] (ae3 w0 w1 v o r) (λi _ _=>3-(intOf i).toNat)
 case atStart=>exact⟨0,ω,rfl,K,x0,ac (GB.refl _ _)⟩
 case round=>
  clear K x0;obtain⟨k,hk,rfl,a,u,M⟩:=hrel;have a0:k=0\/k=1\/k=2\/k=3:=ω
  rcases a0 with rfl|rfl|rfl|rfl
  ·have q:=ac (Ba w0 (wr.alloc (.cells #[.int .u32 r.c,.int .u32 r.k] 38)) _ _ r.c r.k (a.out.ext ((Ext.refl _).alloc _)) (u.alloc _) (by rw[ag];omega) ω ω (wr.heap.size+1) ι)
   have f:=ac (a.out.ext ((Ext.refl wr).alloc (.cells #[.int .u32 r.c,.int .u32 r.k] 38)))
   go_wp2_with fail
   refine q.out.mono ?_;rintro e Q ⟨U,rfl,H,z⟩;go_wp2
   go_roundw
   case rel=>exact⟨1,ω,ν,ac (by rw[<-O.out,<-aK];exact H),z.down (u.alloc _) f.out,ac ((M.out.trans (GB.ext ((Ext.refl _).alloc _) _)).trans z)⟩
   case measure=>simp[intOf]
  ·have q:=ac (Ba w0 (wr.alloc (.cells #[.int .u32 r.lc,.int .u32 r.lk] 38)) _ _ r.lc r.lk (a.out.ext ((Ext.refl _).alloc _)) (u.alloc _) (by rw[ag];omega) ω ω (wr.heap.size+1) ι)
   have f:=ac (a.out.ext ((Ext.refl wr).alloc (.cells #[.int .u32 r.lc,.int .u32 r.lk] 38)))
   go_wp2_with fail
   refine q.out.mono ?_;rintro e Q ⟨U,rfl,H,z⟩;go_wp2
   go_roundw
   case rel=>exact⟨2,ω,ν,ac (by rw[<-N.out,<-aK];exact H),z.down (u.alloc _) f.out,ac ((M.out.trans (GB.ext ((Ext.refl _).alloc _) _)).trans z)⟩
   case measure=>simp[intOf]
  ·have q:=ac (Ba w0 (wr.alloc (.cells #[.int .u32 r.rc,.int .u32 r.rk] 38)) _ _ r.rc r.rk (a.out.ext ((Ext.refl _).alloc _)) (u.alloc _) (by rw[ag];omega) ω ω (wr.heap.size+1) ι)
   have f:=ac (a.out.ext ((Ext.refl wr).alloc (.cells #[.int .u32 r.rc,.int .u32 r.rk] 38)))
   go_wp2_with fail
   refine q.out.mono ?_;rintro e Q ⟨U,rfl,H,z⟩;go_wp2
   go_roundw
   case rel=>exact⟨3,ω,ν,ac (by rw[<-e3.out,<-aK];exact H),z.down (u.alloc _) f.out,ac ((M.out.trans (GB.ext ((Ext.refl _).alloc _) _)).trans z)⟩
   case measure=>simp[intOf]
  ·have z3:=pF (runN r) (2*3)
   have b6:=(M.out).cell a6 j.out;have a3:=ac (J.out wr);have a7:=ac (show(o++jN ((runN r).take (2*3))).length<=28000 by rw[ag];have:=pF (runN r) (2*3);omega)
   go_wp2_with fail
   refine a3.out.mono ?_;rintro e Q ⟨U,rfl,H,x2⟩;obtain⟨A2,c2,rfl,a9,a2⟩:=nk.open H;have Y:=ac (a.out.ext x2)
   go_wp2_with(at_builtin;go_loud (refine vw (w0:=w0) rfl (.tmp 25) (.tmp 28) rfl _ (o++jN ((runN r).take (2*3))) rfl Y.out (u.trans x2) A2 _ c2 (sF r.t) rfl rfl a2 (by rw[ag];omega) ?_;intro v3 w3 o3 x3 g3 b3))
   go_ret;refine⟨_,rfl,?_,((a1.out.trans M.out).trans (GB.ext x2 _)).trans (GB.of g3 b3)⟩;rw[<-e4.out,<-aK];exact o3
def aaH (w:ae) (may:Bool) (L:List UInt8) (e:Ending) (w':ae):Prop:=match may with
 |true=>∃v,e= .returned (.tuple #[v,.nilIface])/\nk w w' v L/\Ext w w'
 |false=>e= .returned (.tuple #[.slice none 0 0,lF 1])/\Ext w w'
theorem Ia {e:Type} {f:e->List UInt8} {l:List e} {k:Nat} {a:e} (h:l[k]? =some a):(l.take (k+1)).flatMap f=(l.take k).flatMap f++f a:=by
 rw[bG,h,fa];simp
theorem Px {a:Type} (f:a->List UInt8) (l:List a) (k:Nat):((l.take k).flatMap f).length<=(l.flatMap f).length:=by
 conv=>rhs;rw[<-ek k l]
 rw[fa,ag];omega
def Uu (e:ae) (n:Nat) (P:Nat->List UInt8) (a f:au) (W:ae):Prop:=
 ∃k:Nat,k<=n/\a=Vi k/\Hid (nk e W f (P k))/\Ext e W
theorem Gg (A:Option Addr) (n c:Nat) (B:Option Addr) (m d:Nat) (rs:List Rn) (ds:List Sp) (w:ae) (hT:Tabs w) (hv:RnS w A rs) (hn:rs.length=n) (hS:SpS w B ds) (hm:ds.length=m)
  (hw:∀r∈rs,wfR r/\r.t.length<=20000) (Q:wfS ds) (hb:m<=1000) (b5:n<=10000) (hL:(nN rs ds).length<=20000):
  Calls pg 7 #[Si A n c B m d] w (aaH w (wR rs ds) (nN rs ds)):=by
 have j:=ac (λW (hX:Ext w W)=>GN A n c B m d rs ds W (hT.ext hX) (hv.ext hX) hn (hS.ext hX) hm (λr hr=>⟨(hw r hr).1,by have:=(hw r hr).2;omega⟩) Q ω ω);cases N:wR rs ds with
 |false=>
  rw[N] at j;clear N;go_enter func7,ntmps7
  go_wp2_with fail
  refine(j.out _ ((Ext.refl _).alloc _)).mono ?_;rintro e M ⟨rfl,x1⟩;go_wp2;exact bodyPost_ret (v:= .tuple #[.slice none 0 0,lF 1]) (by simp[results,results7,go_sem,lF]) rfl ⟨rfl,((Ext.refl _).alloc _).trans x1⟩
 |true=>
  rw[N] at j;clear N;have U:(nN rs ds).length=(jX n).length+(rs.flatMap kX).length+(jX m).length+(ds.flatMap lK).length:=by rw[nN,hn,hm];simp only[ag]
  have X:=ac (show jX n++rs.flatMap kX++jX m++ds.flatMap lK=nN rs ds by rw[nN,hn,hm]);have a3:=ac (λW=>Fa n ω W);have a2:=ac (λW=>Fa m ω W);replace hv:=ac hv;replace hn:=ac hn;replace hS:=ac hS;replace hm:=ac hm;replace hw:=ac hw;replace Q:=ac Q;rw[U] at hL;clear U hT;go_enter func7,ntmps7
  go_wp2_with fail
  refine(j.out _ ((Ext.refl _).alloc _)).mono ?_;rintro e M ⟨rfl,x1⟩;have a0:=x1.keep (p:=⟨w.heap.size,0,none⟩) (v:= .slice A n c) σ;have a1:=x1.keep (p:=⟨w.heap.size,1,none⟩) (v:= .slice B m d) σ;have q:Ext w M:=((Ext.refl _).alloc _).trans x1;clear x1 j;generalize w.heap.size=pa at*
  go_wp2_with fail
  refine(a3.out M).mono ?_;rintro e w2 ⟨v2,rfl,o2,x2⟩;have b0:=x2.keep a0;replace o2:=ac o2;clear a3;go_wp2
  go_loopw [21,4] (Uu M n λk=>jX n++(rs.take k).flatMap kX) (λi _ _=>n-(intOf i).toNat)
  case atStart=>exact⟨0,bN _,rfl,ac (by simpa using o2.out),x2⟩
  case round=>
   clear o2 x2 b0;obtain⟨k,hk,rfl,K,u⟩:=hrel;by_cases O:k<n
   ·obtain⟨b,o,r,rfl,Y,dd⟩:=hv.out.at (k:=k) (by rw[hn.out];exact O)
    obtain⟨a6,a7⟩:=hw.out r (aD Y);obtain⟨c0,c1,c2,c3,c4,c5,c6⟩:=dd.ext (q.trans u);have H:=ac (Ia (f:=kX) Y);have I:=Px kX rs (k+1);rw[H.out,ag] at I;have J:=ac (K.out.ext ((Ext.refl wr).alloc (.cells #[.int .u32 r.c,.int .u32 r.k,.int .u32 r.lc,.int .u32 r.lk,.int .u32 r.rc,.int .u32 r.rk,.string ⟨r.t.toArray⟩] 40)));have Z:=ac (Sm M _ _ _ r J.out (u.alloc _) a6 a7 (by rw[ag];omega));clear Y dd
    go_wp2_with fail
    refine Z.out.mono ?_;rintro e w3 ⟨v3,rfl,o3,g3⟩;go_wp2
    go_roundw
    case rel=>exact⟨k+1,ω,ν,ac (by have e:=H.out;simp only at e⊢;rw[e,<-aK];exact o3),g3.down (u.alloc _) J.out⟩
    case measure=>simp[intOf];omega
   ·have b2:k=n:=ω
    have a:rs.take k=rs:=aU (by rw[hn.out];omega);replace K:=ac (show nk M wr _ (jX n++rs.flatMap kX) by have h:=K.out;simp only[a] at h;exact h);clear a O;have b1:=u.keep a1
    go_wp2_with fail
    refine(a2.out wr).mono ?_;rintro e w3 ⟨v3,rfl,o3,x3⟩;obtain⟨A3,c3,rfl,b3,a5⟩:=nk.open o3;have a4:=ac (K.out.ext x3);clear o3 a2 K
    go_wp2_with(at_builtin;go_loud (refine rR (w0:=M) rfl (.tmp 29) (.tmp 34) rfl _ (jX n++rs.flatMap kX) rfl a4.out (u.trans x3) A3 _ c3 (jX m) rfl rfl a5 (by rw[ag];omega) ?_;intro v4 w4 o4 x4 _;have b4:=x4.keep a1))
    replace o4:=ac o4;clear a4 a5 b1
    go_loopw [39,4] (Uu M m λk=>jX n++rs.flatMap kX++jX m++(ds.take k).flatMap lK) (λi _ _=>m-(intOf i).toNat)
    case atStart=>exact⟨0,bN _,rfl,ac (by simpa using o4.out),x4⟩
    case round=>
     clear o4 x4 b4;obtain⟨k,hk,rfl,K,u⟩:=hrel;by_cases O:k<m
     ·obtain⟨b,o,x,y,z,rfl,Y,d0,d1,d2⟩:=hS.out.at (k:=k) (by rw[hm.out];exact O)
      have a8:=Xu Q.out Y;have c0:=(q.trans u).keep d0;have c1:=(q.trans u).keep d1;have c2:=(q.trans u).keep d2;have H:=ac (Ia (f:=lK) Y);have I:=Px lK ds (k+1);rw[H.out,ag] at I;have a9:(lK (x,y,z)).length=(jN [x.toNat,y.toNat,z.toNat]).length:=rfl;have J:=ac (K.out.ext ((Ext.refl wr).alloc (.cells #[.int .u32 x,.int .u32 y,.int .u32 z] 74)));have Z:=ac (M7 M (wr.alloc (.cells #[.int .u32 x,.int .u32 y,.int .u32 z] 74)) _ _ x y z J.out (u.alloc _) (by simp only[ag];omega) ω ω ω (wr.heap.size+1) ι);clear Y d0 d1 d2
      go_wp2_with fail
      refine Z.out.mono ?_;rintro e w3 ⟨v3,rfl,o3,g3⟩;go_wp2
      go_roundw
      case rel=>exact⟨k+1,ω,ν,ac (by have e:=H.out;simp only at e⊢;rw[e,<-aK];exact o3),g3.down (u.alloc _) J.out⟩
      case measure=>simp[intOf];omega
     ·have a:ds.take k=ds:=aU (by rw[hm.out];omega)
      replace K:=ac (show nk M wr _ (nN rs ds) by have h:=K.out;simp only[a] at h;rw[<-X.out];exact h);obtain⟨A4,c4,rfl,b6,_⟩:=nk.open K.out;have hg:decide ((20000:Int)<((nN rs ds).length:Int))=false:=by
       rw[decide_eq_false_iff_not,<-X.out];simp only[ag];omega
      clear a;go_wp2;exact bodyPost_ret (v:= .tuple #[_,.nilIface]) (by simp[results,results7,go_sem]) rfl ⟨_,rfl,K.out.down q,q.trans u⟩
end
theorem Qm {H:Type} {enc:TypeId×au->H} {W:ae} {base:Nat} {X:Nat->Bool} {hd:Bool} (fuel:Nat) (f:List au) (x:DataW H×List MemPlace) (Z:f.length=3) (h:DataW.trod enc pg W base X hd fuel 74 f=some x):
  ∃q:Int×Int×Int,(0<=q.1/\q.1<=4294967295/\0<=q.2.1/\q.2.1<=4294967295/\0<=q.2.2/\q.2.2<=4294967295)/\encS q=f:=by
 obtain⟨v0,v1,v2,rfl⟩:∃a b c,f=[a,b,c]:=by
  match f,Z with
  |[a,b,c],_=>exact⟨a,b,c,rfl⟩
 obtain⟨xs,k,hk,Y,_,i,e⟩:=DataW.trod_struct underlying74 h
 match xs,i with
 |[y0,y1,y2],_=>
  have K:=e 0 _ rfl;have J:=e 1 _ rfl;have I:=e 2 _ rfl;have cu:pg.cellsOf 30=1:=κ
  simp[cu] at K J I;obtain⟨a,z,_,U⟩:=gK underlying30 K;obtain⟨b,u,_,Q⟩:=gK underlying30 J;obtain⟨c,j,_,wc⟩:=gK underlying30 I;simp at z u j;subst z;subst u;subst j;have O:=bounds_u32 U;have N:=bounds_u32 Q;have M:=bounds_u32 wc;exact⟨(a,b,c),⟨O.1,O.2,N.1,N.2,M.1,M.2⟩,rfl⟩
instance:Inhabited Sp:=⟨(0,0,0)⟩
theorem UQ (r:Rn):kX r=(jX r.c.toNat++jX r.k.toNat)++(jX r.lc.toNat++jX r.lk.toNat)++(jX r.rc.toNat++jX r.rk.toNat)++sF r.t:=by
 simp[kX,runN,jN]
theorem Nz (x y z:Int):lK (x,y,z)=jX x.toNat++jX y.toNat++jX z.toNat:=by simp[lK,xD,jN]
theorem AL {a:Type} (f:a->List UInt8) (K:Nat):∀(l:List a),(∀x∈l,(f x).length<=K)->(l.flatMap f).length<=l.length*K
 |[],_=>by simp
 |x::l,h=>by
  have j:=h x (List.mem_cons_self ..);have i:=AL f K l λy e=>h y (List.mem_cons_of_mem _ e)
  rw[List.flatMap_cons,ag,List.length_cons,Nat.succ_mul];omega
theorem mQ (v:Nat):(jX v).length<=5:=by rw[yh];have:=zu v;omega
theorem FQ {rs:List Rn} {m:Nat} (h:qp rs m=true):rs.length<=40/\m<=40/\∀r∈rs,r.t.length<=200:=by
 unfold qp at h;rw[Bool.and_eq_true,decide_eq_true_eq] at h;exact⟨h.1.1,h.1.2,λr a=>by simpa using List.all_eq_true.1 h.2 r a⟩
theorem WZ {rs:List Rn} {ds:List Sp} (i:rs.length<=40) (f:ds.length<=40) (a:∀r∈rs,r.t.length<=200):(nN rs ds).length<=20000:=by
 have X:=mQ rs.length;have W:=mQ ds.length;have U:=AL kX 235 rs λr e=>by
  have:=a r e;have u:=mQ r.c.toNat;have q:=mQ r.k.toNat;have j:=mQ r.lc.toNat;have M:=mQ r.lk.toNat;have K:=mQ r.rc.toNat;have J:=mQ r.rk.toNat;have I:=mQ r.t.length;rw[UQ,sF];simp only[ag];omega
 have Q:=AL lK 15 ds λs H=>by
  obtain⟨x,y,z⟩:=s;have u:=mQ x.toNat;have q:=mQ y.toNat;have j:=mQ z.toNat;rw[Nz];simp only[ag];omega
 have O:rs.length*235<=40*235:=Nat.mul_le_mul_right _ i;have N:ds.length*15<=40*15:=Nat.mul_le_mul_right _ f;rw[nN];simp only[ag];omega
end Go.Proofs.YtncfhbpejchbfaaGreatDoor

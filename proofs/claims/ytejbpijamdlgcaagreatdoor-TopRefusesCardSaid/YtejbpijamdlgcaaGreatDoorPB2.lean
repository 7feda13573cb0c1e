/-
  Contracts of batch.agJ, ajE and Put; no claim stands here.
-/
import Derived.Test.YtejbpijamdlgcaaGreatDoorPB1
set_option linter.unusedVariables false
set_option linter.unusedSimpArgs false
set_option maxRecDepth 100000
set_option maxHeartbeats 4000000
open Go renaming Value→aI,World→aj
open Go.Lib renaming hid→ah
open Go.RowKit.Below renaming block→aJ,os→iy,output→gG,tape→gN
open Go.Value renaming slice→nE
open Go.World.ownsRow renaming kept→kS,lt→dM
open Int renaming toNat_of_nonneg→gP
open List renaming append_assoc→aY,flatMap_append→jh,length_append→ay,mem_of_getElem?→aP,take_add_one→cZ,take_append_drop→iE,take_of_length_le→bI
open Nat renaming le_refl→aD,le_trans→aM,zero_le→cK
namespace Go.Proofs.YtejbpijamdlgcaaGreatDoor
open Go.ChangeShapes Go.WideShapes Go.ChangeAt Go.RowKit Go.Sort
attribute [local go_sem] World.cell?_alloc_some
variable {W w w' w0:aj} {v:aI}
theorem y9 {j:Array Oper} {rest:List Oper} {o:Oper} {a:Act} {Q:Exit->Act->aj->Prop} (I:o.guard=none) (s x:Operand)
  (U:o.op= .call { callee:= .builtin .append,args:= #[s,x],argTypes:= #[32,32] })
  (v:aI) (l:List UInt8) (N:a.eval s=v) (e:rY w0 w v l) (J:Ext w0 w)
  (A:Option Addr) (m c:Nat) (r:List UInt8) (Y:a.eval x= .slice A m c) (X:r.length=m) (O:Bys w A r) (hb:l.length+r.length<=30000)
  (h:∀f w',rY w0 w' f (l++r)->Ext w0 w'->w.grownBy w' v.ownBlock->(f.ownBlock=v.ownBlock\/f.ownBlock=some w.heap.size)->wpList Tryz.prog j Q rest (a.put o.dst f) w'):wpList Tryz.prog j Q (o::rest) a w:=by
 refine wpList_plain I λK Z=>?_
 obtain⟨i,hi,H,z,u⟩:=info_parts Ho;subst X;obtain⟨f,w',q,h2,M,h4⟩:=ql (P:=Tryz.prog) w w0.heap.size 32 o.type 5 i _ 1 1 Tryz.underlying32 hi H z u rfl ω v l.length _ e A r.length c _ ι O (JL r)
  (by unfold maxLen;omega) ω J.size
 unfold Oper.wp execOp;simp only[U,resolve,invoke,builtin,Sem.run_bind,Sem.run_pure,Result.andThen_ok,List.map_toArray,List.map_cons,List.map_nil,N,Y,q];refine Z _ _ (h f w' ?_ (J.grown M e.lt) M h4);unfold rY oW;rw[List.map_append,ay];exact h2
theorem yZ.kept {w W W':aj} {v:aI} {l:List Nat} {row:Option Nat} (h:yZ w W v l) (e:W.grownBy W' row) (a:v.ownBlock=none\/v.ownBlock≠row):yZ w W' v l:=kS h e a
theorem yZ.lt {w W:aj} {v:aI} {l:List Nat} (h:yZ w W v l):∀k,v.ownBlock=some k->w.heap.size<=k/\k<W.heap.size:=dM h
theorem yZ.new (e:Ext w0 W) (l:List Nat) (j:l.length<=3000) (a:Array aI) (i:a=(l.map Vn).toArray) (n:Nat) (f:l.length=n):yZ w0 (W.alloc (.cells a 24)) (.slice (some ⟨W.heap.size,0,none⟩) n n) l:=by
 subst i;subst f;refine⟨ι,.inr ⟨W.heap.size,l.length,_,rfl,e.size,heap_alloc_new W _,aD _,by unfold maxLen;omega,ι,by simpa using bI ι⟩⟩
theorem Xo {a:List Nat} {k v:Nat} (h:a[k]? =some v):oU (a.take (k+1))=oU (a.take k)++vT v:=by
 rw[cZ,h,oU,oU,jh];simp
theorem uI (a:List Nat) (k:Nat):(oU (a.take k)).length<=(oU a).length:=by
 conv=>rhs;rw[<-iE k a]
 rw[oU,oU,jh,ay];omega
def GB (w w':aj) (v a:aI):Prop:=w.grownBy w' v.ownBlock/\(a.ownBlock=v.ownBlock\/∃g,a.ownBlock=some g/\w.heap.size<=g)
theorem GB.refl (w:aj) (v:aI):GB w w v v:=⟨⟨rfl,rfl,rfl,aD _,λ_ _ _=>rfl⟩,.inl rfl⟩
theorem GB.ext (h:Ext w w') (v:aI):GB w w' v v:=⟨⟨iy h,gN h,gG h,h.size,λk a _=>aJ h k a⟩,.inl rfl⟩
theorem GB.trans {w H z:aj} {v J I:aI} (h:GB w H v J) (k:GB H z J I):GB w z v I:=by
 obtain⟨a,N⟩:=h;obtain⟨f,O⟩:=k;refine⟨⟨f.os.trans a.os,f.tape.trans a.tape,f.output.trans a.output,aM a.size f.size,λj K i=>?_⟩,?_⟩
 ·rw[f.block j (Nat.lt_of_lt_of_le K a.size) ?_,a.block j K i]
  rcases N with e|⟨g,e,q⟩
  ·rw[e];exact i
  ·rw[e];intro M;injection M with M;omega
 ·rcases O with e|⟨g,e,q⟩
  ·rcases N with u|⟨g,u,q⟩
   ·exact .inl (e.trans u)
   ·exact .inr ⟨g,e.trans u,q⟩
  ·exact .inr ⟨g,e,aM a.size q⟩
theorem GB.of {a:aI} (h:w.grownBy w' v.ownBlock) (b:a.ownBlock=v.ownBlock\/a.ownBlock=some w.heap.size):GB w w' v a:=
 ⟨h,b.imp id λe=>⟨_,e,aD _⟩⟩
theorem GB.down {a:aI} {o:List UInt8} (g:GB w w' v a) (e:Ext w0 w) (f:rY w0 w v o):Ext w0 w':=e.grown g.1 f.lt
theorem GB.cell {w w':aj} {v i:aI} (g:GB w w' v i) {q j:Nat} {x:aI} (h:w.cell? ⟨q,j,none⟩=some x) (f:v.ownBlock≠some q):w'.cell? ⟨q,j,none⟩=some x:=by
 rw[World.cell?_of_block (w:=w) (w':=w') (a:=⟨q,j,none⟩) (g.1.block q (World.block_lt_of_cell? _ _ h) (λe=>f e.symm))];exact h
def aes (w0 w:aj) (v:aI) (l:List UInt8) (e:Ending) (w':aj):Prop:=∃a,e= .returned a/\rY w0 w' a l/\GB w w' v a
def agY (w0 w:aj) (v:aI) (o:List UInt8) (a:List Nat) (u:aI) (f e:aI) (W:aj):Prop:=
 ∃k:Nat,k<=a.length/\f=Vi k/\Hid (rY w0 W e (o++oU (a.take k)))/\Hid (yZ w0 W u a)/\Hid (u.ownBlock=none\/u.ownBlock≠e.ownBlock)/\Ext w0 W/\Hid (GB w W v e)
theorem CB (w0 w:aj) (v:aI) (o:List UInt8) (M:rY w0 w v o) (hx:Ext w0 w) (u:aI) (a:List Nat) (K:yZ w0 w u a) (j:u.ownBlock=none\/u.ownBlock≠v.ownBlock)
  (a6:∀x∈a,x<4294967296) (hL:o.length+(oU a).length<=29000) (hn:a.length<=100):
  Calls Tryz.prog 44 #[v,u] w (aes w0 w v (o++oU a)):=by
 obtain⟨A,c,J,hc,a3⟩:=yZ.open K;have Q:=ah K;have X:=ah (show rY w0 w v (o++oU (a.take 0)) by simpa[oU] using M);have H:=ah j;have b0:=ah J;rw[J];clear K j a3 J M;go_enter Tryz.func44,Tryz.ntmps44;go_wp2
 go_loopw [9,0] (agY w0 w v o a u) (λi _ _=>a.length-(intOf i).toNat)
 case atStart=>exact⟨0,cK _,rfl,X,Q,H,hx,ah (GB.refl _ _)⟩
 case round=>
  clear X Q H hx;obtain⟨k,hk,rfl,M,K,j,hx,hG⟩:=hrel;obtain⟨A0,c0,e0,_,f⟩:=yZ.open K.out;rw[b0.out] at e0;injection e0 with e0 _ e2;subst e0;subst e2;by_cases I:k<a.length
  ·obtain⟨x,z⟩:∃x,a[k]? =some x:=⟨a[k],List.getElem?_eq_getElem I⟩
   obtain⟨b,oo,e,q⟩:=f (by simpa using Nat.lt_of_le_of_lt (cK _) I);subst e;have d0:=q k (Vn x) (by rw[List.getElem?_map,z];rfl);have a2:=a6 x (aP z);have U:=ah (Xo z);have Z:=uI a (k+1);rw[U.out,ay] at Z;have a1:=ah (Ir x a2 wr);clear q f z
   go_wp2_with fail
   refine a1.out.mono ?_;rintro e w1 ⟨v1,rfl,o1,x1⟩;obtain⟨A1,c1,rfl,b1,a9⟩:=rY.open o1;have a5:=ah (M.out.ext x1);have O:=ah (K.out.ext x1);have a8:=ah (hG.out.trans (GB.ext x1 _));have Y:=yZ.lt O.out;clear a1 o1 hG
   go_wp2_with(at_builtin;go_loud (refine y9 (w0:=w0) rfl (.tmp 13) (.tmp 15) rfl _ (o++oU (a.take k)) rfl a5.out (hx.trans x1) A1 _ c1 (vT x) rfl rfl a9 (by rw[ay];omega) ?_;intro v3 w3 o3 x3 g3 N))
   go_roundw
   case rel=>
        refine⟨k+1,ω,ν,ah (by rw[U.out,<-aY];exact o3),ah (O.out.kept g3 j.out),ah ?_,x3,ah (a8.out.trans (GB.of g3 N))⟩;rcases j.out with h|h
        ·exact .inl h
        ·rcases N with N|N
         ·exact .inr (by rw[N];exact h)
         ·rw[N]
          rcases a4:u.ownBlock with _|g
          ·exact .inl rfl
          ·refine .inr λhe=>?_
           injection he with he;have:=(Y g a4).2;omega
   case measure=>simp[intOf];omega
  ·have a7:k=a.length:=ω
   have a0:=ah (show a.take k=a by rw[a7,List.take_length]);rw[a0.out] at M;clear f;go_wp2;go_ret;exact⟨_,rfl,M.out,hG.out⟩
theorem Jt {o:List UInt8} (h:rY w0 W v o) (n:Nat):(nE (some ⟨W.heap.size,0,none⟩) n n).ownBlock=none\/(nE (some ⟨W.heap.size,0,none⟩) n n).ownBlock≠v.ownBlock:=by
 refine .inr λa=>?_
 have:=dM h W.heap.size (by rw[<-a];rfl);omega
theorem acC (a:Ext w0 W) {x y:Int} (f:0<=x) (e:0<=y):yZ w0 (W.alloc (.cells #[.int .u32 x,.int .u32 y] 24)) (.slice (some ⟨W.heap.size,0,none⟩) 2 2) [x.toNat,y.toNat]:=
 yZ.new a [x.toNat,y.toNat] ι _ (by simp[gP f,gP e]) 2 rfl
theorem WR (a:Ext w0 W) {x y z:Int} (i:0<=x) (f:0<=y) (e:0<=z):yZ w0 (W.alloc (.cells #[.int .u32 x,.int .u32 y,.int .u32 z] 24)) (.slice (some ⟨W.heap.size,0,none⟩) 3 3) [x.toNat,y.toNat,z.toNat]:=
 yZ.new a [x.toNat,y.toNat,z.toNat] ι _ (by simp[gP i,gP f,gP e]) 3 rfl
def agM (w0 w:aj) (v:aI) (o:List UInt8) (r:Rn) (a e:aI) (W:aj):Prop:=
 ∃k:Nat,k<=3/\a=Vi k/\Hid (rY w0 W e (o++oU ((runN r).take (2*k))))/\Ext w0 W/\Hid (GB w W v e)
theorem Eh (w0 W:aj) (a:aI) (o:List UInt8) (x y:Int) (q:rY w0 W a o) (j:Ext w0 W) (H:o.length+(oU [x.toNat,y.toNat]).length<=29000) (i:0<=x/\x<=4294967295) (f:0<=y/\y<=4294967295) (g:Nat) (z:W.heap.size=g):
  Calls Tryz.prog 44 #[a,.slice (some ⟨g,0,none⟩) 2 2] (W.alloc (.cells #[.int .u32 x,.int .u32 y] 24)) (aes w0 W a (o++oU [x.toNat,y.toNat])):=by
 subst z;refine(CB w0 _ a o (q.ext ((Ext.refl _).alloc _)) (j.alloc _) _ _ (acC j i.1 f.1) (Jt q 2) (by simp;omega) H ι).mono ?_;rintro e w' ⟨u,rfl,J,I⟩;exact⟨u,rfl,J,(GB.ext ((Ext.refl _).alloc _) _).trans I⟩
theorem PD (w0 W:aj) (a:aI) (o:List UInt8) (x y z:Int) (u:rY w0 W a o) (q:Ext w0 W) (J:o.length+(oU [x.toNat,y.toNat,z.toNat]).length<=29000) (j:0<=x/\x<=4294967295) (i:0<=y/\y<=4294967295) (f:0<=z/\z<=4294967295) (g:Nat) (I:W.heap.size=g):
  Calls Tryz.prog 44 #[a,.slice (some ⟨g,0,none⟩) 3 3] (W.alloc (.cells #[.int .u32 x,.int .u32 y,.int .u32 z] 24)) (aes w0 W a (o++oU [x.toNat,y.toNat,z.toNat])):=by
 subst I;refine(CB w0 _ a o (u.ext ((Ext.refl _).alloc _)) (q.alloc _) _ _ (WR q j.1 i.1 f.1) (Jt u 3) (by simp;omega) J ι).mono ?_;rintro e w' ⟨H,rfl,M,K⟩;exact⟨H,rfl,M,(GB.ext ((Ext.refl _).alloc _) _).trans K⟩
theorem U1 (w0 w:aj) (v:aI) (o:List UInt8) (r:Rn) (a:rY w0 w v o) (u:Ext w0 w) (hr:wfR r) (ht:r.t.length<=20000) (hL:o.length+(yw r).length<=28000):
  Calls Tryz.prog 43 #[v,rnv r] w (aes w0 w v (o++yw r)):=by
 have X:=hr;unfold wfR at X;have a4:(yw r).length=(oU (runN r)).length+(FV r.t).length:=by rw[yw,ay]
 have a5:r.t.length<=(FV r.t).length:=by rw[FV,ay];omega
 have I:(⟨r.t.toArray⟩:ByteArray).size=r.t.length:=by show r.t.toArray.size=_;simp
 have a8:(oU (runN r)).length=(oU ((runN r).take 0)).length+(oU [r.c.toNat,r.k.toNat]).length+(oU [r.lc.toNat,r.lk.toNat]).length+(oU [r.rc.toNat,r.rk.toNat]).length:=by
  simp[oU,runN,ay];omega
 have b1:=uI (runN r) 2;have b0:=uI (runN r) 4;have O:oU ((runN r).take 0)++oU [r.c.toNat,r.k.toNat]=oU ((runN r).take (2*1)):=by simp[oU,runN]
 have N:oU ((runN r).take (2*1))++oU [r.lc.toNat,r.lk.toNat]=oU ((runN r).take (2*2)):=by simp[oU,runN]
 have e3:oU ((runN r).take (2*2))++oU [r.rc.toNat,r.rk.toNat]=oU ((runN r).take (2*3)):=by simp[oU,runN]
 have e4:oU ((runN r).take (2*3))++FV r.t=yw r:=by simp[oU,runN,yw]
 have z0:(oU ((runN r).take (2*0))).length=0:=rfl;have z1:(oU ((runN r).take (2*1))).length=(oU [r.c.toNat,r.k.toNat]).length:=by rw[<-O];simp[oU]
 have z2:(oU ((runN r).take (2*2))).length=(oU [r.c.toNat,r.k.toNat]).length+(oU [r.lc.toNat,r.lk.toNat]).length:=by rw[<-N,ay,z1]
 have i0:∀W:aj,(Instr.index 153 (.agg #[.int .u32 r.c,.int .u32 r.k,.int .u32 r.lc,.int .u32 r.lk,.int .u32 r.rc,.int .u32 r.rk]) (.int .i64 0)).run Tryz.prog W= .ok (idv r.c r.k) W:=λ_=>κ
 have i1:∀W:aj,(Instr.index 153 (.agg #[.int .u32 r.c,.int .u32 r.k,.int .u32 r.lc,.int .u32 r.lk,.int .u32 r.rc,.int .u32 r.rk]) (.int .i64 1)).run Tryz.prog W= .ok (idv r.lc r.lk) W:=λ_=>κ
 have i2:∀W:aj,(Instr.index 153 (.agg #[.int .u32 r.c,.int .u32 r.k,.int .u32 r.lc,.int .u32 r.lk,.int .u32 r.rc,.int .u32 r.rk]) (.int .i64 2)).run Tryz.prog W= .ok (idv r.rc r.rk) W:=λ_=>κ
 have Z:=ah a.lt;have j:v.ownBlock≠some w.heap.size:=λhe=>by have:=(dM a _ he).2;omega
 replace j:=ah j;replace O:=ah O;replace N:=ah N;replace e3:=ah e3;replace e4:=ah e4;have J:=ah (λW=>Qs ⟨r.t.toArray⟩ (by rw[I];omega) W);have K:=ah (show rY w0 (w.alloc (.cells #[.int .u32 r.c,.int .u32 r.k,.int .u32 r.lc,.int .u32 r.lk,.int .u32 r.rc,.int .u32 r.rk,.string ⟨r.t.toArray⟩] 64)) v (o++oU ((runN r).take (2*0))) by
  have:=a.ext ((Ext.refl w).alloc (.cells #[.int .u32 r.c,.int .u32 r.k,.int .u32 r.lc,.int .u32 r.lk,.int .u32 r.rc,.int .u32 r.rk,.string ⟨r.t.toArray⟩] 64));simpa[oU] using this)
 have a1:=ah (GB.ext ((Ext.refl w).alloc (.cells #[.int .u32 r.c,.int .u32 r.k,.int .u32 r.lc,.int .u32 r.lk,.int .u32 r.rc,.int .u32 r.rk,.string ⟨r.t.toArray⟩] 64)) v);have x0:=u.alloc (.cells #[.int .u32 r.c,.int .u32 r.k,.int .u32 r.lc,.int .u32 r.lk,.int .u32 r.rc,.int .u32 r.rk,.string ⟨r.t.toArray⟩] 64);have a6:(w.alloc (.cells #[.int .u32 r.c,.int .u32 r.k,.int .u32 r.lc,.int .u32 r.lk,.int .u32 r.rc,.int .u32 r.rk,.string ⟨r.t.toArray⟩] 64)).cell? ⟨w.heap.size,6,none⟩=some (.string ⟨r.t.toArray⟩):=σ
 clear a u Z I;go_enter Tryz.func43,Tryz.ntmps43;go_wp2;generalize w.alloc (.cells #[.int .u32 r.c,.int .u32 r.k,.int .u32 r.lc,.int .u32 r.lk,.int .u32 r.rc,.int .u32 r.rk,.string ⟨r.t.toArray⟩] 64)=w1 at*;generalize w.heap.size=pa at*
 go_loopw [14,0] (agM w0 w1 v o r) (λi _ _=>3-(intOf i).toNat)
 case atStart=>exact⟨0,ω,rfl,K,x0,ah (GB.refl _ _)⟩
 case round=>
  clear K x0;obtain⟨k,hk,rfl,a,u,M⟩:=hrel;have a0:k=0\/k=1\/k=2\/k=3:=ω
  rcases a0 with rfl|rfl|rfl|rfl
  ·have q:=ah (Eh w0 (wr.alloc (.cells #[.int .u32 r.c,.int .u32 r.k] 55)) _ _ r.c r.k (a.out.ext ((Ext.refl _).alloc _)) (u.alloc _) (by rw[ay];omega) ω ω (wr.heap.size+1) ι)
   have f:=ah (a.out.ext ((Ext.refl wr).alloc (.cells #[.int .u32 r.c,.int .u32 r.k] 55)))
   go_wp2_with fail
   refine q.out.mono ?_;rintro e Q ⟨U,rfl,H,z⟩;go_wp2
   go_roundw
   case rel=>exact⟨1,ω,ν,ah (by rw[<-O.out,<-aY];exact H),z.down (u.alloc _) f.out,ah ((M.out.trans (GB.ext ((Ext.refl _).alloc _) _)).trans z)⟩
   case measure=>simp[intOf]
  ·have q:=ah (Eh w0 (wr.alloc (.cells #[.int .u32 r.lc,.int .u32 r.lk] 55)) _ _ r.lc r.lk (a.out.ext ((Ext.refl _).alloc _)) (u.alloc _) (by rw[ay];omega) ω ω (wr.heap.size+1) ι)
   have f:=ah (a.out.ext ((Ext.refl wr).alloc (.cells #[.int .u32 r.lc,.int .u32 r.lk] 55)))
   go_wp2_with fail
   refine q.out.mono ?_;rintro e Q ⟨U,rfl,H,z⟩;go_wp2
   go_roundw
   case rel=>exact⟨2,ω,ν,ah (by rw[<-N.out,<-aY];exact H),z.down (u.alloc _) f.out,ah ((M.out.trans (GB.ext ((Ext.refl _).alloc _) _)).trans z)⟩
   case measure=>simp[intOf]
  ·have q:=ah (Eh w0 (wr.alloc (.cells #[.int .u32 r.rc,.int .u32 r.rk] 55)) _ _ r.rc r.rk (a.out.ext ((Ext.refl _).alloc _)) (u.alloc _) (by rw[ay];omega) ω ω (wr.heap.size+1) ι)
   have f:=ah (a.out.ext ((Ext.refl wr).alloc (.cells #[.int .u32 r.rc,.int .u32 r.rk] 55)))
   go_wp2_with fail
   refine q.out.mono ?_;rintro e Q ⟨U,rfl,H,z⟩;go_wp2
   go_roundw
   case rel=>exact⟨3,ω,ν,ah (by rw[<-e3.out,<-aY];exact H),z.down (u.alloc _) f.out,ah ((M.out.trans (GB.ext ((Ext.refl _).alloc _) _)).trans z)⟩
   case measure=>simp[intOf]
  ·have z3:=uI (runN r) (2*3)
   have b6:=(M.out).cell a6 j.out;have a3:=ah (J.out wr);have a7:=ah (show(o++oU ((runN r).take (2*3))).length<=28000 by rw[ay];have:=uI (runN r) (2*3);omega)
   go_wp2_with fail
   refine a3.out.mono ?_;rintro e Q ⟨U,rfl,H,x2⟩;obtain⟨A2,c2,rfl,a9,a2⟩:=rY.open H;have Y:=ah (a.out.ext x2)
   go_wp2_with(at_builtin;go_loud (refine y9 (w0:=w0) rfl (.tmp 25) (.tmp 28) rfl _ (o++oU ((runN r).take (2*3))) rfl Y.out (u.trans x2) A2 _ c2 (FV r.t) rfl rfl a2 (by rw[ay];omega) ?_;intro v3 w3 o3 x3 g3 b3))
   go_ret;refine⟨_,rfl,?_,((a1.out.trans M.out).trans (GB.ext x2 _)).trans (GB.of g3 b3)⟩;rw[<-e4.out,<-aY];exact o3
def agO (w:aj) (may:Bool) (L:List UInt8) (e:Ending) (w':aj):Prop:=match may with
 |true=>∃v,e= .returned (.tuple #[v,.nilIface])/\rY w w' v L/\Ext w w'
 |false=>e= .returned (.tuple #[.slice none 0 0,qD 1])/\Ext w w'
theorem Kv {e:Type} {f:e->List UInt8} {l:List e} {k:Nat} {a:e} (h:l[k]? =some a):(l.take (k+1)).flatMap f=(l.take k).flatMap f++f a:=by
 rw[cZ,h,jh];simp
theorem RI {a:Type} (f:a->List UInt8) (l:List a) (k:Nat):((l.take k).flatMap f).length<=(l.flatMap f).length:=by
 conv=>rhs;rw[<-iE k l]
 rw[jh,ay];omega
def WL (e:aj) (n:Nat) (P:Nat->List UInt8) (a f:aI) (W:aj):Prop:=
 ∃k:Nat,k<=n/\a=Vi k/\Hid (rY e W f (P k))/\Ext e W
theorem Tn (A:Option Addr) (n c:Nat) (B:Option Addr) (m d:Nat) (rs:List Rn) (ds:List Sp) (w:aj) (hT:Tabs w) (hv:RnS w A rs) (Z:rs.length=n) (hS:SpS w B ds) (hm:ds.length=m)
  (hw:∀r∈rs,wfR r/\r.t.length<=20000) (Q:wfS ds) (hb:m<=1000) (b6:n<=10000) (hL:(Ap rs ds).length<=20000):
  Calls Tryz.prog 21 #[ab7 A n c B m d] w (agO w (Ia rs ds) (Ap rs ds)):=by
 have j:=ah (λW (hX:Ext w W)=>JJ A n c B m d rs ds W (hT.ext hX) (hv.ext hX) Z (hS.ext hX) hm (λr hr=>⟨(hw r hr).1,by have:=(hw r hr).2;omega⟩) Q ω ω);cases N:Ia rs ds with
 |false=>
  rw[N] at j;clear N;go_enter Tryz.func21,Tryz.ntmps21
  go_wp2_with fail
  refine(j.out _ ((Ext.refl _).alloc _)).mono ?_;rintro e M ⟨rfl,x1⟩;go_wp2;exact bodyPost_ret (v:= .tuple #[.slice none 0 0,qD 1]) (by simp[results,Tryz.results21,go_sem,qD]) rfl ⟨rfl,((Ext.refl _).alloc _).trans x1⟩
 |true=>
  rw[N] at j;clear N;have U:(Ap rs ds).length=(vT n).length+(rs.flatMap yw).length+(vT m).length+(ds.flatMap Eu).length:=by rw[Ap,Z,hm];simp only[ay]
  have X:=ah (show vT n++rs.flatMap yw++vT m++ds.flatMap Eu=Ap rs ds by rw[Ap,Z,hm]);have a4:=ah (λW=>Ir n ω W);have a3:=ah (λW=>Ir m ω W);replace hv:=ah hv;replace Z:=ah Z;replace hS:=ah hS;replace hm:=ah hm;replace hw:=ah hw;replace Q:=ah Q;rw[U] at hL;clear U hT;go_enter Tryz.func21,Tryz.ntmps21
  go_wp2_with fail
  refine(j.out _ ((Ext.refl _).alloc _)).mono ?_;rintro e M ⟨rfl,x1⟩;have a0:=x1.keep (p:=⟨w.heap.size,0,none⟩) (v:= .slice A n c) σ;have a1:=x1.keep (p:=⟨w.heap.size,1,none⟩) (v:= .slice B m d) σ;have q:Ext w M:=((Ext.refl _).alloc _).trans x1;clear x1 j;generalize w.heap.size=pa at*
  go_wp2_with fail
  refine(a4.out M).mono ?_;rintro e w2 ⟨v2,rfl,o2,x2⟩;have b0:=x2.keep a0;replace o2:=ah o2;clear a4;go_wp2
  go_loopw [21,4] (WL M n λk=>vT n++(rs.take k).flatMap yw) (λi _ _=>n-(intOf i).toNat)
  case atStart=>exact⟨0,cK _,rfl,ah (by simpa using o2.out),x2⟩
  case round=>
   clear o2 x2 b0;obtain⟨k,hk,rfl,K,u⟩:=hrel;by_cases O:k<n
   ·obtain⟨b,o,r,rfl,Y,dd⟩:=hv.out.at (k:=k) (by rw[Z.out];exact O)
    obtain⟨a7,a8⟩:=hw.out r (aP Y);obtain⟨c0,c1,c2,c3,c4,c5,c6⟩:=dd.ext (q.trans u);have H:=ah (Kv (f:=yw) Y);have I:=RI yw rs (k+1);rw[H.out,ay] at I;have J:=ah (K.out.ext ((Ext.refl wr).alloc (.cells #[.int .u32 r.c,.int .u32 r.k,.int .u32 r.lc,.int .u32 r.lk,.int .u32 r.rc,.int .u32 r.rk,.string ⟨r.t.toArray⟩] 64)));have a2:=ah (U1 M _ _ _ r J.out (u.alloc _) a7 a8 (by rw[ay];omega));clear Y dd
    go_wp2_with fail
    refine a2.out.mono ?_;rintro e w3 ⟨v3,rfl,o3,g3⟩;go_wp2
    go_roundw
    case rel=>exact⟨k+1,ω,ν,ah (by have e:=H.out;simp only at e⊢;rw[e,<-aY];exact o3),g3.down (u.alloc _) J.out⟩
    case measure=>simp[intOf];omega
   ·have b3:k=n:=ω
    have a:rs.take k=rs:=bI (by rw[Z.out];omega);replace K:=ah (show rY M wr _ (vT n++rs.flatMap yw) by have h:=K.out;simp only[a] at h;exact h);clear a O;have b1:=u.keep a1
    go_wp2_with fail
    refine(a3.out wr).mono ?_;rintro e w3 ⟨v3,rfl,o3,x3⟩;obtain⟨A3,c3,rfl,b5,a6⟩:=rY.open o3;have a5:=ah (K.out.ext x3);clear o3 a3 K
    go_wp2_with(at_builtin;go_loud (refine wM (w0:=M) rfl (.tmp 29) (.tmp 34) rfl _ (vT n++rs.flatMap yw) rfl a5.out (u.trans x3) A3 _ c3 (vT m) rfl rfl a6 (by rw[ay];omega) ?_;intro v4 w4 o4 x4 _;have b4:=x4.keep a1))
    replace o4:=ah o4;clear a5 a6 b1
    go_loopw [39,4] (WL M m λk=>vT n++rs.flatMap yw++vT m++(ds.take k).flatMap Eu) (λi _ _=>m-(intOf i).toNat)
    case atStart=>exact⟨0,cK _,rfl,ah (by simpa using o4.out),x4⟩
    case round=>
     clear o4 x4 b4;obtain⟨k,hk,rfl,K,u⟩:=hrel;by_cases O:k<m
     ·obtain⟨b,o,x,y,z,rfl,Y,d0,d1,d2⟩:=hS.out.at (k:=k) (by rw[hm.out];exact O)
      have a9:=SE Q.out Y;have c0:=(q.trans u).keep d0;have c1:=(q.trans u).keep d1;have c2:=(q.trans u).keep d2;have H:=ah (Kv (f:=Eu) Y);have I:=RI Eu ds (k+1);rw[H.out,ay] at I;have b2:(Eu (x,y,z)).length=(oU [x.toNat,y.toNat,z.toNat]).length:=rfl;have J:=ah (K.out.ext ((Ext.refl wr).alloc (.cells #[.int .u32 x,.int .u32 y,.int .u32 z] 98)));have a2:=ah (PD M (wr.alloc (.cells #[.int .u32 x,.int .u32 y,.int .u32 z] 98)) _ _ x y z J.out (u.alloc _) (by simp only[ay];omega) ω ω ω (wr.heap.size+1) ι);clear Y d0 d1 d2
      go_wp2_with fail
      refine a2.out.mono ?_;rintro e w3 ⟨v3,rfl,o3,g3⟩;go_wp2
      go_roundw
      case rel=>exact⟨k+1,ω,ν,ah (by have e:=H.out;simp only at e⊢;rw[e,<-aY];exact o3),g3.down (u.alloc _) J.out⟩
      case measure=>simp[intOf];omega
     ·have a:ds.take k=ds:=bI (by rw[hm.out];omega)
      replace K:=ah (show rY M wr _ (Ap rs ds) by have h:=K.out;simp only[a] at h;rw[<-X.out];exact h);obtain⟨A4,c4,rfl,b7,_⟩:=rY.open K.out;have hg:decide ((20000:Int)<((Ap rs ds).length:Int))=false:=by
       rw[decide_eq_false_iff_not,<-X.out];simp only[ay];omega
      clear a;go_wp2;exact bodyPost_ret (v:= .tuple #[_,.nilIface]) (by simp[results,Tryz.results21,go_sem]) rfl ⟨_,rfl,K.out.down q,q.trans u⟩
end Go.Proofs.YtejbpijamdlgcaaGreatDoor

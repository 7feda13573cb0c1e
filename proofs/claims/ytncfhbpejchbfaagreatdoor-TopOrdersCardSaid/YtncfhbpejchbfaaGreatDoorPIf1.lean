/-
  Lemmas of this seat; no claim.
-/
import Derived.Test.YtncfhbpejchbfaaGreatDoorPMx1
import Derived.Test.YtncfhbpejchbfaaGreatDoorPBf1
import Derived.Test.YtncfhbpejchbfaaGreatDoorPSf2
import Derived.Test.YtncfhbpejchbfaaGreatDoorPGf1
set_option linter.unusedVariables false
set_option linter.unusedSimpArgs false
set_option maxRecDepth 100000
set_option maxHeartbeats 16000000
open Array renaming getElem?_eq_some_iff→an
open Go renaming Calls→aO,Value→au,World→ae,bodyPost_ret→aB,cell_of_row→aj,cell_regrown→ai,heap_setCell_same→al,info_parts→dK,redrawn→eK,results→cg,wpQuiet_nil→bh,wp_region_quiet_below→ax
open Go.Instr renaming slice→dm
open Go.IntKind renaming i64→cJ
open Go.IntWalk renaming i64_in→bP
open Go.Lib renaming hid→ac
open Go.RowKit.Below renaming block→av
open Go.World renaming block_lt_of_cell?→cK,cell?_alloc_some→ah
open Go.World.ownsRow renaming lt→bQ
open List renaming drop_eq_nil_of_le→eu,drop_zero→cH,getElem?_eq_some_iff→aq,length_append→ag
open Nat renaming eq_zero_or_pos→dE,le_refl→am,zero_le→bN
open Go.Proofs.Tryz
open Go.Proofs.Tryz renaming prog→pg
namespace Go.Proofs.YtncfhbpejchbfaaGreatDoor
open Go.ChangeShapes Go.WideShapes Go.ChangeAt Go.RowKit Go.Sort
section
attribute [local go_sem] ah
def PG (x:En):List au:=[Vu x.c,Vu x.k,.int .i32 x.ch,.bool x.g]
abbrev env (x:En):au:= .agg #[.int .u32 x.c,.int .u32 x.k,.int .i32 x.ch,.bool x.g]
theorem rO (p:En):(PG p).length=4:=rfl
theorem Z4 (p:En):∀u∈PG p,u.oneCell'=true:=by intro u a;simp[PG] at a;rcases a with rfl|rfl|rfl|rfl <;> rfl
theorem OP:(pg.info? 116).map (λi=>(i.zero,i.size,i.bytes))=some (some (.agg #[.int .u32 0,.int .u32 0,.int .i32 0,.bool false]),4,16):=κ
def EnS (w:ae) (A:Option Addr) (l:List En):Prop:=Row w A (flat PG l)
theorem EnS.ext {w w':ae} {A:Option Addr} {l:List En} (h:EnS w A l) (a:Ext w w'):EnS w' A l:=Row.ext h a
theorem EnS.nil (w:ae) (A:Option Addr):EnS w A []:=Row.nil w A
structure EnC (w:ae) (b o:Nat) (x:En):Prop where
 c0:w.cell? ⟨b,o,none⟩=some (Vu x.c)
 c1:w.cell? ⟨b,o+1,none⟩=some (Vu x.k)
 c2:w.cell? ⟨b,o+2,none⟩=some (.int .i32 x.ch)
 c3:w.cell? ⟨b,o+3,none⟩=some (.bool x.g)
theorem EnS.at {w:ae} {A:Option Addr} {l:List En} (h:EnS w A l) {k:Nat} (i:k<l.length):∃b o x,A=some ⟨b,o,none⟩/\l[k]? =some x/\EnC w b (o+k*4) x:=by
 obtain⟨x,f⟩:∃p,l[k]? =some p:=⟨l[k],List.getElem?_eq_getElem i⟩;obtain⟨b,o,e,a⟩:=Row.at h rO f ω;exact⟨b,o,x,e,f,a 0 _ rfl,a 1 _ rfl,a 2 _ rfl,a 3 _ rfl⟩
theorem EnS.take {w:ae} {A:Option Addr} {l:List En} (h:EnS w A l) (k:Nat):EnS w A (l.take k):=by
 unfold EnS;rw[zy rO];exact Row.take h _
theorem EnS.cut {w:ae} {A:Option Addr} {l:List En} (h:EnS w A l) {n cap k:Nat} (hn:l.length=n) (e:n<=cap) (a:k<=n):EnS w (oq A cap k 4) (l.drop k):=by
 unfold EnS;rw[wE rO];exact Row.cut h (n:=n) (by rw[jR rO,hn]) e a
theorem adf (A:Option Addr) (n cap k:Nat) (q:k<=n) (z:Int) (j:z=k) (W:ae):(dm 57 (.slice A n cap) (some (.int .i64 z)) none none).run pg W= .ok (.slice (oq A cap k 4) (n-k) (cap-k)) W:=by
 subst j;obtain⟨i,hi,f,a,e⟩:=dK OP;have:=xU underlying57 hi A n cap k W ω ω;rw[a] at this;exact this
theorem acT (A:Option Addr) (n cap k:Nat) (q:k<=cap) (z:Int) (j:z=k) (W:ae):(dm 57 (.slice A n cap) none (some (.int .i64 z)) none).run pg W= .ok (.slice A k cap) W:=by
 subst j;obtain⟨i,hi,f,e,a⟩:=dK OP;exact xS underlying57 hi A n cap k W ω ω
def lG (w W:ae) (v:au) (l:List En):Prop:=jQ 116 4 w W v l.length (flat PG l)
theorem lG.nil (w W:ae):lG w W (.slice none 0 0) []:=jQ.nil _ _ _ _
theorem lG.ext {w W W':ae} {v:au} {l:List En} (h:lG w W v l) (a:Ext W W'):lG w W' v l:=jQ.ext h a
theorem lG.down {w0 w W:ae} {v:au} {l:List En} (h:lG w W v l) (a:Ext w0 w):lG w0 W v l:=jQ.down h a
theorem lG.lt {w W:ae} {v:au} {l:List En} (h:lG w W v l):∀k,v.ownBlock=some k->w.heap.size<=k/\k<W.heap.size:=bQ h
theorem lG.open {w W:ae} {v:au} {l:List En} (h:lG w W v l):∃A c,v= .slice A l.length c/\l.length<=c/\EnS W A l:=by
 obtain⟨A,c,rfl,a⟩:=jQ.form h;exact⟨A,c,rfl,a,jQ.row h⟩
theorem lG.empty {w0 W:ae} (a:Ext w0 W):lG w0 (W.alloc (.cells #[] 116)) (.slice (some ⟨W.heap.size,0,none⟩) 0 0) []:=
 ⟨by simp[flat],.inr ⟨W.heap.size,0,#[],rfl,a.size,heap_alloc_new W _,am _,by unfold maxLen;omega,ι,by simp[flat]⟩⟩
theorem rQ {w0 w:ae} {j:Array Oper} {rest:List Oper} {o:Oper} {a:Act} {Q:Exit->Act->ae->Prop} (I:o.guard=none) (s x:Operand)
  (U:o.op= .call { callee:= .builtin .append,args:= #[s,x],argTypes:= #[57,57] })
  (v:au) (l:List En) (N:a.eval s=v) (e:lG w0 w v l) (J:Ext w0 w)
  (A:Option Addr) (m c:Nat) (r:List En) (W:a.eval x= .slice A m c) (hm:r.length=m) (O:EnS w A r) (hb:l.length+r.length<=40000000)
  (h:∀f w',lG w0 w' f (l++r)->Ext w0 w'->w.grownBy w' v.ownBlock->(f.ownBlock=v.ownBlock\/f.ownBlock=some w.heap.size)->wpList pg j Q rest (a.put o.dst f) w'):wpList pg j Q (o::rest) a w:=by
 refine wpList_plain I λK X=>?_
 obtain⟨i,hi,H,z,u⟩:=dK OP;subst hm;obtain⟨f,w',q,Z,M,Y⟩:=kL (P:=pg) w w0.heap.size 57 o.type 116 i _ 4 16 underlying57 hi H z u rfl ω v l.length _ e A r.length c _ (jR rO r) O (lI Z4 r)
  (by unfold maxLen;omega) ω J.size
 unfold Oper.wp execOp;simp only[U,resolve,invoke,builtin,Sem.run_bind,Sem.run_pure,Result.andThen_ok,List.map_toArray,List.map_cons,List.map_nil,N,W,q];refine X _ _ (h f w' ?_ (J.grown M (jQ.lt e)) M Y);unfold lG jQ;rw[kQ,ag];exact Z
theorem TA (a b c d:Int) (P:Program) (W:ae):(binOp .eql 38 (.agg #[.int .u32 a,.int .u32 b]) (.agg #[.int .u32 c,.int .u32 d])).run pg W= .ok (.bool (decide (a=c/\b=d))) W:=by
 by_cases e:a=c
 ·by_cases f:b=d
  ·subst e;subst f;simp[go_sem]
  ·have:(b==d)=false:=by simpa using f
   subst e;simp[go_sem,this,f]
 ·have:(a==c)=false:=by simpa using e
  simp[go_sem,this,e]
abbrev Vq (n:Int):au:= .int .u64 n
theorem uL (c k:Int) (w:ae):aO pg 205 #[idv c k] w λe w'=>e= .returned (Vq (lC c k))/\Ext w w':=by
 go_enter func205,ntmps205;go_wp2;go_ret;refine⟨?_,(Ext.refl _).alloc _⟩;rfl
section
abbrev Vp (b:Nat):au:= .pointer (some ⟨b,0,none⟩)
abbrev qF:au:= .pointer none
structure PtC (W:ae) (b:Nat) (c0 c1 c2:au) (h n s lo hi:Int):Prop where
 c0:W.cell? ⟨b,0,none⟩=some c0
 c1:W.cell? ⟨b,1,none⟩=some c1
 c2:W.cell? ⟨b,2,none⟩=some c2
 c3:W.cell? ⟨b,3,none⟩=some (Vi h)
 c4:W.cell? ⟨b,4,none⟩=some (Vi n)
 c5:W.cell? ⟨b,5,none⟩=some (Vi s)
 c6:W.cell? ⟨b,6,none⟩=some (Vq lo)
 c7:W.cell? ⟨b,7,none⟩=some (Vq hi)
variable {W W':ae} {b:Nat} {c0 c1 c2:au} {h hi lo n s:Int}
theorem PtC.ext (x:PtC W b c0 c1 c2 h n s lo hi) (a:Ext W W'):PtC W' b c0 c1 c2 h n s lo hi:=
 ⟨a.keep x.c0,a.keep x.c1,a.keep x.c2,a.keep x.c3,a.keep x.c4,a.keep x.c5,a.keep x.c6,a.keep x.c7⟩
theorem lX {o:Nat} (h:W'.heap[b]? =W.heap[b]?):W'.cell? ⟨b,o,none⟩=W.cell? ⟨b,o,none⟩:=by
 simp only[World.cell?,h]
theorem PtC.frame (x:PtC W b c0 c1 c2 h n s lo hi) (a:W'.heap[b]? =W.heap[b]?):PtC W' b c0 c1 c2 h n s lo hi:=
 ⟨(lX a).trans x.c0,(lX a).trans x.c1,(lX a).trans x.c2,(lX a).trans x.c3,(lX a).trans x.c4,(lX a).trans x.c5,(lX a).trans x.c6,(lX a).trans x.c7⟩
theorem PtC.lt (x:PtC W b c0 c1 c2 h n s lo hi):b<W.heap.size:=cK W _ x.c0
def PV (F:Nat->Prop) (W:ae):Tr->au->au->au->Prop
 | .leaf l,ch,lf,rt=>lf=qF/\rt=qF/\∃A cap,ch= .slice A l.length cap/\l.length<=cap/\EnS W A l/\(0<l.length->∃k o,A=some ⟨k,o,none⟩/\F k)
 | .node a b,ch,lf,rt=>ch= .slice none 0 0/\∃p q,lf=Vp p/\rt=Vp q/\
   (F p/\∃c l r,PtC W p c l r (htT a) (cnt a) (shw a) (loT a) (hiT a)/\PV F W a c l r)/\
   (F q/\∃c l r,PtC W q c l r (htT b) (cnt b) (shw b) (loT b) (hiT b)/\PV F W b c l r)
def AtP (F:Nat->Prop) (W:ae) (b:Nat) (t:Tr):Prop:=F b/\∃c l r,PtC W b c l r (htT t) (cnt t) (shw t) (loT t) (hiT t)/\PV F W t c l r
theorem PV.node {F:Nat->Prop} {W:ae} {a b:Tr} {c l r:au} (h:PV F W (.node a b) c l r):c= .slice none 0 0/\∃p q,l=Vp p/\r=Vp q/\AtP F W p a/\AtP F W q b:=h
theorem PV.SY {F:Nat->Prop} {a b:Tr} {p q:Nat} (f:AtP F W p a) (e:AtP F W q b):PV F W (.node a b) (.slice none 0 0) (Vp p) (Vp q):=⟨rfl,p,q,rfl,rfl,f,e⟩
theorem PV.ext {F:Nat->Prop} {W W':ae} (e:Ext W W'):∀{t:Tr} {c l r:au},PV F W t c l r->PV F W' t c l r
 | .leaf l,c,lf,rt,⟨h1,h2,A,cap,h3,h4,h5,h6⟩=>⟨h1,h2,A,cap,h3,h4,h5.ext e,h6⟩
 | .node a b,c,lf,rt,⟨h1,p,q,h2,h3,⟨hp,ca,la,ra,xa,va⟩,hq,cb,lb,rb,xb,vb⟩=>
   ⟨h1,p,q,h2,h3,⟨hp,ca,la,ra,xa.ext e,PV.ext e va⟩,hq,cb,lb,rb,xb.ext e,PV.ext e vb⟩
theorem AtP.ext {F:Nat->Prop} {W W':ae} {b:Nat} {t:Tr} (h:AtP F W b t) (a:Ext W W'):AtP F W' b t:=by
 obtain⟨e,c,l,r,x,v⟩:=h;exact⟨e,c,l,r,x.ext a,v.ext a⟩
theorem EnS.frame {A:Option Addr} {l:List En} (h:EnS W A l) (a:∀k o,A=some ⟨k,o,none⟩->W'.heap[k]? =W.heap[k]?):EnS W' A l:=λq=>by
 obtain⟨b,o,e,i⟩:=h q;exact⟨b,o,e,λj u f=>(lX (a b o e)).trans (i j u f)⟩
theorem PV.frame {F:Nat->Prop} {W W':ae} (f:∀b,F b->W'.heap[b]? =W.heap[b]?):∀{t:Tr} {c l r:au},PV F W t c l r->PV F W' t c l r
 | .leaf l,c,lf,rt,⟨h1,h2,A,cap,h3,h4,h5,h6⟩=>⟨h1,h2,A,cap,h3,h4,by
   rcases dE l.length with j|j
   ·rw[List.length_eq_zero_iff.1 j];exact EnS.nil _ _
   ·obtain⟨k,o,e,u⟩:=h6 j
    refine h5.frame λk' z i=>?_
    rw[e] at i;injection i with i;injection i with e1;subst e1;exact f _ u,h6⟩
 | .node a b,c,lf,rt,⟨h1,p,q,h2,h3,⟨hp,ca,la,ra,xa,va⟩,hq,cb,lb,rb,xb,vb⟩=>
   ⟨h1,p,q,h2,h3,⟨hp,ca,la,ra,xa.frame (f p hp),PV.frame f va⟩,hq,cb,lb,rb,xb.frame (f q hq),PV.frame f vb⟩
theorem PV.mono {F G:Nat->Prop} {W:ae} (f:∀b,F b->G b):∀{t:Tr} {c l r:au},PV F W t c l r->PV G W t c l r
 | .leaf l,c,lf,rt,⟨h1,h2,A,cap,h3,h4,h5,h6⟩=>⟨h1,h2,A,cap,h3,h4,h5,λj=>by
   obtain⟨k,o,e,i⟩:=h6 j;exact⟨k,o,e,f _ i⟩⟩
 | .node a b,c,lf,rt,⟨h1,p,q,h2,h3,⟨hp,ca,la,ra,xa,va⟩,hq,cb,lb,rb,xb,vb⟩=>
   ⟨h1,p,q,h2,h3,⟨f _ hp,ca,la,ra,xa,PV.mono f va⟩,f _ hq,cb,lb,rb,xb,PV.mono f vb⟩
theorem EnS.lt {k o:Nat} {l:List En} (h:EnS W (some ⟨k,o,none⟩) l) (f:0<l.length):k<W.heap.size:=by
 obtain⟨b,i,x,e,j,a⟩:=h.at (k:=0) f;injection e with e;injection e with e1;subst e1;exact cK W _ a.c0
theorem PV.lt {F:Nat->Prop} {W:ae}:∀{t:Tr} {c l r:au},PV F W t c l r->PV (λb=>F b/\b<W.heap.size) W t c l r
 | .leaf l,c,lf,rt,⟨h1,h2,A,cap,h3,h4,h5,h6⟩=>⟨h1,h2,A,cap,h3,h4,h5,λf=>by
   obtain⟨k,o,e,i⟩:=h6 f;subst e;exact⟨k,o,rfl,i,h5.lt f⟩⟩
 | .node a b,c,lf,rt,⟨h1,p,q,h2,h3,⟨hp,ca,la,ra,xa,va⟩,hq,cb,lb,rb,xb,vb⟩=>
   ⟨h1,p,q,h2,h3,⟨⟨hp,xa.lt⟩,ca,la,ra,xa,PV.lt va⟩,⟨hq,xb.lt⟩,cb,lb,rb,xb,PV.lt vb⟩
theorem PtC.new (W:ae) (c0 c1 c2:au) (h n s lo hi:Int) (T:TypeId):PtC (W.alloc (.cells #[c0,c1,c2,Vi h,Vi n,Vi s,Vq lo,Vq hi] T)) W.heap.size c0 c1 c2 h n s lo hi:=by
 constructor <;> simp[go_sem]
def qG (G:Nat->Prop) (W:ae) (v:au) (t:Tr):Prop:=∃r,v=Vp r/\AtP G W r t
theorem qG.ext {G:Nat->Prop} {W W':ae} {v:au} {t:Tr} (h:qG G W v t) (a:Ext W W'):qG G W' v t:=by
 obtain⟨r,e,h⟩:=h;exact⟨r,e,h.ext a⟩
def Up (G:Nat->Prop) (W:ae):Prop:=∀b,W.heap.size<=b->G b
theorem Up.ext {G:Nat->Prop} (h:Up G W) (a:Ext W W'):Up G W':=λb e=>h b (Nat.le_trans a.size e)
end
abbrev zE:En:=⟨0,0,0,false⟩
structure Xv where
 A:Option Addr
 n:Nat
 c:Nat
 l:Option Addr
 r:Option Addr
 h:Int
 m:Int
 s:Int
 lo:Int
 hi:Int
abbrev ixv (x:Xv):au:= .agg #[.slice x.A x.n x.c,.pointer x.l,.pointer x.r,Vi x.h,Vi x.m,Vi x.s,Vq x.lo,Vq x.hi]
def Bx (W:ae) (b:Nat) (x:Xv):Prop:=PtC W b (.slice x.A x.n x.c) (.pointer x.l) (.pointer x.r) x.h x.m x.s x.lo x.hi
theorem Bx.new (W:ae) (x:Xv) (T:TypeId):Bx (W.alloc (.cells #[.slice x.A x.n x.c,.pointer x.l,.pointer x.r,Vi x.h,Vi x.m,Vi x.s,Vq x.lo,Vq x.hi] T)) W.heap.size x:=PtC.new _ _ _ _ _ _ _ _ _ _
theorem Bx.row {W:ae} {b:Nat} {x:Xv} {T:TypeId} (h:W.heap[b]? =some (.cells #[.slice x.A x.n x.c,.pointer x.l,.pointer x.r,Vi x.h,Vi x.m,Vi x.s,Vq x.lo,Vq x.hi] T (0,0))):Bx W b x:=
 ⟨aj W b 0 _ _ _ h,aj W b 1 _ _ _ h,aj W b 2 _ _ _ h,aj W b 3 _ _ _ h,aj W b 4 _ _ _ h,aj W b 5 _ _ _ h,aj W b 6 _ _ _ h,aj W b 7 _ _ _ h⟩
abbrev acR:au:= .agg #[.slice none 0 0,.pointer none,.pointer none,Vi 0,Vi 0,Vi 0,Vq 0,Vq 0]
section
variable {F:Nat->Prop} {c k:Int} {l m:List En}
theorem vZ (b:Nat) (w:ae) (a:w.cell? ⟨b,1,none⟩=some qF):aO pg 120 #[Vp b] w λe w'=>e= .returned (.bool true)/\w=w':=by
 go_enter func120,ntmps120;go_wp2;go_ret;exact⟨rfl,rfl⟩
theorem vU (b p:Nat) (w:ae) (a:w.cell? ⟨b,1,none⟩=some (Vp p)):aO pg 120 #[Vp b] w λe w'=>e= .returned (.bool false)/\w=w':=by
 go_enter func120,ntmps120;go_wp2;go_ret;exact⟨rfl,rfl⟩
def nY (l:List En) (c k:Int):Int:=match jY l c k with
 |none=>0
 |some i=>(i:Int)
def nT (l:List En) (c k:Int):Bool:=(jY l c k).isSome
theorem RF (A:Option Addr) (n cap:Nat) (l:List En) (c k:Int) (w:ae) (hv:EnS w A l) (hn:l.length=n) (hb:n<=40000000):
  aO pg 206 #[.slice A n cap,idv c k] w λe w'=>e= .returned (.tuple #[Vi (nY l c k),.bool (nT l c k)])/\Ext w w':=by
 obtain⟨R,hR⟩:∃R:Option Nat,jY l c k=R:=⟨_,rfl⟩;have z:=ac (show(jY (l.drop 0) c k).map (· +0)=R by rw[<-hR,cH];cases jY l c k <;> rfl);obtain⟨V,K⟩:∃V,nY l c k=V:=⟨_,rfl⟩;obtain⟨B,M⟩:∃B,nT l c k=B:=⟨_,rfl⟩;have a:=ac (show∀j,R=some j->V=(j:Int)/\B=true by
  intro j h;rw[<-K,<-M];unfold nY nT;rw[hR,h];exact⟨rfl,rfl⟩)
 have f:=ac (show R=none->V=0/\B=false by
  intro h;rw[<-K,<-M];unfold nY nT;rw[hR,h];exact⟨rfl,rfl⟩)
 rw[K,M];clear hR K M;replace hn:=ac hn;replace hv:=ac hv;go_enter func206,ntmps206;go_wp2;have x0:Ext w (w.alloc (.cells #[.int .u32 c,.int .u32 k] 38)):=(Ext.refl _).alloc _;have Z:(w.alloc (.cells #[.int .u32 c,.int .u32 k] 38)).cell? ⟨w.heap.size,0,none⟩=some (Vu c):=σ
 have Y:(w.alloc (.cells #[.int .u32 c,.int .u32 k] 38)).cell? ⟨w.heap.size,1,none⟩=some (Vu k):=σ
 generalize w.alloc (.cells #[.int .u32 c,.int .u32 k] 38)=w0 at*;generalize w.heap.size=pa at*
 go_loopw [10] (λi W=>∃(j:Nat),j<=n/\i=Vi j/\Hid ((jY (l.drop j) c k).map (· +j)=R)/\Ext w0 W) (λi _=>n-(intOf i).toNat)
 case atStart=>exact⟨0,bN _,rfl,z,Ext.refl _⟩
 case round=>
  clear z;obtain⟨j,hj,rfl,hrel,u⟩:=hrel;have y0:=u.keep Z;have y1:=u.keep Y;by_cases N:j<n
  ·obtain⟨b,o,x,rfl,J,d⟩:=(hv.out.ext (x0.trans u)).at (k:=j) (by rw[hn.out];exact N)
   obtain⟨c0,c1,c2,c3⟩:=d;have X:(0:Int)<=(j:Int):=ω
   have U:(j:Int)<(n:Int):=ω
   by_cases H:x.c=c/\x.k=k
   ·have q:decide (x.c=c/\x.k=k)=true:=decide_eq_true H
    have I:=ac (show R=some j by rw[<-hrel.out,Ws J (by unfold mJ;exact q)];simp);have Q:∀W:ae,(binOp .eql 38 (.agg #[.int .u32 x.c,.int .u32 x.k]) (.agg #[.int .u32 c,.int .u32 k])).run pg W= .ok (.bool true) W:=λW=>by rw[TA _ _ _ _ pg,q]
    clear H q J hrel;go_wp2;exact aB (v:= .tuple #[Vi j,.bool true]) (by simp[cg,results206,go_sem]) rfl ⟨by rw[(a.out j I.out).1,(a.out j I.out).2],(x0.trans u).alloc _⟩
   ·have q:decide (x.c=c/\x.k=k)=false:=decide_eq_false H
    have I:=ac (show(jY (l.drop (j+1)) c k).map (· +(j+1))=R by
     rw[<-hrel.out,Wu J (by unfold mJ;exact q)];cases jY (l.drop (j+1)) c k with
     |none=>rfl
     |some i=>simp;omega)
    have Q:∀W:ae,(binOp .eql 38 (.agg #[.int .u32 x.c,.int .u32 x.k]) (.agg #[.int .u32 c,.int .u32 k])).run pg W= .ok (.bool false) W:=λW=>by rw[TA _ _ _ _ pg,q]
    clear H q J hrel;go_wp2
    go_roundw
    case rel=>exact⟨j+1,ω,ν,I,u.alloc _⟩
    case measure=>simp[intOf];omega
  ·have O:=ac (show R=none by rw[<-hrel.out,eu (by rw[hn.out];omega)];rfl)
   go_wp2;exact aB (v:= .tuple #[Vi 0,.bool false]) (by simp[cg,results206,go_sem]) rfl ⟨by rw[(f.out O.out).1,(f.out O.out).2],x0.trans u⟩
theorem aaB (A:Option Addr) (n cap:Nat) (l:List En) (q p:Nat) (w:ae) (hv:EnS w A l) (hn:l.length=n) (hb:n<=40000000) (u:(jC l)[q]? =some p):
  aO pg 189 #[.slice A n cap,Vi (q:Int)] w λe w'=>e= .returned (Vi (p:Int))/\w=w':=by
 have J:=ac (show(jU 0 (l.drop 0))[q]? =some p from u);have f:q<=40000000:=by
  have X:=(aq.1 u).1;have h2:=pV l 0;unfold jC at X;omega
 clear u;replace hn:=ac hn;replace hv:=ac hv;go_enter func189,ntmps189;go_wp2
 go_loopw [1,5] (λN i W=>∃(j q:Nat),j<=n/\q<=40000000/\i=Vi j/\N=Vi q/\Hid ((jU j (l.drop j))[q]? =some p)/\W=w) (λ_ i _=>n-(intOf i).toNat)
 case atStart=>exact⟨0,q,bN _,f,rfl,rfl,J,rfl⟩
 case round=>
  clear J f;clear q;obtain⟨j,q,Y,f,rfl,rfl,hrel,rfl⟩:=hrel;have K:j<n:=by
   rcases Nat.lt_or_ge j n with h|h
   ·exact h
   ·have:=hrel.out
    rw[eu (by rw[hn.out];exact h)] at this;simp[jU] at this
  obtain⟨b,o,x,rfl,u,d⟩:=hv.out.at (k:=j) (by rw[hn.out];exact K);obtain⟨c0,c1,c2,c3⟩:=d;have Q:(0:Int)<=(j:Int):=ω
  have O:(j:Int)<(n:Int):=ω
  have a:=Qp u;cases z:x.g with
  |true=>
   rw[z] at c3;rw[z,if_pos rfl] at a;have I:=ac (show(jU (j+1) (l.drop (j+1)))[q]? =some p by rw[<-hrel.out,a]);clear a u hrel z;go_wp2
   go_roundw
   case rel=>exact⟨j+1,q,ω,f,ν,rfl,I,trivial⟩
   case measure=>simp[intOf];omega
  |false=>
   rw[z] at c3;rw[z,if_neg ι] at a;rcases dE q with M|M
   ·subst M
    have I:=ac (show j=p by have:=hrel.out;rw[a] at this;simpa using this);clear a u hrel z;go_wp2;go_ret;exact⟨by rw[I.out];rfl,rfl⟩
   ·obtain⟨H,rfl⟩:∃H,q=H+1:=⟨q-1,ω⟩
    have I:=ac (show(jU (j+1) (l.drop (j+1)))[H]? =some p by have:=hrel.out;rw[a] at this;simpa using this);have Z:decide (0<((H+1:Nat):Int))=true:=by rw[decide_eq_true_eq];omega
    have U:decide ((0:Int)<(H:Int)+1)=true:=by rw[decide_eq_true_eq];omega
    clear a u hrel z;go_wp2
    go_roundw
    case rel=>exact⟨j+1,H,ω,ω,ν,ν,I,trivial⟩
    case measure=>simp[intOf];omega
theorem ZK (h:nT l c k=true):nY (l++m) c k=nY l c k/\nT (l++m) c k=true:=by
 unfold nY nT at*;rw[uP];cases a:jY l c k with
 |none=>rw[a] at h;cases h
 |some i=>exact⟨rfl,rfl⟩
theorem Wm (h:nT l c k=false) (a:nT m c k=true):nY (l++m) c k=(l.length:Int)+nY m c k/\nT (l++m) c k=true:=by
 unfold nY nT at*;rw[uP];cases e:jY l c k with
 |some i=>rw[e] at h;cases h
 |none=>
  cases hm:jY m c k with
  |none=>rw[hm] at a;cases a
  |some j=>
   refine⟨?_,rfl⟩;show((l.length+j:Nat):Int)=(l.length:Int)+(j:Int);omega
theorem ab2 (h:nT l c k=false) (a:nT m c k=false):nY (l++m) c k=0/\nT (l++m) c k=false:=by
 unfold nY nT at*;rw[uP];cases e:jY l c k with
 |some i=>rw[e] at h;cases h
 |none=>
  cases hm:jY m c k with
  |some i=>rw[hm] at a;cases a
  |none=>exact⟨rfl,rfl⟩
theorem Wn (l:List En) (c k:Int):0<=nY l c k/\nY l c k<=l.length:=by
 cases h:jY l c k with
 |none=>unfold nY;rw[h];simp
 |some i=>
  have:=TN h;have e:nY l c k=(i:Int):=by unfold nY;rw[h]
  rw[e];omega
theorem aaj {p:Prop} (h:p:=by
 refine ax κ κ ?_
 repeat go_big_quiet_step((with_reducible exact Calls.jA (hk.out _)))
 refine bh ?_;intro _ hw';obtain⟨⟨dq,osq⟩,hw''⟩:=hw';subst hw'';go_wp2;exact aB (v:= .tuple #[Vi 0,.bool false]) (by simp[cg,results169,go_sem]) rfl ⟨by rw[(ho2.out (.inr h2)).1,(ho2.out (.inr h2)).2],x0.trans (Ext.jv _ _ _)⟩):p:=h
theorem aai {p:Prop} (h:p:=by
 refine ax κ κ ?_
 repeat go_big_quiet_step((with_reducible exact Calls.jA (hk.out _)))
 refine bh ?_;intro _ hw';obtain⟨⟨dq,osq⟩,hw''⟩:=hw';subst hw'';go_wp2;exact aB (v:= .tuple #[Vi 0,.bool false]) (by simp[cg,results169,go_sem]) rfl ⟨by rw[(ho2.out (.inl h1)).1,(ho2.out (.inl h1)).2],x0.trans (Ext.jv _ _ _)⟩):p:=h
theorem ZO (c k:Int):∀(t:Tr) (b:Nat) (w:ae),AtP F w b t->cnt t<=40000000->
  aO pg 169 #[Vp b,idv c k] w λe w'=>e= .returned (.tuple #[Vi (nY (ents t) c k),.bool (nT (ents t) c k)])/\Ext w w':=by
 intro t
 induction t with
 |leaf l=>
  rintro b w ⟨_,ch,lf,rt,⟨p0,p1,p2,p3,p4,p5,p6,Z⟩,rfl,rfl,A,cap,rfl,a7,hE,_⟩ hb;have Y:l.length<=40000000:=hb;have hk:=ac (λW=>uL c k W);have a4:=ac (λW (hx:Ext w W)=>RF A l.length cap l c k W (hE.ext hx) rfl Y);obtain⟨M,i⟩:∃x,loT (.leaf l)=x:=⟨_,rfl⟩;obtain⟨N,j⟩:∃x,hiT (.leaf l)=x:=⟨_,rfl⟩;have f:=ac (show(lC c k<M\/N<lC c k)->jY l c k=none by rw[<-i,<-j];exact λh=>Py (t:= .leaf l) h);rw[i] at p6;rw[j] at Z;clear i j;show aO pg 169 #[Vp b,idv c k] w λe w'=>e= .returned (.tuple #[Vi (nY l c k),.bool (nT l c k)])/\Ext w w'
  generalize lC c k=K at*;obtain⟨V,Q⟩:∃V,nY l c k=V:=⟨_,rfl⟩;obtain⟨B,hB⟩:∃B,nT l c k=B:=⟨_,rfl⟩;have ho2:=ac (show(K<M\/N<K)->V=0/\B=false by
   intro h;have:=f.out h;rw[<-Q,<-hB];unfold nY nT;rw[this];exact⟨rfl,rfl⟩)
  rw[Q,hB] at a4⊢;clear Q hB f hE hb a7 Y p3 p4 p5 p2;go_enter func169,ntmps169
  go_wp2_with fail
  have x0:Ext w (w.alloc (.cells #[.int .u32 c,.int .u32 k] 38)):=(Ext.refl _).alloc _;have J:(w.alloc (.cells #[.int .u32 c,.int .u32 k] 38)).cell? ⟨w.heap.size,0,none⟩=some (Vu c):=σ
  have I:(w.alloc (.cells #[.int .u32 c,.int .u32 k] 38)).cell? ⟨w.heap.size,1,none⟩=some (Vu k):=σ
  have q0:=x0.keep p0;have H:=x0.keep p1;have s6:=ai (x0.keep p6);have s7:=ai (x0.keep Z);have X:=ai J;have s1:=ai I;clear p0 p1 p6 Z;generalize w.alloc (.cells #[.int .u32 c,.int .u32 k] 38)=w0 at*;generalize w.heap.size=pa at*;by_cases h1:K<M
  ·have hd:decide (K<M)=true:=decide_eq_true h1
   exact aai
  ·have hd:decide (K<M)=false:=decide_eq_false h1
   by_cases h2:N<K
   ·have U:decide (N<K)=true:=decide_eq_true h2
    exact aaj
   ·have U:decide (N<K)=false:=decide_eq_false h2
    refine ax κ κ ?_
    repeat go_big_quiet_step((with_reducible exact Calls.jA (hk.out _)))
    refine bh ?_;intro _ hw';obtain⟨⟨dq,osq⟩,hw''⟩:=hw';subst hw'';have x1:=x0.trans (Ext.jv w0 dq osq);have q0:=(Ext.jv w0 dq osq).keep q0;have H:=(Ext.jv w0 dq osq).keep H;have J:=(Ext.jv w0 dq osq).keep J;have I:=(Ext.jv w0 dq osq).keep I;clear X s1 s6 s7;generalize grow (eK w0 dq) osq=O at*;have hl:=ac (vZ b O H)
    go_wp2_with fail
    refine hl.out.mono ?_;rintro e b0 ⟨rfl,rfl⟩;have X:=ai q0;have s1:=ai J;have s2:=ai I
    go_wp2_with fail
    refine ax κ κ ?_
    repeat go_big_quiet_step((with_reducible exact Calls.jA (a4.out _ (x1.trans (Ext.jv _ _ _)))))
    refine bh ?_;intro _ hw';obtain⟨⟨dq,osq⟩,hw''⟩:=hw';subst hw'';go_wp2;exact aB (v:= .tuple #[Vi V,.bool B]) (by simp[cg,results169,go_sem]) rfl ⟨rfl,x1.trans (Ext.jv _ _ _)⟩
 |node u tb a3 a2=>
  rintro b w ⟨_,ch,lf,rt,⟨p0,p1,p2,p3,p4,p5,p6,Z⟩,a8⟩ hb;obtain⟨rfl,p,q,rfl,rfl,hA,hB⟩:=a8.node;rw[kU] at hb;have hk:=ac (λW=>uL c k W);have a6:=ac (λW (hx:Ext w W)=>a3 p W (hA.ext hx) ω);have a5:=ac (λW (hx:Ext w W)=>a2 q W (hB.ext hx) ω);obtain⟨_,b5,b3,b2,⟨_,_,_,_,l4,_,_,_⟩,_⟩:=hA;obtain⟨M,i⟩:∃x,loT (.node u tb)=x:=⟨_,rfl⟩;obtain⟨N,j⟩:∃x,hiT (.node u tb)=x:=⟨_,rfl⟩;have f:=ac (show(lC c k<M\/N<lC c k)->jY (ents (.node u tb)) c k=none by rw[<-i,<-j];exact λh=>Py h);rw[i] at p6;rw[j] at Z;clear i j;generalize lC c k=K at*;obtain⟨V,Q⟩:∃V,nY (ents (.node u tb)) c k=V:=⟨_,rfl⟩;obtain⟨B,a⟩:∃B,nT (ents (.node u tb)) c k=B:=⟨_,rfl⟩;have ho2:=ac (show(K<M\/N<K)->V=0/\B=false by
   intro h;have:=f.out h;rw[<-Q,<-a];unfold nY nT;rw[this];exact⟨rfl,rfl⟩)
  have hL:=ac (show nT (ents u) c k=true->V=nY (ents u) c k/\B=true by rw[<-Q,<-a];exact ZK);have hR:=ac (show nT (ents u) c k=false->nT (ents tb) c k=true->V=(cnt u:Int)+nY (ents tb) c k/\B=true by rw[<-Q,<-a];exact Wm);have hN:=ac (show nT (ents u) c k=false->nT (ents tb) c k=false->V=0/\B=false by rw[<-Q,<-a];exact ab2);have b1:=Wn (ents tb) c k;have a9:((ents tb).length:Int)=(cnt tb:Int):=rfl;rw[a9] at b1;rw[Q,a];clear Q a f p3 p4 p5 p0 hB a8 a3 a2 a9;generalize nY (ents u) c k=VA at*;generalize nT (ents u) c k=BA at*;generalize nY (ents tb) c k=VB at*;generalize nT (ents tb) c k=BB at*;generalize cnt u=na at*;generalize cnt tb=nb at*;go_enter func169,ntmps169
  go_wp2_with fail
  have x0:Ext w (w.alloc (.cells #[.int .u32 c,.int .u32 k] 38)):=(Ext.refl _).alloc _;have J:(w.alloc (.cells #[.int .u32 c,.int .u32 k] 38)).cell? ⟨w.heap.size,0,none⟩=some (Vu c):=σ
  have I:(w.alloc (.cells #[.int .u32 c,.int .u32 k] 38)).cell? ⟨w.heap.size,1,none⟩=some (Vu k):=σ
  have H:=x0.keep p1;have q2:=x0.keep p2;have q4:=x0.keep l4;have s6:=ai (x0.keep p6);have s7:=ai (x0.keep Z);have X:=ai J;have s1:=ai I;clear p1 p2 p6 Z l4;generalize w.alloc (.cells #[.int .u32 c,.int .u32 k] 38)=w0 at*;generalize w.heap.size=pa at*;by_cases h1:K<M
  ·have hd:decide (K<M)=true:=decide_eq_true h1
   exact aai
  ·have hd:decide (K<M)=false:=decide_eq_false h1
   by_cases h2:N<K
   ·have U:decide (N<K)=true:=decide_eq_true h2
    exact aaj
   ·have U:decide (N<K)=false:=decide_eq_false h2
    refine ax κ κ ?_
    repeat go_big_quiet_step((with_reducible exact Calls.jA (hk.out _)))
    refine bh ?_;intro _ hw';obtain⟨⟨dq,osq⟩,hw''⟩:=hw';subst hw'';have x1:=x0.trans (Ext.jv w0 dq osq);have H:=(Ext.jv w0 dq osq).keep H;have q2:=(Ext.jv w0 dq osq).keep q2;have q4:=(Ext.jv w0 dq osq).keep q4;have J:=(Ext.jv w0 dq osq).keep J;have I:=(Ext.jv w0 dq osq).keep I;clear X s1 s6 s7 h1 h2 hd U ho2 hk;generalize grow (eK w0 dq) osq=O at*;clear x0;have hl:=ac (vU b p O H)
    go_wp2_with fail
    refine hl.out.mono ?_;rintro e b0 ⟨rfl,rfl⟩;have X:=ai H;have s1:=ai J;have s2:=ai I
    go_wp2_with fail
    refine ax κ κ ?_
    repeat go_big_quiet_step((with_reducible exact Calls.jA (a6.out _ (x1.trans (Ext.jv _ _ _)))))
    refine bh ?_;intro _ hw';obtain⟨⟨dq,osq⟩,hw''⟩:=hw';subst hw'';have x2:=x1.trans (Ext.jv O dq osq);have H:=(Ext.jv O dq osq).keep H;have q2:=(Ext.jv O dq osq).keep q2;have q4:=(Ext.jv O dq osq).keep q4;have J:=(Ext.jv O dq osq).keep J;have I:=(Ext.jv O dq osq).keep I;clear X s1 s2 hl a6;generalize grow (eK O dq) osq=w2 at*;clear x1;cases z:BA with
    |true=>
     go_wp2;exact aB (v:= .tuple #[Vi VA,.bool true]) (by simp[cg,results169,go_sem]) rfl ⟨by rw[(hL.out z).1,(hL.out z).2],x2⟩
    |false=>
     have X:=ai q2;have s1:=ai J;have s2:=ai I
     go_wp2_with fail
     refine ax κ κ ?_
     repeat go_big_quiet_step((with_reducible exact Calls.jA (a5.out _ (x2.trans (Ext.jv _ _ _)))))
     refine bh ?_;intro _ hw';obtain⟨⟨dq,osq⟩,hw''⟩:=hw';subst hw'';have x3:=x2.trans (Ext.jv w2 dq osq);have H:=(Ext.jv w2 dq osq).keep H;have q4:=(Ext.jv w2 dq osq).keep q4;clear X s1 s2 a5;generalize grow (eK w2 dq) osq=w3 at*;clear x2;cases a:BB with
     |true=>
      have b4:cJ.wrap ((na:Int)+VB)=(na:Int)+VB:=bP _ ω;go_wp2;exact aB (v:= .tuple #[Vi ((na:Int)+VB),.bool true]) (by simp[cg,results169,go_sem]) rfl ⟨by rw[(hR.out z a).1,(hR.out z a).2],x3⟩
     |false=>
      go_wp2;exact aB (v:= .tuple #[Vi 0,.bool false]) (by simp[cg,results169,go_sem]) rfl ⟨by rw[(hN.out z a).1,(hN.out z a).2],x3⟩
theorem aeV:∀(t:Tr) (b:Nat) (w:ae) (k r:Nat),AtP F w b t->cnt t<=40000000->(jC (ents t))[k]? =some r->
  aO pg 153 #[Vp b,Vi (k:Int)] w λe w'=>e= .returned (Vi (r:Int))/\Ext w w':=by
 intro t
 induction t with
 |leaf l=>
  rintro b w k r ⟨_,ch,lf,rt,⟨p0,Z,p2,Y,X,U,Q,O⟩,rfl,rfl,A,cap,rfl,M,hE,_⟩ N f;have a1:=ac (aaB A l.length cap l k r w hE rfl N f);have hl:=ac (vZ b w Z);clear hE N f M p2 Y X U Q O;go_enter func153,ntmps153
  go_wp2_with fail
  refine hl.out.mono ?_;rintro e w1 ⟨rfl,rfl⟩
  go_wp2_with fail
  refine a1.out.mono ?_;rintro e w1 ⟨rfl,rfl⟩;go_wp2;go_ret;exact⟨rfl,Ext.refl _⟩
 |node a tb z u=>
  rintro b w k r ⟨_,ch,lf,rt,⟨p0,Z,p2,Y,X,U,Q,O⟩,J⟩ N f;obtain⟨rfl,p,q,rfl,rfl,hA,hB⟩:=J.node;rw[kU] at N;rw[Qq] at f;have hl:=ac (vU b p w Z);have ha:=ac (λW k r (H:Ext w W) (h:(jC (ents a))[k]? =some r)=>z p W k r (hA.ext H) ω h);have I:=ac (λW k r (H:Ext w W) (h:(jC (ents tb))[k]? =some r)=>u q W k r (hB.ext H) ω h);obtain⟨_,b0,a5,a4,⟨_,_,_,_,l4,l5,_,_⟩,_⟩:=hA;have a6:=KT a;have a7:=KT tb;by_cases hk:k<shw a
  ·rw[if_pos hk] at f
   have hc:=ac (λW (H:Ext w W)=>ha.out W k r H f);have hd:decide ((k:Int)<(shw a:Int))=true:=by rw[decide_eq_true_eq];omega
   clear ha I z u J hB f Y X U Q O p0;go_enter func153,ntmps153
   go_wp2_with fail
   refine hl.out.mono ?_;rintro e w1 ⟨rfl,rfl⟩
   go_wp2_with fail
   refine(hc.out _ (Ext.refl _)).mono ?_;rintro e w2 ⟨rfl,x2⟩;go_wp2;go_ret;exact⟨rfl,x2⟩
  ·rw[if_neg hk] at f
   obtain⟨i,j,rfl⟩:∃i,(jC (ents tb))[k-shw a]? =some i/\cnt a+i=r:=by
        cases h:(jC (ents tb))[k-shw a]? with
        |none=>rw[h] at f;cases f
        |some i=>rw[h] at f;exact⟨i,rfl,by simpa using f⟩
   have a8:i<cnt tb:=by
        have:=Bt (ents tb) 0 i (List.mem_of_getElem? j);unfold cnt;omega
   have a9:k-shw a<40000000:=by
        have:=(aq.1 j).1;have h2:=pV (ents tb) 0;unfold jC at this;unfold cnt at N;omega
   have hc:=ac (λW (H:Ext w W)=>I.out W _ i H j);have hd:decide ((k:Int)<(shw a:Int))=false:=by rw[decide_eq_false_iff_not];omega
   have a2:cJ.wrap ((k:Int)-(shw a:Int))=((k-shw a:Nat):Int):=by rw[show((k:Int)-(shw a:Int))=((k-shw a:Nat):Int) by omega];exact bP _ ω
   have a3:=ac (show cJ.wrap ((cnt a:Int)+(i:Int))=((cnt a+i:Nat):Int) by rw[show((cnt a:Int)+(i:Int))=((cnt a+i:Nat):Int) by omega];exact bP _ ω);have s1:=ai Z;have s2:=ai p2;have s4:=ai l4;have s5:=ai l5;clear ha I z u J hB f j Y X U Q O p0;generalize k-shw a=kk at*;go_enter func153,ntmps153
   go_wp2_with fail
   refine hl.out.mono ?_;rintro e w1 ⟨rfl,rfl⟩
   go_wp2_with fail
   refine ax κ κ ?_
   repeat go_big_quiet_step((with_reducible exact Calls.jA (hc.out _ (Ext.jv _ _ _))))
   refine bh ?_;intro _ a0;obtain⟨⟨dq,osq⟩,K⟩:=a0;subst K;go_wp2;go_ret;exact⟨l7 ω,Ext.jv _ _ _⟩
theorem WH (w:ae) (n m:Nat):(w.drewN n).drewN m=w.drewN (n+m):=by
 unfold World.drewN;simp[Nat.add_assoc]
def aaK (F:Nat->Prop) (x:En) (w:ae) (g:Nat) (v i:au) (W:ae):Prop:=∃(t:Tr) (b q n:Nat),v=Vp b/\i=Vi q/\AtP F w b t/\cnt t<=40000000/\(ents t)[q]? =some x/\htT t<=g/\
 W=(w.alloc (.cells #[.int .u32 0,.int .u32 0,.int .i32 0,.bool false] 116)).drewN n
theorem Wy (t:Tr) (b:Nat) (w:ae) (q:Nat) (x:En) (j:AtP F w b t) (z:cnt t<=40000000) (i:(ents t)[q]? =some x):
  aO pg 152 #[Vp b,Vi (q:Int)] w λe w'=>e= .returned (env x)/\Ext w w':=by
 have h0:aaK F x w (htT t) (Vp b) (Vi q) (w.alloc (.cells #[.int .u32 0,.int .u32 0,.int .i32 0,.bool false] 116)):=⟨t,b,q,0,rfl,rfl,j,z,i,am _,rfl⟩;generalize htT t=g0 at h0;clear j z i t;go_enter func152,ntmps152
 go_wp2_with fail
 go_loopg [0,1] g0 (aaK F x w)
 case atStart=>exact h0
 case round=>
  clear h0;obtain⟨t,b,q,n,rfl,rfl,j,z,i,hg,rfl⟩:=hrel;have a:Ext w ((w.alloc (.cells #[.int .u32 0,.int .u32 0,.int .i32 0,.bool false] 116)).drewN n):=((Ext.refl _).alloc _).drewN _;cases t with
  |leaf l=>
   obtain⟨_,ch,lf,rt,⟨K,u,J,Y,X,W,U,Q⟩,rfl,rfl,A,cap,rfl,a3,hE,_⟩:=j;have i:l[q]? =some x:=i;have M:q<l.length:=(aq.1 i).1;have z:l.length<=40000000:=z;obtain⟨bb,o,x',rfl,N,d⟩:=(hE.ext a).at (k:=q) M;rw[i] at N;injection N with N;subst N;obtain⟨c0,c1,c2,c3⟩:=d;have a8:(0:Int)<=(q:Int):=ω
   have a7:(q:Int)<(l.length:Int):=ω
   have K:=a.keep K;have u:=a.keep u;have O:=ac (vZ b _ u);clear J Y X W U Q hE
   go_wp2_with fail
   refine O.out.mono ?_;rintro e w1 ⟨rfl,rfl⟩;go_wp2;exact aB (v:=env x) (by simp[cg,results152,go_sem]) rfl ⟨rfl,(((a.setCell (by show w.heap.size<=w.heap.size;omega) _).setCell (by show w.heap.size<=w.heap.size;omega) _).setCell (by show w.heap.size<=w.heap.size;omega) _).setCell (by show w.heap.size<=w.heap.size;omega) _⟩
  |node f tb=>
   obtain⟨_,ch,lf,rt,⟨K,u,J,Y,X,W,U,Q⟩,I⟩:=j;obtain⟨rfl,pl,pr,rfl,rfl,j,hB⟩:=I.node;rw[kU] at z;have a1:=ac j;have a0:=ac hB;obtain⟨_,b0,a5,a4,⟨_,_,_,_,l4,_,_,_⟩,_⟩:=j;have u:=a.keep u;have J:=a.keep J;have l4:=a.keep l4;have O:=ac (vU b pl _ u);have a9:max (htT f) (htT tb)+1<=gk:=hg;clear K Y X W U Q I hB hg;by_cases M:q<cnt f
   ·have hd:decide ((q:Int)<(cnt f:Int))=true:=by rw[decide_eq_true_eq];omega
    have Z:=ac (show(ents f)[q]? =some x by rw[<-i];exact(List.getElem?_append_left M).symm);clear i
    go_wp2_with fail
    refine O.out.mono ?_;rintro e w1 ⟨rfl,rfl⟩;go_wp2
    go_roundg (htT f)
    case measure=>omega
    case rel=>exact⟨f,pl,q,n,rfl,rfl,a1.out,ω,Z.out,am _,rfl⟩
   ·have hd:decide ((q:Int)<(cnt f:Int))=false:=by rw[decide_eq_false_iff_not];omega
    have H:=ac (show(ents tb)[q-cnt f]? =some x by rw[<-i];exact(List.getElem?_append_right (by unfold cnt at M;omega)).symm);have a6:q-cnt f<cnt tb:=(aq.1 H.out).1;have a2:cJ.wrap ((q:Int)-(cnt f:Int))=((q-cnt f:Nat):Int):=by rw[show((q:Int)-(cnt f:Int))=((q-cnt f:Nat):Int) by omega];exact bP _ ω
    clear i
    go_wp2_with fail
    refine O.out.mono ?_;rintro e w1 ⟨rfl,rfl⟩;go_wp2
    go_quiet(fail)
    go_wp2
    go_roundg (htT tb)
    case measure=>omega
    case rel=>exact⟨tb,pr,q-cnt f,_,rfl,ν,a0.out,ω,H.out,am _,WH _ _ _⟩
end
end
section
attribute [local go_sem] ah calm jL jH
theorem Xe {F:Nat->Prop} {w0:ae}:∀(t:Tr) (b:Nat) (w:ae) (v:au) (l0:List En),AtP F w0 b t->Ext w0 w->lG w0 w v l0->l0.length+cnt t<=40000000->
  aO pg 80 #[Vp b,v] w λe w'=>∃z,e= .returned z/\lG w0 w' z (l0++ents t)/\Ext w0 w':=by
 intro t
 induction t with
 |leaf l=>
  rintro b w v l0 ⟨_,ch,lf,rt,⟨U,H,p2,p3,p4,p5,Z,Y⟩,rfl,rfl,A,cap,rfl,a3,i,_⟩ a ho u;have hl:=ac (vZ b w (a.keep H));have a2:=i.ext a;have U:=a.keep U;have u:l0.length+l.length<=40000000:=u;clear H p2 p3 p4 p5 Z Y i;go_enter func80,ntmps80
  go_wp2_with fail
  refine hl.out.mono ?_;rintro e w1 ⟨rfl,rfl⟩
  go_wp2_with(at_builtin;refine rQ (w0:=w0) rfl (.tmp 7) (.tmp 11) rfl v l0 rfl ho a A l.length cap l rfl rfl a2 u ?_)
  intro v3 w3 o3 x3 _ _;go_wp2;go_ret;exact⟨v3,rfl,o3,x3⟩
 |node j tb J I=>
  rintro b w v l0 ⟨_,ch,lf,rt,⟨U,H,p2,p3,p4,p5,Z,Y⟩,O⟩ Q ho u;obtain⟨rfl,p,q,rfl,rfl,hA,hB⟩:=O.node;rw[kU] at u;have hl:=ac (vU b p w (Q.keep H));have a1:=ac (λW (a:Ext w0 W) (h:lG w0 W v l0)=>J p W v l0 hA a h ω);have f:(l0++ents j).length+cnt tb<=40000000:=by
   rw[ag];unfold cnt at*;omega
  have a0:=ac (λW z (a:Ext w0 W) (h:lG w0 W z (l0++ents j))=>I q W z (l0++ents j) hB a h f);have hR:ents (.node j tb)=ents j++ents tb:=rfl;rw[hR,<-List.append_assoc];generalize l0++ents j=L at*;generalize L++ents tb=M at*;clear U p3 p4 p5 Z Y J I hA hB O u f hR;go_enter func80,ntmps80
  go_wp2_with fail
  refine hl.out.mono ?_;rintro e w1 ⟨rfl,rfl⟩
  go_wp2_with fail
  refine ou 10 9 [rw1 9 λz9 W=>lG w0 W z9 L] (Ext w0) (λW=>lG w0 W v l0) Ext (λ_ _=>True) Q.drew (ho.ext ((Ext.refl _).drew)) (λ_ _=>Ext.trans) (λ_ _ h e=>h.ext e) ⟨λ_ _ _ _ h e=>lG.ext h e,λ_ h=>absurd rfl h,trivial⟩ λρ _=>?_
  refine .s1 9 false [] (λW i _ _=>by
   have q0:=i.keep p2;have q1:=i.keep H;exact jD) ?_
  refine .o0 0 [] (λW a hp _ N hN=>?_) ?_
  ·go_simp
   exact(a1.out W a hp).mono (by rintro e W1 ⟨v1,rfl,h1,h2⟩;exact⟨v1,rfl,hN _ _ (λ_ e=>by cases e) h1 h2 trivial⟩)
  refine .fin λW i ⟨X,_⟩=>?_
  replace X:=X rfl
  go_wp2_with fail
  refine(a0.out _ _ i X).mono ?_;rintro e w4 ⟨v4,rfl,o4,x4⟩;go_wp2;go_ret;exact⟨v4,rfl,o4,x4⟩
end
section
attribute [local go_sem] ah
def Ec (G:Nat->Prop) (w:ae) (t:Tr) (e:Ending) (w':ae):Prop:=∃v,e= .returned v/\qG G w' v t/\Ext w w'
variable {G:Nat->Prop} {b:Nat}
theorem lV {a:Nat} {e tb:Tr} {w:ae} (hA:AtP G w a e) (hB:AtP G w b tb) (hG:Up G w) (ha:okR e) (hb:okR tb) (hn:cnt e+cnt tb<=40000000):
  aO pg 172 #[Vp a,Vp b] w (Ec G w (.node e tb)):=by
 have a4:=JQ ha;have a3:=JQ hb;have a6:=KT e;have a5:=KT tb;have a2:=hA;have a1:=hB;obtain⟨_,ch,lf,rt,⟨_,_,_,p3,p4,Z,Y,X⟩,_⟩:=a2;obtain⟨_,ch,lf,rt,⟨_,_,_,U,Q,O,N,M⟩,_⟩:=a1;have f:=ac (show∀W,Ext w W->Ec G w (.node e tb) (.returned (Vp W.heap.size)) (W.alloc (.cells #[.slice none 0 0,Vp a,Vp b,Vi (max (htT e) (htT tb)+1:Nat),Vi (cnt e+cnt tb:Nat),Vi (shw e+shw tb:Nat),Vq (min (loT e) (loT tb)),Vq (max (hiT e) (hiT tb))] 61)) by
  intro W K;have i:Ext w (W.alloc (.cells #[.slice none 0 0,Vp a,Vp b,Vi (max (htT e) (htT tb)+1:Nat),Vi (cnt e+cnt tb:Nat),Vi (shw e+shw tb:Nat),Vq (min (loT e) (loT tb)),Vq (max (hiT e) (hiT tb))] 61)):=K.alloc _;refine⟨_,rfl,⟨W.heap.size,rfl,hG _ K.size,_,_,_,?_,PV.SY (hA.ext i) (hB.ext i)⟩,i⟩;rw[kU,Yc];exact PtC.new W _ _ _ _ _ _ _ _ _)
 clear hA hB hG ha hb;generalize htT e=I at*;generalize htT tb=z at*;generalize cnt e=n1 at*;generalize cnt tb=n2 at*;generalize shw e=s1 at*;generalize shw tb=s2 at*;generalize loT e=l1 at*;generalize loT tb=l2 at*;generalize hiT e=u1 at*;generalize hiT tb=u2 at*;have p3:=((Ext.refl w).drew).keep p3;have p4:=((Ext.refl w).drew).keep p4;have Z:=((Ext.refl w).drew).keep Z;have Y:=((Ext.refl w).drew).keep Y;have X:=((Ext.refl w).drew).keep X;have U:=((Ext.refl w).drew).keep U;have Q:=((Ext.refl w).drew).keep Q;have O:=((Ext.refl w).drew).keep O;have N:=((Ext.refl w).drew).keep N;have M:=((Ext.refl w).drew).keep M;go_enter func172,ntmps172
 go_wp2_with fail
 refine wp_region_still_tail 49 κ κ ?_;simp only[List.take_succ_cons,List.take_zero,List.drop_succ_cons,cH];change wpStill pg _ w.drew (λa'=>wpList pg _ _ _ a' w.drew) _ _;have K:=(Ext.refl w).drew;have J:=ac (f.out _ K);clear f;generalize w.drew=w2 at*
 repeat still_step
 refine wpStill_nil ?_;clear p3 p4 Z Y X U Q O N M;generalize hm:(if I<z then(z:Int) else(I:Int))=m;generalize hl:(if l2<l1 then l2 else l1)=l;generalize hu:(if u1<u2 then u2 else u1)=u;have a0:m=((max I z:Nat):Int):=by rw[<-hm];split <;> omega
 have q:min l1 l2=l:=by rw[<-hl];split <;> omega
 have j:max u1 u2=u:=by rw[<-hu];split <;> omega
 subst a0;rw[q,j] at J;clear hm hl hu q j;have hH:max I z<40000000:=ω
 generalize max I z=H at*;go_wp2;go_ret;have e1:(H:Int)+1=((H+1:Nat):Int):=ω
 have e2:(n1:Int)+(n2:Int)=((n1+n2:Nat):Int):=ω
 have e3:(s1:Int)+(s2:Int)=((s1+s2:Nat):Int):=ω
 rw[e1,e2,e3];exact J.out
theorem AtP.high {W:ae} {t:Tr} (h:AtP G W b t):W.cell? ⟨b,3,none⟩=some (Vi (htT t)):=by
 obtain⟨_,_,_,_,x,_⟩:=h;exact x.c3
theorem AtP.left {W:ae} {x y:Tr} (h:AtP G W b (.node x y)):∃p q,W.cell? ⟨b,1,none⟩=some (Vp p)/\W.cell? ⟨b,2,none⟩=some (Vp q)/\AtP G W p x/\AtP G W q y:=by
 obtain⟨_,_,_,_,z,v⟩:=h;obtain⟨rfl,p,q,rfl,rfl,e,a⟩:=v.node;exact⟨p,q,z.c1,z.c2,e,a⟩
end
section
attribute [local go_sem] ah calm jL jH
section
variable {G:Nat->Prop} {ba bb:Nat} {tb:Tr} {w:ae}
theorem VE {x y:Tr} (hA:AtP G w ba (.node x y)) (hB:AtP G w bb tb) (O:Up G w) (ha:okR (.node x y)) (H:okR tb) (hn:cnt (.node x y)+cnt tb<=40000000) (I:htT x<htT y->∃u z,y= .node u z):
  aO pg 211 #[Vp ba,Vp bb] w (Ec G w (rU (.node x y) tb)):=by
 obtain⟨p,q,c1,c2,hX,hY⟩:=hA.left;have g1:=hX.high;have g2:=hY.high;rw[kU] at hn;by_cases hh:htT y<=htT x
 ·have hd:decide ((htT y:Int)<=(htT x:Int))=true:=by rw[decide_eq_true_eq];omega
  have f:rU (.node x y) tb= .node x (.node y tb):=by simp only[rU];rw[if_pos hh]
  rw[f];clear f I;generalize htT y=ky at*;generalize htT x=kx at*;obtain⟨j,i⟩:=ha;go_enter func211,ntmps211
  go_wp2_with fail
  go_quiet(fail)
  have x1:Ext w (w.drewN nq):=(Ext.refl w).drewN nq;have c1:=x1.keep c1;have c2:=x1.keep c2;generalize w.drewN nq=Y at*;have hj:=ac (λW (a:Ext Y W)=>lV (hY.ext (x1.trans a)) (hB.ext (x1.trans a)) (O.ext (x1.trans a)) i H ω)
  go_wp2_with fail
  refine mg 10 [rw1 9 λq W=>qG G W q (.node y tb)] ⟨λ_ _ _ _ h e=>qG.ext h e,trivial⟩ λX _=>?_
  refine .s 9 (λW x y=>jD) ?_;refine .k 0 (λW a=>(hj.out W a).mono (by rintro e W1 ⟨v,rfl,U,Q⟩;exact⟨v,rfl,U,Q⟩)) ?_;refine .fin λW hR ⟨h9,_⟩=>?_
  obtain⟨q9,e9,h9⟩:=h9;rw[show X 9=_ from e9]
  go_wp2_with fail
  refine(lV (hX.ext (x1.trans hR)) h9 (O.ext (x1.trans hR)) j ⟨i,H⟩ (by rw[kU];omega)).mono ?_;rintro e w4 ⟨Z,rfl,o4,x4⟩;go_wp2;go_ret;exact⟨Z,rfl,o4,x1.trans (hR.trans x4)⟩
 ·obtain⟨u,z,rfl⟩:=I ω
  obtain⟨r,s,d1,d2,a3,a2⟩:=hY.left;have hd:decide ((htT (.node u z):Int)<=(htT x:Int))=false:=by rw[decide_eq_false_iff_not];omega
  have f:rU (.node x (.node u z)) tb= .node (.node x u) (.node z tb):=by simp only[rU];rw[if_neg hh]
  rw[f];clear f I;generalize htT (.node u z)=ky at*;generalize htT x=kx at*;obtain⟨j,i,N⟩:=ha;rw[kU] at hn;go_enter func211,ntmps211
  go_wp2_with fail
  go_quiet(fail)
  have x1:Ext w (w.drewN nq):=(Ext.refl w).drewN nq;have c1:=x1.keep c1;have c2:=x1.keep c2;have d1:=x1.keep d1;have d2:=x1.keep d2;generalize w.drewN nq=Y at*;have a1:=ac (λW (a:Ext Y W)=>lV (hX.ext (x1.trans a)) (a3.ext (x1.trans a)) (O.ext (x1.trans a)) j i ω);have a0:=ac (λW (a:Ext Y W)=>lV (a2.ext (x1.trans a)) (hB.ext (x1.trans a)) (O.ext (x1.trans a)) N H ω)
  go_wp2_with fail
  refine mg 21 [rw1 11 λq W=>qG G W q (.node x u),rw1 20 λq W=>qG G W q (.node z tb)] ⟨λ_ _ _ _ h e=>qG.ext h e,λ_ _ _ _ h e=>qG.ext h e,trivial⟩ λX _=>?_
  refine .s 11 (λW x y=>jD) ?_;refine .k 0 (λW a=>(a1.out W a).mono (by rintro e W1 ⟨v,rfl,U,Q⟩;exact⟨v,rfl,U,Q⟩)) ?_;refine .s 8 (λW x y=>jD) ?_;refine .k 1 (λW a=>(a0.out W a).mono (by rintro e W1 ⟨v,rfl,U,Q⟩;exact⟨v,rfl,U,Q⟩)) ?_;refine .fin λW hR ⟨M,J,_⟩=>?_
  obtain⟨a7,a5,M⟩:=M;rw[show X 11=_ from a5];obtain⟨a6,a4,J⟩:=J;rw[show X 20=_ from a4]
  go_wp2_with fail
  refine(lV M J (O.ext (x1.trans hR)) ⟨j,i⟩ ⟨N,H⟩ (by rw[kU,kU];omega)).mono ?_;rintro e w4 ⟨Z,rfl,o4,x4⟩;go_wp2;go_ret;exact⟨Z,rfl,o4,x1.trans (hR.trans x4)⟩
theorem VH {x y:Tr} (hA:AtP G w ba tb) (hB:AtP G w bb (.node x y)) (N:Up G w) (H:okR tb) (ha:okR (.node x y)) (hn:cnt tb+cnt (.node x y)<=40000000) (I:htT y<htT x->∃u z,x= .node u z):
  aO pg 212 #[Vp ba,Vp bb] w (Ec G w (rV tb (.node x y))):=by
 obtain⟨p,q,c1,c2,hX,hY⟩:=hB.left;have g1:=hX.high;have g2:=hY.high;rw[kU] at hn;by_cases hh:htT x<=htT y
 ·have hd:decide ((htT x:Int)<=(htT y:Int))=true:=by rw[decide_eq_true_eq];omega
  have f:rV tb (.node x y)= .node (.node tb x) y:=by simp only[rV];rw[if_pos hh]
  rw[f];clear f I;generalize htT y=ky at*;generalize htT x=kx at*;obtain⟨i,j⟩:=ha;go_enter func212,ntmps212
  go_wp2_with fail
  go_quiet(fail)
  have x1:Ext w (w.drewN nq):=(Ext.refl w).drewN nq;have c1:=x1.keep c1;have c2:=x1.keep c2;generalize w.drewN nq=X at*;have hj:=ac (λW (a:Ext X W)=>lV (hA.ext (x1.trans a)) (hX.ext (x1.trans a)) (N.ext (x1.trans a)) H i ω)
  go_wp2_with fail
  refine mg 10 [rw1 5 λq W=>qG G W q (.node tb x)] ⟨λ_ _ _ _ h e=>qG.ext h e,trivial⟩ λU _=>?_
  refine .s 5 (λW x y=>jD) ?_;refine .k 0 (λW a=>(hj.out W a).mono (by rintro e W1 ⟨v,rfl,Q,O⟩;exact⟨v,rfl,Q,O⟩)) ?_;refine .s 4 (λW x y=>jD) ?_;refine .fin λW hR ⟨h5,_⟩=>?_
  obtain⟨q5,e5,h5⟩:=h5;rw[show U 5=_ from e5]
  go_wp2_with fail
  refine(lV h5 (hY.ext (x1.trans hR)) (N.ext (x1.trans hR)) ⟨H,i⟩ j (by rw[kU];omega)).mono ?_;rintro e w4 ⟨Y,rfl,Z,x4⟩;go_wp2;go_ret;exact⟨Y,rfl,Z,x1.trans (hR.trans x4)⟩
 ·obtain⟨u,z,rfl⟩:=I ω
  obtain⟨r,s,d1,d2,a3,a2⟩:=hX.left;have hd:decide ((htT (.node u z):Int)<=(htT y:Int))=false:=by rw[decide_eq_false_iff_not];omega
  have f:rV tb (.node (.node u z) y)= .node (.node tb u) (.node z y):=by simp only[rV];rw[if_neg hh]
  rw[f];clear f I;generalize htT (.node u z)=kx at*;generalize htT y=ky at*;obtain⟨⟨i,j⟩,M⟩:=ha;rw[kU] at hn;go_enter func212,ntmps212
  go_wp2_with fail
  go_quiet(fail)
  have x1:Ext w (w.drewN nq):=(Ext.refl w).drewN nq;have c1:=x1.keep c1;have c2:=x1.keep c2;have d1:=x1.keep d1;have d2:=x1.keep d2;generalize w.drewN nq=X at*;have a1:=ac (λW (a:Ext X W)=>lV (hA.ext (x1.trans a)) (a3.ext (x1.trans a)) (N.ext (x1.trans a)) H i ω);have a0:=ac (λW (a:Ext X W)=>lV (a2.ext (x1.trans a)) (hY.ext (x1.trans a)) (N.ext (x1.trans a)) j M ω)
  go_wp2_with fail
  refine mg 21 [rw1 8 λq W=>qG G W q (.node tb u),rw1 20 λq W=>qG G W q (.node z y)] ⟨λ_ _ _ _ h e=>qG.ext h e,λ_ _ _ _ h e=>qG.ext h e,trivial⟩ λU _=>?_
  refine .s 8 (λW x y=>jD) ?_;refine .k 0 (λW a=>(a1.out W a).mono (by rintro e W1 ⟨v,rfl,Q,O⟩;exact⟨v,rfl,Q,O⟩)) ?_;refine .s 11 (λW x y=>jD) ?_;refine .k 1 (λW a=>(a0.out W a).mono (by rintro e W1 ⟨v,rfl,Q,O⟩;exact⟨v,rfl,Q,O⟩)) ?_;refine .fin λW hR ⟨h8,J,_⟩=>?_
  obtain⟨q8,e8,h8⟩:=h8;rw[show U 8=_ from e8];obtain⟨a5,a4,J⟩:=J;rw[show U 20=_ from a4]
  go_wp2_with fail
  refine(lV h8 J (N.ext (x1.trans hR)) ⟨H,i⟩ ⟨j,M⟩ (by rw[kU,kU];omega)).mono ?_;rintro e w4 ⟨Y,rfl,Z,x4⟩;go_wp2;go_ret;exact⟨Y,rfl,Z,x1.trans (hR.trans x4)⟩
theorem JH {t:Tr} {n:Nat} (h:n+1<htT t):∃x y,t= .node x y/\(htT x<htT y->∃u v,y= .node u v)/\(htT y<htT x->∃u v,x= .node u v):=by
 cases t with
 |leaf l=>simp[htT] at h
 |node x y=>
  refine⟨x,y,rfl,λa=>?_,λa=>?_⟩
  ·cases y with
   |leaf l=>simp[htT] at a
   |node u v=>exact⟨u,v,rfl⟩
  ·cases x with
   |leaf l=>simp[htT] at a
   |node u v=>exact⟨u,v,rfl⟩
theorem Ub {p:Prop} (h:p:=by
 generalize htT ta=na at*;generalize htT tb=nb at*;go_enter func180,ntmps180
 go_wp2_with fail
 go_quiet(fail)
 have x1:Ext w (w.drewN nq):=(Ext.refl w).drewN nq;have g1:=x1.keep g1;have g2:=x1.keep g2;generalize w.drewN nq=w1 at*
 go_wp2_with fail
 go_quiet(fail)
 have x2:Ext w (w1.drewN nq):=x1.drewN nq;generalize w1.drewN nq=w2 at*
 go_wp2_with fail
 refine(hc.out _ x2).mono ?_;rintro e w4 ⟨v4,rfl,o4,x4⟩;go_wp2;go_ret;exact⟨v4,rfl,o4,x2.trans x4⟩):p:=h
theorem Uj {ta:Tr} (u:AtP G w ba ta) (q:AtP G w bb tb) (J:Up G w) (j:okR ta) (i:okR tb) (hn:cnt ta+cnt tb<=40000000):
  aO pg 180 #[Vp ba,Vp bb] w (Ec G w (tQ ta tb)):=by
 have g1:=u.high;have g2:=q.high;have N:=JQ j;have M:=JQ i;by_cases z:htT tb+1<htT ta
 ·have a:tQ ta tb=rU ta tb:=by unfold tQ;rw[if_pos z]
  rw[a];clear a;have O:decide (((htT tb:Int)+1)<(htT ta:Int))=true:=by rw[decide_eq_true_eq];omega
  have hc:=ac (λW (f:Ext w W)=>show aO pg 211 #[Vp ba,Vp bb] W (Ec G W (rU ta tb)) by
   obtain⟨x,y,rfl,H,_⟩:=JH z;exact VE (u.ext f) (q.ext f) (J.ext f) j i hn H)
  generalize htT ta=na at*;generalize htT tb=nb at*;go_enter func180,ntmps180
  go_wp2_with fail
  go_quiet(fail)
  have x1:Ext w (w.drewN nq):=(Ext.refl w).drewN nq;generalize w.drewN nq=w1 at*
  go_wp2_with fail
  refine(hc.out _ x1).mono ?_;rintro e w4 ⟨v4,rfl,o4,x4⟩;go_wp2;go_ret;exact⟨v4,rfl,o4,x1.trans x4⟩
 ·have O:decide (((htT tb:Int)+1)<(htT ta:Int))=false:=by rw[decide_eq_false_iff_not];omega
  by_cases K:htT ta+1<htT tb
  ·have a:tQ ta tb=rV ta tb:=by unfold tQ;rw[if_neg z,if_pos K]
   rw[a];clear a;have I:decide (((htT ta:Int)+1)<(htT tb:Int))=true:=by rw[decide_eq_true_eq];omega
   have hc:=ac (λW (f:Ext w W)=>show aO pg 212 #[Vp ba,Vp bb] W (Ec G W (rV ta tb)) by
        obtain⟨x,y,rfl,_,H⟩:=JH K;exact VH (u.ext f) (q.ext f) (J.ext f) j i hn H)
   exact Ub
  ·have a:tQ ta tb= .node ta tb:=by unfold tQ;rw[if_neg z,if_neg K]
   rw[a];clear a;have I:decide (((htT ta:Int)+1)<(htT tb:Int))=false:=by rw[decide_eq_false_iff_not];omega
   have hc:=ac (λW (f:Ext w W)=>lV (u.ext f) (q.ext f) (J.ext f) j i hn);exact Ub
end
section
def ChB (W:ae) (a:Nat) (c0:au) (n s lo hi:Int):Prop:=W.heap[a]? =some (.cells #[c0,qF,qF,Vi 0,Vi n,Vi s,Vq lo,Vq hi] 61 (0,0))
variable {W:ae} {c0:au} {hi lo n s:Int} {pb:Nat}
theorem ChB.ext {W':ae} (h:ChB W pb c0 n s lo hi) (a:Ext W W'):ChB W' pb c0 n s lo hi:=by
 unfold ChB at*;rw[av a pb (an.1 h).1];exact h
theorem ChB.cells (h:ChB W pb c0 n s lo hi):PtC W pb c0 qF qF 0 n s lo hi:=
 ⟨aj W pb 0 _ _ _ h,aj W pb 1 _ _ _ h,aj W pb 2 _ _ _ h,aj W pb 3 _ _ _ h,aj W pb 4 _ _ _ h,aj W pb 5 _ _ _ h,aj W pb 6 _ _ _ h,aj W pb 7 _ _ _ h⟩
theorem ChB.frozen {W:ae} {pb:Nat} {c0:au} {n s lo hi:Int} (h:ChB W pb c0 n s lo hi) (j:Nat):W.frozen? ⟨pb,j,none⟩=false:=frozen_of_row W pb j _ _ h
theorem ChB.afn (h:ChB W pb c0 n s lo hi) (a:Int):ChB (W.setCell ⟨pb,5,none⟩ (Vi a)) pb c0 n a lo hi:=al _ _ 5 _ _ _ h
theorem ChB.adC (h:ChB W pb c0 n s lo hi) (a:Int):ChB (W.setCell ⟨pb,6,none⟩ (Vq a)) pb c0 n s a hi:=al _ _ 6 _ _ _ h
theorem ChB.adB (h:ChB W pb c0 n s lo hi) (a:Int):ChB (W.setCell ⟨pb,7,none⟩ (Vq a)) pb c0 n s lo a:=al _ _ 7 _ _ _ h
theorem sN {q o:Nat} {v:au} (p j:Nat) (u:au) (a:q≠p) (h:W.cell? ⟨q,o,none⟩=some v):(W.setCell ⟨p,j,none⟩ u).cell? ⟨q,o,none⟩=some v:=by
 rw[lX (heap_setCell_other _ _ _ _ a)];exact h
def aaL (w:ae) (pb:Nat) (c0:au) (l:List En) (n:Nat) (i:au) (W:ae):Prop:=
 ∃j:Nat,j<=n/\i=Vi j/\Ext w W/\ChB W pb c0 n (jC (l.take j)).length (loL (l.take j)) (hiL (l.take j))
theorem MZ {p:Prop} (h:p:=by
 have f6:=hp.frozen 6
 go_simp
 exact hN _ _ (λ_ e=>by cases e) (ChB.adC hp _) (hx.set 6 _ (.inr rfl)) ((RX.refl pb W).set 6 _ (.inr rfl))):p:=h
theorem PW {G:Nat->Prop} (A:Option Addr) (n cap:Nat) (l:List En) (w:ae) (hv:EnS w A l) (hn:l.length=n) (b8:n<=cap) (hb:n<=40000000) (hG:Up G w) (hA:0<n->∃k o,A=some ⟨k,o,none⟩/\G k):
  aO pg 171 #[.slice A n cap] w (Ec G w (.leaf l)):=by
 obtain⟨pb,a8⟩:∃pb,w.heap.size=pb:=⟨_,rfl⟩;obtain⟨w0,a5⟩:∃W,w.alloc (.cells #[.slice A n cap,qF,qF,Vi 0,Vi n,Vi 0,Vq 0,Vq 0] 61)=W:=⟨_,rfl⟩;have x0:Ext w w0:=by rw[<-a5];exact(Ext.refl w).alloc _
 have b0:ChB w0 pb (.slice A n cap) n 0 0 0:=by rw[<-a5,<-a8];exact heap_alloc_new w _
 have b7:=ac (show∀W,Ext w W->ChB W pb (.slice A n cap) n (jC l).length (loL l) (hiL l)->Ec G w (.leaf l) (.returned (Vp pb)) W by
  intro W hx hB;subst hn;exact⟨_,rfl,⟨pb,rfl,hG _ ω,_,_,_,hB.cells,rfl,rfl,A,cap,rfl,b8,hv.ext hx,hA⟩,hx⟩)
 replace hn:=ac hn;replace hv:=ac hv;have OW:w.heap.size<=pb:=ω
 replace a8:=ac a8;replace a5:=ac a5;clear hA hG;go_enter func171,ntmps171;go_wp2;have b9:aaL w pb (.slice A n cap) l n (Vi 0) (w.alloc (.cells #[.slice A n cap,qF,qF,Vi 0,Vi n,Vi 0,Vq 0,Vq 0] 61)):=by
  rw[a5.out];exact⟨0,bN _,rfl,x0,by simpa[jC,jU,loL,hiL] using b0⟩
 rw[a8.out];clear a5 x0 b0 a8
 go_loopw [13] (aaL w pb (.slice A n cap) l n) (λi _=>n-(intOf i).toNat)
 case atStart=>exact b9
 case round=>
  clear b9;obtain⟨j,hj,rfl,hx,hB⟩:=hrel;by_cases d3:j<n
  ·obtain⟨b,o,x,rfl,hp,d⟩:=(hv.out.ext hx).at (k:=j) (by rw[hn.out];exact d3)
   obtain⟨c0,c1,c2,c3⟩:=d;have b6:(0:Int)<=(j:Int):=ω
   have b5:(j:Int)<(n:Int):=ω
   obtain⟨eb,M⟩:∃eb,wr.heap.size=eb:=⟨_,rfl⟩;obtain⟨W1,a⟩:∃W,wr.alloc (.cells #[.int .u32 x.c,.int .u32 x.k,.int .i32 x.ch,.bool x.g] 116)=W:=⟨_,rfl⟩;have y1:Ext wr W1:=by rw[<-a];exact(Ext.refl wr).alloc _
   have u:W1.cell? ⟨eb,0,none⟩=some (Vu x.c):=by rw[<-a,<-M];simp[go_sem]
   have q:W1.cell? ⟨eb,1,none⟩=some (Vu x.k):=by rw[<-a,<-M];simp[go_sem]
   have I:=hB.ext y1;have a3:=hx.trans y1;have f:eb≠pb:=by
        have:=(an.1 hB).1;omega
   have J:=Qo hp;have b3:rW x=lC x.c x.k:=rfl;replace a:=ac a;replace M:=ac M;rcases dE j with h0|h0
   ·subst h0
    obtain⟨a6,a7⟩:=Vr hp;simp only[Nat.zero_mul,Nat.add_zero] at c0 c1 c2 c3;obtain⟨Y,a0⟩:∃z,loL (l.take 0)=z:=⟨_,rfl⟩;obtain⟨H,a1⟩:∃z,hiL (l.take 0)=z:=⟨_,rfl⟩;rw[a0,a1] at I hB;have a9:=ac (show loL (l.take (0+1))=(if lC x.c x.k<lC x.c x.k then lC x.c x.k else lC x.c x.k) by rw[show(0+1:Nat)=1 from rfl,a6,b3];simp);have b1:=ac (show hiL (l.take (0+1))=(if lC x.c x.k<lC x.c x.k then lC x.c x.k else lC x.c x.k) by rw[show(0+1:Nat)=1 from rfl,a7,b3];simp);clear a6 a7 a0 a1;cases hg:x.g
    case' true=>
     rw[hg] at c3 J;have Q:=ac (show(((jC (l.take (0+1))).length:Nat):Int)=((jC (l.take 0)).length:Int) by rw[J];simp);replace a:=a.out;rw[hg] at a;replace a:=ac a
     go_wp2_with fail
     rw[a.out,M.out];have O:=I;have U:=a3;clear I a3 a M hB hx c0 c1 c2 c3 J hp b6 b5;obtain⟨s2,Z⟩:∃z:Int,((jC (l.take 0)).length:Int)=z:=⟨_,rfl⟩
    case' false=>
     rw[hg] at c3 J;replace a:=a.out;rw[hg] at a;have p5:=I.cells.c5;have f5:=I.frozen 5;rw[<-a] at p5 f5;have Q:=ac (show(((jC (l.take (0+1))).length:Nat):Int)=((jC (l.take 0)).length:Int)+1 by rw[J];simp);have d2:(jC (l.take 0)).length<=40000000:=by simp[jC,jU]
     have O:=I.afn (((jC (l.take 0)).length:Int)+1);have U:=a3.setCell (p:=⟨pb,5,none⟩) OW (Vi (((jC (l.take 0)).length:Int)+1));have u:=sN pb 5 (Vi (((jC (l.take 0)).length:Int)+1)) f u;have q:=sN pb 5 (Vi (((jC (l.take 0)).length:Int)+1)) f q;replace a:=ac a;generalize(jC (l.take 0)).length=s0 at*;have d1:cJ.wrap ((s0:Int)+1)=(s0:Int)+1:=bP _ ω
     go_wp2_with fail
     rw[a.out,M.out];generalize W1.setCell ⟨pb,5,none⟩ (Vi ((s0:Int)+1))=W2 at*;clear I a3 a M hB hx c0 c1 c2 c3 J hp b6 b5 p5 f5;obtain⟨s2,Z⟩:∃z:Int,(s0:Int)+1=z:=⟨_,rfl⟩
    all_goals
     rw[Z] at O;replace Q:=ac (Q.out.trans Z);clear Z;refine ou 11 10 [rwI 4 (Vq (lC x.c x.k)),rwI 7 (Vq (lC x.c x.k)),rw0 10 (λW=>ChB W pb (.slice (some ⟨b,o,none⟩) n cap) n s2 (lC x.c x.k) H)] (RX pb _) (λW=>ChB W pb (.slice (some ⟨b,o,none⟩) n cap) n s2 Y H) Ext (RX pb) (RX.ext ((Ext.refl _).drew)) (O.ext ((Ext.refl _).drew)) (λ_ _ h e=>h.trans (RX.ext e)) (λ_ _ h e=>h.ext e) ⟨λ_ _ _ _ _ _=>trivial,λ_ _ _ _ _ _ _ _=>trivial,λ_ _ _ _ _ _=>trivial,λ_ _ _ _ _ _ _ _=>trivial,λ_ _ _ _ h e=>ChB.ext h e,λ_ h=>absurd rfl h,trivial⟩ λρ hI=>?_
     refine .s1 4 false [] (λW hx hp _=>by
      have u:=RX.cell hx u f;have q:=RX.cell hx q f;exact jD) ?_
     refine .kv1 hI 0 _ (λW _=>uL x.c x.k W) ?_;refine .s1 2 false [] (λW hx hp _=>by
      have u:=RX.cell hx u f;have q:=RX.cell hx q f;exact jD) ?_
     refine .kv1 hI 1 _ (λW _=>uL x.c x.k W) ?_;refine .s1 2 false [] (λW hx hp _=>by
      have u:=RX.cell hx u f;have q:=RX.cell hx q f;exact jD) ?_
     refine .o0 2 [] (λW hx hp _ N hN=>?_) ?_
     ·have k6:=hp.cells.c6
      exact MZ
     refine .fin λW hR ⟨_,_,X,_⟩=>?_
     replace X:ChB W pb (.slice (some ⟨b,o,none⟩) n cap) n s2 (lC x.c x.k) H:=X rfl;have a2:=RX.down U OW hR;have u:=RX.cell hR u f;have q:=RX.cell hR q f;have k7:=X.cells.c7;have f7:=X.frozen 7;clear O U;have O:=X.adB (lC x.c x.k);have U:=a2.setCell (p:=⟨pb,7,none⟩) OW (Vq (lC x.c x.k));have u:=sN pb 7 (Vq (lC x.c x.k)) f u;have q:=sN pb 7 (Vq (lC x.c x.k)) f q;clear a2 hR X
     go_wp2_with fail
     generalize W.setCell ⟨pb,7,none⟩ (Vq (lC x.c x.k))=W2 at*;clear k7 f7;refine ou 21 20 [rwI 8 (Vq (lC x.c x.k)),rwI 16 (Vq (lC x.c x.k)),rw0 20 (λW=>ChB W pb (.slice (some ⟨b,o,none⟩) n cap) n s2 (lC x.c x.k) (lC x.c x.k))] (RX pb _) (λW=>ChB W pb (.slice (some ⟨b,o,none⟩) n cap) n s2 (lC x.c x.k) (lC x.c x.k)) Ext (RX pb) (RX.ext ((Ext.refl _).drew)) (O.ext ((Ext.refl _).drew)) (λ_ _ h e=>h.trans (RX.ext e)) (λ_ _ h e=>h.ext e) ⟨λ_ _ _ _ _ _=>trivial,λ_ _ _ _ _ _ _ _=>trivial,λ_ _ _ _ _ _=>trivial,λ_ _ _ _ _ _ _ _=>trivial,λ_ _ _ _ h e=>ChB.ext h e,λ_ h=>absurd rfl h,trivial⟩ λρ hI=>?_
     refine .s1 5 false [] (λW hx hp _=>by
      have u:=RX.cell hx u f;have q:=RX.cell hx q f;exact jD) ?_
     refine .s1 1 true [] (λW hx hp _=>by
      have k6:=(hp rfl).cells.c6;have k7:=(hp rfl).cells.c7;exact jD) ?_
     refine .s1 2 false [] (λW hx hp _=>by
      have u:=RX.cell hx u f;have q:=RX.cell hx q f;exact jD) ?_
     refine .kv1 hI 0 _ (λW _=>uL x.c x.k W) ?_;refine .s1 4 false [] (λW hx hp _=>by
      have u:=RX.cell hx u f;have q:=RX.cell hx q f;exact jD) ?_
     refine .s1 1 true [] (λW hx hp _=>by
      have k6:=(hp rfl).cells.c6;have k7:=(hp rfl).cells.c7;exact jD) ?_
     refine .s1 2 false [] (λW hx hp _=>by
      have u:=RX.cell hx u f;have q:=RX.cell hx q f;exact jD) ?_
     refine .kv1 hI 1 _ (λW _=>uL x.c x.k W) ?_;refine .s1 3 false [] (λW hx hp _=>by
      have u:=RX.cell hx u f;have q:=RX.cell hx q f;exact jD) ?_
     refine .o0 2 [] (λW hx hp _ N hN=>?_) ?_
     ·have k6:=hp.cells.c6
      exact MZ
     refine .fin λW hR ⟨_,_,X,_⟩=>?_
     replace X:ChB W pb (.slice (some ⟨b,o,none⟩) n cap) n s2 (lC x.c x.k) (lC x.c x.k):=X rfl;have a2:=RX.down U OW hR;have k7:=X.cells.c7;have f7:=X.frozen 7;have b2:=X.adB (lC x.c x.k);have a4:=a2.setCell (p:=⟨pb,7,none⟩) OW (Vq (lC x.c x.k));have b4:=ac (show ChB _ pb _ n ((jC (l.take (0+1))).length:Int) (loL (l.take (0+1))) (hiL (l.take (0+1))) by rw[Q.out,a9.out,b1.out];simpa using b2);replace a4:=ac a4;clear b2 a2 U O u q Q a9 b1 X hR;generalize lC x.c x.k=d4 at*;go_wp2
     go_roundw
     case rel=>exact⟨0+1,ω,ν,a4.out,b4.out⟩
     case measure=>simp[intOf];try omega
   ·have d5:((j:Int)==0)=false:=by simp;omega
    have a6:=YW hp h0;have a7:=Zn hp h0;obtain⟨Y,a0⟩:∃z,loL (l.take j)=z:=⟨_,rfl⟩;obtain⟨H,a1⟩:∃z,hiL (l.take j)=z:=⟨_,rfl⟩;rw[a0] at a6 I hB;rw[a1] at a7 I hB;have a9:=ac (show loL (l.take (j+1))=(if lC x.c x.k<Y then lC x.c x.k else Y) by rw[a6,b3];split <;> omega);have b1:=ac (show hiL (l.take (j+1))=(if H<lC x.c x.k then lC x.c x.k else H) by rw[a7,b3];split <;> omega);clear a6 a7 a0 a1;cases hg:x.g
    case' true=>
     rw[hg] at c3 J;have Q:=ac (show(((jC (l.take (j+1))).length:Nat):Int)=((jC (l.take j)).length:Int) by rw[J];simp);replace a:=a.out;rw[hg] at a;replace a:=ac a
     go_wp2_with fail
     rw[a.out,M.out];have O:=I;have U:=a3;clear I a3 a M hB hx c0 c1 c2 c3 J hp;obtain⟨s2,Z⟩:∃z:Int,((jC (l.take j)).length:Int)=z:=⟨_,rfl⟩
    case' false=>
     rw[hg] at c3 J;replace a:=a.out;rw[hg] at a;have p5:=I.cells.c5;have f5:=I.frozen 5;rw[<-a] at p5 f5;have Q:=ac (show(((jC (l.take (j+1))).length:Nat):Int)=((jC (l.take j)).length:Int)+1 by rw[J];simp);have d2:(jC (l.take j)).length<=40000000:=by
      have h1:=pV (l.take j) 0;have h2:(l.take j).length<=j:=by rw[List.length_take];omega
      unfold jC;omega
     have O:=I.afn (((jC (l.take j)).length:Int)+1);have U:=a3.setCell (p:=⟨pb,5,none⟩) OW (Vi (((jC (l.take j)).length:Int)+1));have u:=sN pb 5 (Vi (((jC (l.take j)).length:Int)+1)) f u;have q:=sN pb 5 (Vi (((jC (l.take j)).length:Int)+1)) f q;replace a:=ac a;generalize(jC (l.take j)).length=s0 at*;have d1:cJ.wrap ((s0:Int)+1)=(s0:Int)+1:=bP _ ω
     go_wp2_with fail
     rw[a.out,M.out];generalize W1.setCell ⟨pb,5,none⟩ (Vi ((s0:Int)+1))=W2 at*;clear I a3 a M hB hx c0 c1 c2 c3 J hp p5 f5;obtain⟨s2,Z⟩:∃z:Int,(s0:Int)+1=z:=⟨_,rfl⟩
    all_goals
     rw[Z] at O;replace Q:=ac (Q.out.trans Z);clear Z;refine ou 21 20 [rwI 8 (Vq (lC x.c x.k)),rwI 16 (Vq (lC x.c x.k)),rw0 20 (λW=>ChB W pb (.slice (some ⟨b,o,none⟩) n cap) n s2 (if lC x.c x.k<Y then lC x.c x.k else Y) H)] (RX pb _) (λW=>ChB W pb (.slice (some ⟨b,o,none⟩) n cap) n s2 Y H) Ext (RX pb) (RX.ext ((Ext.refl _).drew)) (O.ext ((Ext.refl _).drew)) (λ_ _ h e=>h.trans (RX.ext e)) (λ_ _ h e=>h.ext e) ⟨λ_ _ _ _ _ _=>trivial,λ_ _ _ _ _ _ _ _=>trivial,λ_ _ _ _ _ _=>trivial,λ_ _ _ _ _ _ _ _=>trivial,λ_ _ _ _ h e=>ChB.ext h e,λ_ h=>absurd rfl h,trivial⟩ λρ hI=>?_
     refine .s1 5 false [] (λW hx hp _=>by
      have u:=RX.cell hx u f;have q:=RX.cell hx q f;exact jD) ?_
     refine .s1 1 true [] (λW hx hp _=>by
      have k6:=(hp rfl).cells.c6;have k7:=(hp rfl).cells.c7;exact jD) ?_
     refine .s1 2 false [] (λW hx hp _=>by
      have u:=RX.cell hx u f;have q:=RX.cell hx q f;exact jD) ?_
     refine .kv1 hI 0 _ (λW _=>uL x.c x.k W) ?_;refine .s1 4 false [] (λW hx hp _=>by
      have u:=RX.cell hx u f;have q:=RX.cell hx q f;exact jD) ?_
     refine .s1 1 true [] (λW hx hp _=>by
      have k6:=(hp rfl).cells.c6;have k7:=(hp rfl).cells.c7;exact jD) ?_
     refine .s1 2 false [] (λW hx hp _=>by
      have u:=RX.cell hx u f;have q:=RX.cell hx q f;exact jD) ?_
     refine .kv1 hI 1 _ (λW _=>uL x.c x.k W) ?_;refine .s1 3 false [] (λW hx hp _=>by
      have u:=RX.cell hx u f;have q:=RX.cell hx q f;exact jD) ?_
     refine .o0 2 [] (λW hx hp _ N hN=>?_) ?_
     ·have k6:=hp.cells.c6
      exact MZ
     refine .fin λW hR ⟨_,_,X,_⟩=>?_
     replace X:ChB W pb (.slice (some ⟨b,o,none⟩) n cap) n s2 (if lC x.c x.k<Y then lC x.c x.k else Y) H:=X rfl;have a2:=RX.down U OW hR;have k7:=X.cells.c7;have f7:=X.frozen 7;have b2:=X.adB (if H<lC x.c x.k then lC x.c x.k else H);have a4:=a2.setCell (p:=⟨pb,7,none⟩) OW (Vq (if H<lC x.c x.k then lC x.c x.k else H));have b4:=ac (show ChB _ pb _ n ((jC (l.take (j+1))).length:Int) (loL (l.take (j+1))) (hiL (l.take (j+1))) by rw[Q.out,a9.out,b1.out];exact b2);replace a4:=ac a4;clear b2 a2 U O u q Q a9 b1 X hR;generalize(if H<lC x.c x.k then lC x.c x.k else H)=d4 at*;go_wp2
     go_roundw
     case rel=>exact⟨j+1,ω,ν,a4.out,b4.out⟩
     case measure=>simp[intOf];try omega
  ·have e:l.take j=l:=List.take_of_length_le (by rw[hn.out];omega)
   rw[e] at hB;have hz:=ac (b7.out _ hx hB);go_wp2;go_ret;exact hz.out
end
end
theorem JY:∀(l:List En) (q:Nat) (x:En),l[q]? =some x->flat PG (l.set q { x with g:=true })=(flat PG l).set (q*4+3) (.bool true)
 |[],q,x,h=>by simp at h
 |y::l,0,x,h=>by
  have e:y=x:=by simpa using h
  subst e;rw[List.set_cons_zero,nJ,nJ,List.set_append_left _ _ (by rw[rO];omega)];rfl
 |y::l,q+1,x,h=>by
  rw[List.set_cons_succ,nJ,nJ,List.set_append_right _ _ (by rw[rO];omega),rO,show(q+1)*4+3-4=q*4+3 by omega];rw[JY l q x (by simpa using h)]
theorem lG.hide {w W:ae} {g n c:Nat} {l:List En} {q:Nat} {x:En} (h:lG w W (.slice (some ⟨g,0,none⟩) n c) l) (f:l[q]? =some x):
  lG w (W.setCell ⟨g,q*4+3,none⟩ (.bool true)) (.slice (some ⟨g,0,none⟩) n c) (l.set q { x with g:=true })/\W.grownBy (W.setCell ⟨g,q*4+3,none⟩ (.bool true)) (some g)/\W.frozen? ⟨g,q*4+3,none⟩=false:=by
 unfold lG jQ at h;have i:n=l.length:=by
  obtain⟨A,cc,e,_⟩:=jQ.form h;injection e
 subst i;have a:=World.ownsRow.stored h (q*4+3) (.bool true);refine⟨?_,a.2,World.ownsRow.frozenAt h _⟩;unfold lG jQ;rw[JY l q x f,List.length_set];exact a.1
theorem lG.block {w W:ae} {v:au} {l:List En} (h:lG w W v l) (e:0<l.length):∃g c,v= .slice (some ⟨g,0,none⟩) l.length c/\w.heap.size<=g/\g<W.heap.size:=by
 obtain⟨g,cap,hv,_,a⟩:=World.ownsRow.form h e;subst hv;have:=bQ h g rfl;exact⟨g,cap,rfl,this.1,this.2⟩
def afc (W:ae) (q:Nat) (x:En):Prop:=W.heap[q]? =some (.cells #[.int .u32 x.c,.int .u32 x.k,.int .i32 x.ch,.bool x.g] 116 (0,0))
theorem afc.row {W:ae} {q:Nat} {x:En} (h:afc W q x):EnS W (some ⟨q,0,none⟩) [x]:=λ_=>⟨q,0,rfl,λj u a=>by rw[Nat.zero_add,aj W q j _ _ _ h];rw[Ci] at a;simpa[PG] using a⟩
end Go.Proofs.YtncfhbpejchbfaaGreatDoor

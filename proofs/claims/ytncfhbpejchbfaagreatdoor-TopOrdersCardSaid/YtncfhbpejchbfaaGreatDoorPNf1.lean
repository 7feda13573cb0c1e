/-
  Lemmas of this seat; no claim.
-/
import Derived.Lib.OthersKept
import Derived.Test.YtncfhbpejchbfaaGreatDoorPSf1
import Derived.Test.YtncfhbpejchbfaaGreatDoorPWf1
import Derived.Test.YtncfhbpejchbfaaGreatDoorPEf1
set_option linter.unusedVariables false
set_option linter.unusedSimpArgs false
set_option maxRecDepth 100000
set_option maxHeartbeats 4000000
open Array renaming getElem?_eq_some_iff→an
open Bool renaming eq_iff_iff→dC
open Go renaming Value→au,World→ae,cell_of_row→aj,cell_regrown→ai,heap_setCell_same→al,info_parts→dK,redrawn→eK,wpQuiet_nil→bh,wp_region_quiet_below→ax
open Go.Builtin renaming append_→dg,firstCells→fp,lenOf→ic
open Go.Instr renaming slice→dm
open Go.IntKind renaming u32→ak
open Go.Lib renaming encodeRune→aY,hid→ac,validD→ew
open Go.Obj renaming cells→aT
open Go.Result renaming andThen_ok→dc
open Go.RowKit.Below renaming block→av,heap_setCell→bV
open Go.Sem renaming run_bind→dG,run_pure→gW
open Go.Value renaming int→ao,string→jd
open Go.World renaming cell?_alloc_some→ah,iterPos→iN
open Go.World.ownsRow renaming kept→eY,lt→bQ
open Int renaming toNat_natCast→bJ
open List renaming drop_eq_nil_of_le→eu,drop_zero→cH,getElem?_eq_getElem→ay,length_append→ag,length_cons→ar,length_nil→aG,map_cons→bA,map_nil→dt,map_toArray→fc,mem_of_getElem?→aD
open Nat renaming zero_add→aW,zero_le→bN
open UInt8 renaming ofNat→bR
open Go.Proofs.Tryz
open Go.Proofs.Tryz renaming prog→pg
namespace Go.Proofs.YtncfhbpejchbfaaGreatDoor
open Go.ChangeShapes Go.WideShapes Go.ChangeAt Go.RowKit Go.Sort
section
variable {W w:ae} {g:Nat} {x:It}
theorem kL {P:Program} (w:ae) (base:Nat) (t X e:TypeId) (i:TypeInfo) (z:au) (size bytes:Nat) (N:P.underlying t=some (.slice e)) (hi:P.info? e=some i) (hz:i.zero=some z)
  (H:i.size=size) (Q:i.bytes=bytes) (M:z.cells.size=size) (O:0<size)
  (v:au) (n:Nat) (xs:List au) (f:w.ownsRow base e size v n xs)
  (A:Option Addr) (m c:Nat) (a:List au) (hl:a.length=m*size) (Z:Row w A a) (h1:∀u∈a,u.oneCell'=true)
  (U:n+m<=maxLen) (q:(n+m)*bytes<=140737488355328) (I:base<=w.heap.size):
  ∃J w',(dg #[t,t] X #[v,.slice A m c]).run P w= .ok J w'/\w'.ownsRow base e size J (n+m) (xs++a)/\w.grownBy w' v.ownBlock/\(J.ownBlock=v.ownBlock\/J.ownBlock=some w.heap.size):=by
 cases A with
 |none=>
  have h0:a=[]:=by
   cases a with
   |nil=>rfl
   |cons u us=>obtain⟨b,o,e,_⟩:=Z ι;cases e
  subst h0;have hm:m=0:=by
   have:=hl;simp only[aG] at this;rcases Nat.mul_eq_zero.1 this.symm with h|h
   ·exact h
   ·omega
  subst hm;refine⟨v,w,?_,by simpa using f,⟨rfl,rfl,rfl,Nat.le_refl _,λ_ _ _=>rfl⟩,.inl rfl⟩;rcases f.2 with⟨rfl,rfl⟩|⟨g,cap,cur,rfl,_,_,hnc,_⟩
  ·simp[dg,run_underlying N,sizeOf,typeInfo,hi,ic,fp]
  ·simp[dg,run_underlying N,sizeOf,typeInfo,hi,ic,fp,hnc,storeCells]
 |some ad=>
  obtain⟨J,w',K,h2,h3,_,h5⟩:=run_append_own_at (P:=P) w base t X e i z size bytes N hi hz H Q M O v n xs f ad m c a hl (λj u Y=>by
   obtain⟨b,o,e,hc⟩:=Z (by cases a <;> simp at Y⊢);injection e with e;subst e;rw[tX];exact hc j u Y) h1 U q I
  exact⟨J,w',K,h2,h3,h5⟩
def encI (x:It):List au:=[Vu x.c,Vu x.k,Vu x.lc,Vu x.lk,Vu x.rc,Vu x.rk,.int .i32 x.ch]
abbrev itv (x:It):au:= .agg #[.int .u32 x.c,.int .u32 x.k,.int .u32 x.lc,.int .u32 x.lk,.int .u32 x.rc,.int .u32 x.rk,.int .i32 x.ch]
theorem nU (p:It):(encI p).length=7:=rfl
theorem Ii (p:It):∀u∈encI p,u.oneCell'=true:=by intro u a;simp[encI] at a;rcases a with rfl|rfl|rfl|rfl|rfl|rfl|rfl <;> rfl
theorem OO:(pg.info? 106).map (λi=>(i.zero,i.size,i.bytes))=some (some (.agg #[.int .u32 0,.int .u32 0,.int .u32 0,.int .u32 0,.int .u32 0,.int .u32 0,.int .i32 0]),7,28):=κ
def ItS (w:ae) (A:Option Addr) (l:List It):Prop:=Row w A (flat encI l)
theorem ItS.ext {w w':ae} {A:Option Addr} {l:List It} (h:ItS w A l) (a:Ext w w'):ItS w' A l:=Row.ext h a
structure ItC (w:ae) (b o:Nat) (x:It):Prop where
 c0:w.cell? ⟨b,o,none⟩=some (Vu x.c)
 c1:w.cell? ⟨b,o+1,none⟩=some (Vu x.k)
 c2:w.cell? ⟨b,o+2,none⟩=some (Vu x.lc)
 c3:w.cell? ⟨b,o+3,none⟩=some (Vu x.lk)
 c4:w.cell? ⟨b,o+4,none⟩=some (Vu x.rc)
 c5:w.cell? ⟨b,o+5,none⟩=some (Vu x.rk)
 c6:w.cell? ⟨b,o+6,none⟩=some (.int .i32 x.ch)
theorem ItC.ext {w':ae} {b o:Nat} (h:ItC w b o x) (a:Ext w w'):ItC w' b o x:=⟨a.keep h.c0,a.keep h.c1,a.keep h.c2,a.keep h.c3,a.keep h.c4,a.keep h.c5,a.keep h.c6⟩
theorem ItS.at {w:ae} {A:Option Addr} {l:List It} (h:ItS w A l) {k:Nat} (i:k<l.length):∃b o x,A=some ⟨b,o,none⟩/\l[k]? =some x/\ItC w b (o+k*7) x:=by
 obtain⟨x,f⟩:∃p,l[k]? =some p:=⟨l[k],ay i⟩;obtain⟨b,o,e,a⟩:=Row.at h nU f ω;exact⟨b,o,x,e,f,a 0 _ rfl,a 1 _ rfl,a 2 _ rfl,a 3 _ rfl,a 4 _ rfl,a 5 _ rfl,a 6 _ rfl⟩
theorem ItS.take {w:ae} {A:Option Addr} {l:List It} (h:ItS w A l) (k:Nat):ItS w A (l.take k):=by
 unfold ItS;rw[zy nU];exact Row.take h _
theorem ItS.cut {w:ae} {A:Option Addr} {l:List It} (h:ItS w A l) {n cap k:Nat} (hn:l.length=n) (e:n<=cap) (a:k<=n):ItS w (oq A cap k 7) (l.drop k):=by
 unfold ItS;rw[wE nU];exact Row.cut h (n:=n) (by rw[jR nU,hn]) e a
theorem ItS.new (w:ae) (x:It):ItS (w.alloc (.cells #[.int .u32 x.c,.int .u32 x.k,.int .u32 x.lc,.int .u32 x.lk,.int .u32 x.rc,.int .u32 x.rk,.int .i32 x.ch] 106)) (some ⟨w.heap.size,0,none⟩) [x]:=Row.new w #[.int .u32 x.c,.int .u32 x.k,.int .u32 x.lc,.int .u32 x.lk,.int .u32 x.rc,.int .u32 x.rk,.int .i32 x.ch] 106
theorem agh (A:Option Addr) (n cap k:Nat) (q:k<=n) (z:Int) (j:z=k) (W:ae):(dm 67 (.slice A n cap) (some (.int .i64 z)) none none).run pg W= .ok (.slice (oq A cap k 7) (n-k) (cap-k)) W:=by
 subst j;obtain⟨i,hi,f,a,e⟩:=dK OO;have:=xU underlying67 hi A n cap k W ω ω;rw[a] at this;exact this
theorem afj (A:Option Addr) (n cap k:Nat) (q:k<=cap) (z:Int) (j:z=k) (W:ae):(dm 67 (.slice A n cap) none (some (.int .i64 z)) none).run pg W= .ok (.slice A k cap) W:=by
 subst j;obtain⟨i,hi,f,e,a⟩:=dK OO;exact xS underlying67 hi A n cap k W ω ω
def jS (w W:ae) (v:au) (l:List It):Prop:=jQ 106 7 w W v l.length (flat encI l)
theorem jS.nil (w W:ae):jS w W (.slice none 0 0) []:=jQ.nil _ _ _ _
theorem jS.ext {w W W':ae} {v:au} {l:List It} (h:jS w W v l) (a:Ext W W'):jS w W' v l:=jQ.ext h a
theorem jS.down {w0 w W:ae} {v:au} {l:List It} (h:jS w W v l) (a:Ext w0 w):jS w0 W v l:=jQ.down h a
theorem jS.lt {w W:ae} {v:au} {l:List It} (h:jS w W v l):∀k,v.ownBlock=some k->w.heap.size<=k/\k<W.heap.size:=bQ h
theorem jS.open {v:au} {l:List It} (h:jS w W v l):∃A c,v= .slice A l.length c/\l.length<=c/\ItS W A l:=by
 obtain⟨A,c,rfl,a⟩:=jQ.form h;exact⟨A,c,rfl,a,jQ.row h⟩
theorem jS.kept {w W W':ae} {v:au} {l:List It} {row:Option Nat} (h:jS w W v l) (a:W.grownBy W' row) (hn:v.ownBlock=none\/v.ownBlock≠row):jS w W' v l:=eY h a hn
def Xj (w:ae) (l:List It) (e:Ending) (w':ae):Prop:=∃v,e= .returned v/\jS w w' v l/\Ext w w'
theorem kK {w0:ae} {j:Array Oper} {rest:List Oper} {o:Oper} {a:Act} {Q:Exit->Act->ae->Prop} (I:o.guard=none) (s x:Operand)
  (U:o.op= .call { callee:= .builtin .append,args:= #[s,x],argTypes:= #[67,67] })
  (v:au) (l:List It) (N:a.eval s=v) (e:jS w0 w v l) (J:Ext w0 w)
  (A:Option Addr) (m c:Nat) (r:List It) (X:a.eval x= .slice A m c) (hm:r.length=m) (O:ItS w A r) (hb:l.length+r.length<=40000000)
  (h:∀f w',jS w0 w' f (l++r)->Ext w0 w'->w.grownBy w' v.ownBlock->(f.ownBlock=v.ownBlock\/f.ownBlock=some w.heap.size)->wpList pg j Q rest (a.put o.dst f) w'):wpList pg j Q (o::rest) a w:=by
 refine wpList_plain I λK Y=>?_
 obtain⟨i,hi,H,z,u⟩:=dK OO;subst hm;obtain⟨f,w',q,h2,M,Z⟩:=kL (P:=pg) w w0.heap.size 67 o.type 106 i _ 7 28 underlying67 hi H z u rfl ω v l.length _ e A r.length c _ (jR nU r) O (lI Ii r)
  (by unfold maxLen;omega) ω J.size
 unfold Oper.wp execOp;simp only[U,resolve,invoke,builtin,dG,gW,dc,fc,bA,dt,N,X,q];refine Y _ _ (h f w' ?_ (J.grown M (jQ.lt e)) M Z);unfold jS jQ;rw[kQ,ag];exact h2
def encR (x:Rn):List au:=[Vu x.c,Vu x.k,Vu x.lc,Vu x.lk,Vu x.rc,Vu x.rk,.string ⟨x.t.toArray⟩]
abbrev rnv (x:Rn):au:= .agg #[.int .u32 x.c,.int .u32 x.k,.int .u32 x.lc,.int .u32 x.lk,.int .u32 x.rc,.int .u32 x.rk,.string ⟨x.t.toArray⟩]
theorem Ih (p:Rn):(encR p).length=7:=rfl
theorem ZY (p:Rn):∀u∈encR p,u.oneCell'=true:=by intro u a;simp[encR] at a;rcases a with rfl|rfl|rfl|rfl|rfl|rfl|rfl <;> rfl
theorem afz:(pg.info? 40).map (λi=>(i.zero,i.size,i.bytes))=some (some (.agg #[.int .u32 0,.int .u32 0,.int .u32 0,.int .u32 0,.int .u32 0,.int .u32 0,.string ⟨#[]⟩]),7,40):=κ
def RnS (w:ae) (A:Option Addr) (l:List Rn):Prop:=Row w A (flat encR l)
theorem RnS.ext {w w':ae} {A:Option Addr} {l:List Rn} (h:RnS w A l) (a:Ext w w'):RnS w' A l:=Row.ext h a
structure RnC (w:ae) (b o:Nat) (x:Rn):Prop where
 c0:w.cell? ⟨b,o,none⟩=some (Vu x.c)
 c1:w.cell? ⟨b,o+1,none⟩=some (Vu x.k)
 c2:w.cell? ⟨b,o+2,none⟩=some (Vu x.lc)
 c3:w.cell? ⟨b,o+3,none⟩=some (Vu x.lk)
 c4:w.cell? ⟨b,o+4,none⟩=some (Vu x.rc)
 c5:w.cell? ⟨b,o+5,none⟩=some (Vu x.rk)
 c6:w.cell? ⟨b,o+6,none⟩=some (.string ⟨x.t.toArray⟩)
theorem RnC.ext {w':ae} {b o:Nat} {x:Rn} (h:RnC w b o x) (a:Ext w w'):RnC w' b o x:=⟨a.keep h.c0,a.keep h.c1,a.keep h.c2,a.keep h.c3,a.keep h.c4,a.keep h.c5,a.keep h.c6⟩
theorem RnS.at {w:ae} {A:Option Addr} {l:List Rn} (h:RnS w A l) {k:Nat} (i:k<l.length):∃b o x,A=some ⟨b,o,none⟩/\l[k]? =some x/\RnC w b (o+k*7) x:=by
 obtain⟨x,f⟩:∃p,l[k]? =some p:=⟨l[k],ay i⟩;obtain⟨b,o,e,a⟩:=Row.at h Ih f ω;exact⟨b,o,x,e,f,a 0 _ rfl,a 1 _ rfl,a 2 _ rfl,a 3 _ rfl,a 4 _ rfl,a 5 _ rfl,a 6 _ rfl⟩
theorem RnS.new (w:ae) (x:Rn):RnS (w.alloc (.cells #[.int .u32 x.c,.int .u32 x.k,.int .u32 x.lc,.int .u32 x.lk,.int .u32 x.rc,.int .u32 x.rk,.string ⟨x.t.toArray⟩] 40)) (some ⟨w.heap.size,0,none⟩) [x]:=Row.new w #[.int .u32 x.c,.int .u32 x.k,.int .u32 x.lc,.int .u32 x.lk,.int .u32 x.rc,.int .u32 x.rk,.string ⟨x.t.toArray⟩] 40
def qz (w W:ae) (v:au) (l:List Rn):Prop:=jQ 40 7 w W v l.length (flat encR l)
theorem qz.nil (w W:ae):qz w W (.slice none 0 0) []:=jQ.nil _ _ _ _
theorem qz.ext {w W W':ae} {v:au} {l:List Rn} (h:qz w W v l) (a:Ext W W'):qz w W' v l:=jQ.ext h a
theorem qz.lt {w W:ae} {v:au} {l:List Rn} (h:qz w W v l):∀k,v.ownBlock=some k->w.heap.size<=k/\k<W.heap.size:=bQ h
theorem qz.open {v:au} {l:List Rn} (h:qz w W v l):∃A c,v= .slice A l.length c/\l.length<=c/\RnS W A l:=by
 obtain⟨A,c,rfl,a⟩:=jQ.form h;exact⟨A,c,rfl,a,jQ.row h⟩
theorem qz.kept {w W W':ae} {v:au} {l:List Rn} {row:Option Nat} (h:qz w W v l) (a:W.grownBy W' row) (hn:v.ownBlock=none\/v.ownBlock≠row):qz w W' v l:=eY h a hn
def ah7 (w:ae) (l:List Rn) (e:Ending) (w':ae):Prop:=∃v,e= .returned v/\qz w w' v l/\Ext w w'
theorem xA {w0:ae} {j:Array Oper} {rest:List Oper} {o:Oper} {a:Act} {Q:Exit->Act->ae->Prop} (I:o.guard=none) (s x:Operand)
  (U:o.op= .call { callee:= .builtin .append,args:= #[s,x],argTypes:= #[33,33] })
  (v:au) (l:List Rn) (N:a.eval s=v) (e:qz w0 w v l) (J:Ext w0 w)
  (A:Option Addr) (m c:Nat) (r:List Rn) (X:a.eval x= .slice A m c) (hm:r.length=m) (O:RnS w A r) (hb:l.length+r.length<=40000000)
  (h:∀f w',qz w0 w' f (l++r)->Ext w0 w'->w.grownBy w' v.ownBlock->(f.ownBlock=v.ownBlock\/f.ownBlock=some w.heap.size)->wpList pg j Q rest (a.put o.dst f) w'):wpList pg j Q (o::rest) a w:=by
 refine wpList_plain I λK Y=>?_
 obtain⟨i,hi,H,z,u⟩:=dK afz;subst hm;obtain⟨f,w',q,h2,M,Z⟩:=kL (P:=pg) w w0.heap.size 33 o.type 40 i _ 7 40 underlying33 hi H z u rfl ω v l.length _ e A r.length c _ (jR Ih r) O (lI ZY r)
  (by unfold maxLen;omega) ω J.size
 unfold Oper.wp execOp;simp only[U,resolve,invoke,builtin,dG,gW,dc,fc,bA,dt,N,X,q];refine Y _ _ (h f w' ?_ (J.grown M (jQ.lt e)) M Z);unfold qz jQ;rw[kQ,ag];exact h2
def kI (W:ae) (g:Nat) (x:It):Prop:=W.heap[g]? =some (.cells #[Vu x.c,Vu x.k,Vu x.lc,Vu x.lk,Vu x.rc,Vu x.rk,.int .i32 x.ch] 106 (0,0))
theorem kI.grown {W':ae} {row:Option Nat} (h:kI W g x) (a:W.grownBy W' row) (hn:some g≠row):kI W' g x:=by
 unfold kI at h⊢;rw[a.block g (an.1 h).1 hn];exact h
theorem kI.ext {W':ae} (h:kI W g x) (a:Ext W W'):kI W' g x:=by
 unfold kI at h⊢;rw[av a g (an.1 h).1];exact h
theorem kI.cells (h:kI W g x):ItC W g 0 x:=
 ⟨by rw[aj W g 0 _ _ _ h];rfl,by rw[aj W g (0+1) _ _ _ h];rfl,by rw[aj W g (0+2) _ _ _ h];rfl,by rw[aj W g (0+3) _ _ _ h];rfl,by rw[aj W g (0+4) _ _ _ h];rfl,by rw[aj W g (0+5) _ _ _ h];rfl,by rw[aj W g (0+6) _ _ _ h];rfl⟩
theorem kI.lt (h:kI W g x):g<W.heap.size:=(an.1 h).1
end
section
attribute [local go_sem] ah
attribute [local go_sem ↓] Zf
def okB (c:Int):Bool:=decide (0<=c/\c<=1114111/\(c<55296\/57343<c))
variable {x:It}
theorem ae0 (h:x.c=0\/4294967294<x.k+1):∃e:Int,(e=1\/e=4)/\om x.c x.k 1 4294967294=(0,0,e):=by
 unfold om;by_cases a:x.c=0
 ·exact⟨1,.inl rfl,by rw[if_pos ω]⟩
 ·exact⟨4,.inr rfl,by rw[if_neg ω,if_pos ω]⟩
theorem acH (h:x.c≠0) (a:x.k+1<=4294967294):om x.c x.k 1 4294967294=(x.c,x.k+1,0):=by
 unfold om;rw[if_neg ω,if_neg ω]
theorem afr {y:It} (h:x.c=0\/4294967294<x.k+1):onI x y=false:=by unfold onI;rw[decide_eq_false_iff_not];omega
theorem adK {y:It} (h:x.c≠0) (a:x.k+1<=4294967294):onI x y=(BP y.c y.k x.c (x.k+1)&&BP y.lc y.lk x.c x.k&&BP y.rc y.rk x.rc x.rk):=by
 unfold onI BP;rw[dC];simp;omega
theorem aeL {p:Prop} (h:p:=by
 replace x1:=(((Ext.refl w).alloc _).alloc _).trans x1;generalize w.heap.size+1=pb at*;generalize w.heap.size=pa at*;cases g1:BP y.c y.k x.c (x.k+1) <;> cases g2:BP y.lc y.lk x.c x.k <;> cases g3:BP y.rc y.rk x.rc x.rk
 all_goals
  go_wp2;go_ret;exact⟨by rw[g1,g2,g3];rfl,x1.alloc _⟩):p:=h
theorem Rl (x y:It) (w:ae) (H:0<=x.k) (u:x.k<=4294967295):Calls pg 89 #[itv x,itv y] w λe w'=>e= .returned (.bool (onI x y))/\Ext w w':=by
 by_cases f:x.c=0\/4294967294<x.k+1
 ·obtain⟨z,J,q⟩:=ae0 f
  rw[afr f];clear f;have a:=ac (λW=>KA W q ω H u ω ω ω ω);clear q;go_enter func89,ntmps89
  go_wp2_with fail
  refine(a.out _).mono ?_;rintro e I ⟨rfl,x1⟩;replace x1:=(((Ext.refl w).alloc _).alloc _).trans x1;go_wp2;go_ret;exact⟨rfl,x1.alloc _⟩
 ·have j:x.c≠0:=ω
  have i:x.k+1<=4294967294:=ω
  rw[adK j i];have a:=ac (λW=>zC W (acH j i) H u ω ω ω ω);clear f j i;go_enter func89,ntmps89
  go_wp2_with fail
  refine(a.out _).mono ?_;rintro e I ⟨rfl,x1⟩;have a0:=x1.keep (p:=⟨w.heap.size,0,none⟩) (v:=Vu x.c) σ;have Z:=x1.keep (p:=⟨w.heap.size,1,none⟩) (v:=Vu x.k) σ;have Y:=x1.keep (p:=⟨w.heap.size,4,none⟩) (v:=Vu x.rc) σ;have X:=x1.keep (p:=⟨w.heap.size,5,none⟩) (v:=Vu x.rk) σ;have U:=x1.keep (p:=⟨w.heap.size+1,0,none⟩) (v:=Vu y.c) σ;have Q:=x1.keep (p:=⟨w.heap.size+1,1,none⟩) (v:=Vu y.k) σ;have O:=x1.keep (p:=⟨w.heap.size+1,2,none⟩) (v:=Vu y.lc) σ;have N:=x1.keep (p:=⟨w.heap.size+1,3,none⟩) (v:=Vu y.lk) σ;have M:=x1.keep (p:=⟨w.heap.size+1,4,none⟩) (v:=Vu y.rc) σ;have K:=x1.keep (p:=⟨w.heap.size+1,5,none⟩) (v:=Vu y.rk) σ;exact aeL
end
section
attribute [local go_sem] ah
variable {k:Nat} {l:List It} {x:It}
theorem Ik {a:Type} {l:List a} {p:a} (h:l[k]? =some p):l.drop k=p::l.drop (k+1):=by
 obtain⟨f,e⟩:=List.getElem?_eq_some_iff.1 h;rw[List.drop_eq_getElem_cons f,e]
theorem adw {y:It} (e:l[k]? =some x) (a:l[k+1]? =some y):tog (l.drop k)=if onI x y then tog (l.drop (k+1))+1 else 1:=by
 rw[Ik e,tog,Ik a];rfl
theorem XK (a:l[k]? =some x) (e:l.length<=k+1):tog (l.drop k)=1:=by
 rw[Ik a,eu e];rfl
def Bh (l:List It):Prop:=∀x∈l,wfI x
theorem Bh.at (h:Bh l) (a:l[k]? =some x):wfI x:=h x (aD a)
structure ItG (w:ae) (b o:Nat) (x:It):Prop where
 c0:∀d os,(grow (eK w d) os).cell? ⟨b,o,none⟩=some (Vu x.c)
 c1:∀d os,(grow (eK w d) os).cell? ⟨b,o+1,none⟩=some (Vu x.k)
 c2:∀d os,(grow (eK w d) os).cell? ⟨b,o+2,none⟩=some (Vu x.lc)
 c3:∀d os,(grow (eK w d) os).cell? ⟨b,o+3,none⟩=some (Vu x.lk)
 c4:∀d os,(grow (eK w d) os).cell? ⟨b,o+4,none⟩=some (Vu x.rc)
 c5:∀d os,(grow (eK w d) os).cell? ⟨b,o+5,none⟩=some (Vu x.rk)
 c6:∀d os,(grow (eK w d) os).cell? ⟨b,o+6,none⟩=some (.int .i32 x.ch)
theorem ItC.jv {w:ae} {b o:Nat} (h:ItC w b o x):ItG w b o x:=⟨ai h.c0,ai h.c1,ai h.c2,ai h.c3,ai h.c4,ai h.c5,ai h.c6⟩
theorem KM (A:Option Addr) (n cap:Nat) (l:List It) (w:ae) (hv:ItS w A l) (hn:l.length=n) (h0:0<n) (M:Bh l) (hb:n<=40000000):
  Calls pg 53 #[.slice A n cap] w λe w'=>e= .returned (Vi (tog l:Int))/\Ext w w':=by
 replace hn:=ac hn;replace hv:=ac hv;replace M:=ac M;go_enter func53,ntmps53;go_wp2
 go_loopw [3] (λi W=>∃(k:Nat),k+1<=n/\i=Vi ((k:Int)+1)/\Hid (tog l=k+tog (l.drop k))/\Ext w W) (λi _=>n-(intOf i).toNat)
 case atStart=>exact⟨0,ω,rfl,ac ι,Ext.refl _⟩
 case round=>
  obtain⟨k,hk,rfl,hrel,I⟩:=hrel;obtain⟨b,o,x,rfl,J,d⟩:=hv.out.at (k:=k) (by rw[hn.out];omega);by_cases X:k+1<n
  ·obtain⟨b',o',y,e,O,U⟩:=hv.out.at (k:=k+1) (by rw[hn.out];omega)
   injection e with e;injection e with e1 e2;subst e1;subst e2;have z:=M.out.at J;have H:=ac (adw J O);clear J O;obtain⟨r0,r1,r2,r3,r4,r5,r6⟩:=(d.ext I).jv;obtain⟨s0,s1,s2,s3,s4,s5,s6⟩:=(U.ext I).jv;clear d U;have N:IntKind.i64.wrap ((k:Int)+1-1)=(k:Int):=by rw[show((k:Int)+1-1)=(k:Int) by omega];exact IntWalk.i64_in _ ω
   have hg:decide ((k:Int)+1<(n:Int))=true:=by rw[decide_eq_true_eq];omega
   have a1:(0:Int)<=(k:Int):=ω
   have a0:(k:Int)<(n:Int):=ω
   have Z:(0:Int)<=(k:Int)+1:=ω
   have Y:(k:Int)+1<(n:Int):=ω
   have ht:((k:Int)+1).toNat=k+1:=ω
   have f:=ac (λW=>Rl x y W z.2.2.1 z.2.2.2.1);cases q:onI x y with
   |true=>
    rw[q] at f;have K:=ac (show tog (l.drop k)=tog (l.drop (k+1))+1 by rw[H.out,q];rfl);clear q z H
    go_wp2_with fail
    refine ax κ κ ?_
    repeat go_big_quiet_step((with_reducible exact Calls.jA (f.out _)))
    refine bh ?_;intro _ u;obtain⟨⟨Q,osq⟩,j⟩:=u;subst j;go_wp2
    go_roundw
    case rel=>exact⟨k+1,ω,ν,ac (by rw[hrel.out,K.out];omega),I.trans (Ext.jv _ _ _)⟩
    case measure=>simp[intOf];omega
   |false=>
    rw[q] at f;have K:=ac (show tog (l.drop k)=1 by rw[H.out,q];rfl);clear q z H
    go_wp2_with fail
    refine ax κ κ ?_
    repeat go_big_quiet_step((with_reducible exact Calls.jA (f.out _)))
    refine bh ?_;intro _ u;obtain⟨⟨Q,osq⟩,j⟩:=u;subst j;go_wp2;go_ret;exact⟨l7 (a:=(k:Int)+1) (by rw[hrel.out,K.out];simp),I.trans (Ext.jv _ _ _)⟩
  ·have K:=ac (XK J (by rw[hn.out];omega))
   clear J d;have hg:decide ((k:Int)+1<(n:Int))=false:=by rw[decide_eq_false_iff_not];omega
   go_wp2_with fail
   refine ax κ κ ?_
   repeat go_big_quiet_step(fail)
   refine bh ?_;intro _ u;obtain⟨⟨Q,osq⟩,j⟩:=u;subst j;go_wp2;go_ret;exact⟨l7 (a:=(k:Int)+1) (by rw[hrel.out,K.out];simp),I.trans (Ext.jv _ _ _)⟩
end
section
attribute [local go_sem] ah calm jL jH
theorem aeJ (c:Int):Utf8.encode c=⟨(aY c).toArray⟩:=by
 have hv:Utf8.valid c=decide ((0<=c/\c<55296)\/(57344<=c/\c<=1114111)):=by
  unfold Utf8.valid;rw[dC];simp
 have key:∀n:Nat,(if Utf8.valid c=true then c.toNat else Utf8.runeError)=n->Utf8.encode c=(if n<0x80 then⟨#[bR n]⟩ else if n<0x800 then⟨#[bR (0xC0+n/64),bR (0x80+n%64)]⟩ else if n<0x10000 then⟨#[bR (0xE0+n/4096),bR (0x80+n/64%64),bR (0x80+n%64)]⟩ else⟨#[bR (0xF0+n/262144),bR (0x80+n/4096%64),bR (0x80+n/64%64),bR (0x80+n%64)]⟩):=by
  intro n hn;subst hn;rfl
 by_cases a:(0<=c/\c<55296)\/(57344<=c/\c<=1114111)
 ·obtain⟨n,rfl⟩:∃n:Nat,c=(n:Int):=⟨c.toNat,ω⟩
  rw[key n (by rw[hv,if_pos (decide_eq_true a),bJ])];clear key hv;unfold aY;by_cases j:n<128
  ·rw[if_pos j,Lib.encodeRuneZ_one ω ω,bA,dt,bJ]
  ·rw[if_neg j]
   by_cases i:n<2048
   ·rw[if_pos i,Lib.encodeRuneZ_two ω ω,bA,bA,dt]
    rw[show((192:Int)+(n:Int)/64).toNat=192+n/64 by omega,show((128:Int)+(n:Int)%64).toNat=128+n%64 by omega]
   ·rw[if_neg i]
    by_cases f:n<65536
    ·rw[if_pos f,Lib.encodeRuneZ_three ω,bA,bA,bA,dt]
     rw[show((224:Int)+(n:Int)/4096).toNat=224+n/4096 by omega,show((128:Int)+(n:Int)/64%64).toNat=128+n/64%64 by omega,show((128:Int)+(n:Int)%64).toNat=128+n%64 by omega]
    ·rw[if_neg f,Lib.encodeRuneZ_four ω ω,bA,bA,bA,bA,dt]
     rw[show((240:Int)+(n:Int)/262144).toNat=240+n/262144 by omega,show((128:Int)+(n:Int)/4096%64).toNat=128+n/4096%64 by omega,show((128:Int)+(n:Int)/64%64).toNat=128+n/64%64 by omega,show((128:Int)+(n:Int)%64).toNat=128+n%64 by omega]
 ·rw[key 65533 (by rw[hv,if_neg (by rw[decide_eq_false a];simp)];rfl)]
  have e:Lib.encodeRuneZ c=[239,191,189]:=by
   unfold Lib.encodeRuneZ;rw[if_neg ω,if_neg ω,if_neg ω,if_neg ω]
  unfold aY;rw[e];rfl
end
section
attribute [local go_sem] ah
section
variable {W:ae} {c ch k lc lk rc rk:Int} {g:Nat}
theorem jQ.away {t:TypeId} {s:Nat} {w W':ae} {v:au} {n:Nat} {xs:List au} (h:jQ t s w W v n xs) (a:∀g,v.ownBlock=some g->W'.heap[g]? =W.heap[g]?):jQ t s w W' v n xs:=by
 unfold jQ at h⊢;rcases h with⟨h1,h2|⟨g,cap,cur,h2,h3,h4,h5⟩⟩
 ·exact⟨h1,.inl h2⟩
 ·refine⟨h1,.inr ⟨g,cap,cur,h2,h3,?_,h5⟩⟩
  rw[a g (by rw[h2];rfl)];exact h4
theorem jS.away {w W W':ae} {v:au} {l:List It} (h:jS w W v l) (a:∀g,v.ownBlock=some g->W'.heap[g]? =W.heap[g]?):jS w W' v l:=jQ.away h a
theorem Ext.iterAt {a w:ae} (h:Ext a w) {k:Nat} (f:a.heap.size<=k) (s:ByteArray) (e:Nat):Ext a (w.iterAt k s e):=Lib.below_iterAt h f s e
theorem kI.iterAt {W:ae} {g k:Nat} {x:It} (h:kI W g x) (e:g≠k) (s:ByteArray) (a:Nat):kI (W.iterAt k s a) g x:=by
 unfold kI at h⊢;rw[Lib.iterAt_other W k g s a e];exact h
theorem kI.frozen {W:ae} {g:Nat} {x:It} (h:kI W g x) (j:Nat):W.frozen? ⟨g,j,none⟩=false:=frozen_of_row W g j _ _ h
theorem kI.new (W:ae) (x:It):kI (W.alloc (.cells #[.int .u32 x.c,.int .u32 x.k,.int .u32 x.lc,.int .u32 x.lk,.int .u32 x.rc,.int .u32 x.rk,.int .i32 x.ch] 106)) W.heap.size x:=heap_alloc_new W _
theorem Q0 {l:List UInt8} {a v n:Nat} (e:jK (l.drop a)=v::jK (l.drop (a+n))):jT c k lc lk rc rk (jK (l.drop a))=(⟨c,k,lc,lk,rc,rk,(v:Int)⟩:It)::jT c (k+1) c k rc rk (jK (l.drop (a+n))):=by
 rw[e];rfl
theorem ItS.adO {w:ae} (x:It) (h:w.heap.size=g):ItS (w.alloc (.cells #[.int .u32 x.c,.int .u32 x.k,.int .u32 x.lc,.int .u32 x.lk,.int .u32 x.rc,.int .u32 x.rk,.int .i32 x.ch] 106)) (some ⟨g,0,none⟩) [x]:=by
 subst h;exact ItS.new w x
theorem kI.adC (h:kI W g ⟨c,k,lc,lk,rc,rk,ch⟩) (u:Int):kI (W.setCell ⟨g,6,none⟩ (.int .i32 u)) g ⟨c,k,lc,lk,rc,rk,u⟩:=al W g 6 _ _ _ h
theorem kI.set1 (h:kI W g ⟨c,k,lc,lk,rc,rk,ch⟩) (u:Int):kI (W.setCell ⟨g,1,none⟩ (.int .u32 u)) g ⟨c,u,lc,lk,rc,rk,ch⟩:=al W g 1 _ _ _ h
theorem kI.set2 (h:kI W g ⟨c,k,lc,lk,rc,rk,ch⟩) (u:Int):kI (W.setCell ⟨g,2,none⟩ (.int .u32 u)) g ⟨c,k,u,lk,rc,rk,ch⟩:=al W g 2 _ _ _ h
theorem kI.ag5 (h:kI W g ⟨c,k,lc,lk,rc,rk,ch⟩) (u:Int):kI (W.setCell ⟨g,3,none⟩ (.int .u32 u)) g ⟨c,k,lc,u,rc,rk,ch⟩:=al W g 3 _ _ _ h
def acQ (w0:ae) (q e:Nat) (s:ByteArray) (c rc rk:Int) (L:List It) (v:au) (W:ae):Prop:=
 ∃(a:Nat) (o:List It) (k lc lk ch:Int),a<=s.size/\Hid (jS w0 W v o)/\Hid (kI W q ⟨c,k,lc,lk,rc,rk,ch⟩)/\Hid (W.heap[e]? =some (.stringIter s a))/\Ext w0 W/\
  Hid (o++jT c k lc lk rc rk (jK (s.data.toList.drop a))=L)/\0<=k/\Hid (k+(jK (s.data.toList.drop a)).length<=4294967295)/\Hid (∀g,v.ownBlock=some g->g≠q/\g≠e)
theorem M8 (w0 W:ae) (v:au) (o:List It) (r:Rn) (Y:jS w0 W v o) (hx:Ext w0 W) (hm:r.k+(jK r.t).length<=4294967295) (a6:0<=r.k) (hL:(o++mF r).length<=20000000):
  Calls pg 66 #[v,rnv r] W (Xj w0 (o++mF r)):=by
 obtain⟨L,a3⟩:∃L,o++mF r=L:=⟨_,rfl⟩;rw[a3] at hL⊢;obtain⟨s,hs⟩:∃s:ByteArray,s=⟨r.t.toArray⟩:=⟨_,rfl⟩;have a1:s.data.toList=r.t:=by rw[hs]
 have I:s.data.toList.length=s.size:=(Lib.size_eq s).symm;show Calls pg 66 #[v,.agg #[.int .u32 r.c,.int .u32 r.k,.int .u32 r.lc,.int .u32 r.lk,.int .u32 r.rc,.int .u32 r.rk,.string ⟨r.t.toArray⟩]] W (Xj w0 L);rw[<-hs];have j:=ac (show o++jT r.c r.k r.lc r.lk r.rc r.rk (jK (s.data.toList.drop 0))=L by rw[cH,a1];exact a3);have J:=ac (show r.k+(jK (s.data.toList.drop 0)).length<=4294967295 by rw[cH,a1];exact hm);have a4:=ac (λg (f:v.ownBlock=some g)=>(Y.lt g f).2);replace Y:=ac Y;clear a3 hm a1 hs;replace I:=ac I;go_enter func66,ntmps66;go_wp2;have hq:w0.heap.size<=W.heap.size+1:=by have:=hx.size;omega
 go_loopw [0] (acQ w0 (W.heap.size+1) (W.heap.size+1+1) s r.c r.rc r.rk L) (λ_ X=>s.size-X.iterPos (W.heap.size+1+1))
 case atStart=>
  refine⟨0,o,r.k,r.lc,r.lk,0,bN _,ac (Y.out.ext (((Ext.refl _).alloc _).alloc _|>.alloc _)),ac ?_,ac ?_,((hx.alloc _).alloc _).alloc _,j,a6,J,ac λg f=>?_⟩
  ·refine kI.ext ?_ ((Ext.refl _).alloc _)
   have h:=kI.new (W.alloc (aT #[ao ak r.c,ao ak r.k,ao ak r.lc,ao ak r.lk,ao ak r.rc,ao ak r.rk,jd s] 40)) ⟨r.c,r.k,r.lc,r.lk,r.rc,r.rk,0⟩;rw[show(W.alloc (aT #[ao ak r.c,ao ak r.k,ao ak r.lc,ao ak r.lk,ao ak r.rc,ao ak r.rk,jd s] 40)).heap.size=W.heap.size+1 by simp] at h;exact h
  ·have h:=World.iter_heap ((W.alloc (aT #[ao ak r.c,ao ak r.k,ao ak r.lc,ao ak r.lk,ao ak r.rc,ao ak r.rk,jd s] 40)).alloc (aT #[ao ak r.c,ao ak r.k,ao ak r.lc,ao ak r.lk,ao ak r.rc,ao ak r.rk,ao IntKind.i32 0] 106)) s 0
   simpa using h
  ·have:=a4.out g f;omega
 case round=>
  clear j J Y a4;obtain⟨a,o,k,lc,lk,ch,d1,Y,nS,M,a0,j,a6,J,O⟩:=hrel;generalize d3:W.heap.size+1=q at*;have b2:q≠q+1:=ω
  by_cases hp:a<s.size
  ·have b6:∀Z,(Instr.next (.pointer (some ⟨q+1,0,none⟩)) true Z).run pg wr=_:=λZ=>Lib.run_next_any_at wr (q+1) s a Z M.out hp
   have N:=Lib.decodeL_drop s a;have a2:s.data.toList.drop a≠[]:=TV (by rw[I.out];exact hp);have b0:=Lib.decodeL_width (s.data.toList.drop a);have b1:=Lib.decodeL_rune (s.data.toList.drop a);have a5:=Lib.decodeL_le (s.data.toList.drop a) a2;rw[List.length_drop,I.out] at a5;have U:=ac (oH (s.data.toList.drop a) a2);rw[List.drop_drop,N] at U;rw[N] at b0 b1 a5;clear a2 N;generalize d7:(Utf8.decode s a).1=u at*;generalize d9:(Utf8.decode s a).2=H at*;have K:=J.out;rw[U.out,ar] at K;have a7:=ac (show o++[(⟨r.c,k,lc,lk,r.rc,r.rk,(u:Int)⟩:It)]++jT r.c (k+1) r.c k r.rc r.rk (jK (s.data.toList.drop (a+H)))=L by rw[<-j.out,Q0 U.out];simp);have d6:o.length+1<=20000000:=by
        have:=congrArg List.length a7.out;simp only[ag,ar,aG] at this;omega
   have b7:=ac (show k+1+(jK (s.data.toList.drop (a+H))).length<=4294967295 by omega);have d2:ak.wrap (k+1)=k+1:=IntWalk.u32_in _ ω;have TF:=ac (nS.out.iterAt b2 s (a+H));have a9:=ac (Lib.iterAt_heap wr (q+1) s a (a+H) M.out);have b9:=a0.iterAt (k:=q+1) ω s (a+H);have b5:=ac (Y.out.away (W':=wr.iterAt (q+1) s (a+H)) λg f=>Lib.iterAt_other wr (q+1) g s (a+H) (O.out g f).2);have b4:wr.iterPos (q+1)=a:=by simp only[iN,M.out]
   clear j J U K Y nS M a0;obtain⟨c0,c1,c2,c3,c4,c5,c6⟩:=TF.out.cells;simp only[aW] at c0 c1 c2 c3 c4 c5 c6;have f6:=TF.out.frozen 6;generalize b8:wr.iterAt (q+1) s (a+H)=W1 at*;clear b8;have d5:q<W1.heap.size:=TF.out.lt;have d4:q+1<W1.heap.size:=(an.1 a9.out).1
   go_wp2_with(first
        |(at_builtin
          refine kK (w0:=w0) rfl (.tmp 23) (.tmp 25) rfl _ o rfl ((b5.out.away (W':=W1.setCell ⟨q,6,none⟩ (.int .i32 (u:Int))) λg f=>bV _ _ _ _ (O.out g f).1).ext ((Ext.refl _).alloc _)) ((b9.setCell hq _).alloc _) _ 1 1 [(⟨r.c,k,lc,lk,r.rc,r.rk,(u:Int)⟩:It)] rfl rfl (ItS.adO _ ι) (by simp only[ar,aG];omega) ?_;intro v3 w3 o3 x3 g3 b3;have i:=kI.grown ((TF.out.adC (u:Int)).ext ((Ext.refl _).alloc (aT #[ao ak r.c,ao ak k,ao ak lc,ao ak lk,ao ak r.rc,ao ak r.rk,ao IntKind.i32 (u:Int)] 106))) g3 (λe=>(O.out q e.symm).1 rfl);have Q:w3.heap[q+1]? =some (.stringIter s (a+H)):=by
           rw[g3.block (q+1) (by simp;omega) (λe=>(O.out (q+1) e.symm).2 rfl)];rw[Lib.alloc_old _ _ _ (by simp;omega),bV _ _ _ _ ι];exact a9.out
          have V7:∀g,v3.ownBlock=some g->g≠q/\g≠q+1:=λg f=>by
           rcases b3 with e|e
           ·exact O.out g (e.symm.trans f)
           ·rw[e] at f
            injection f with f;have:g=W1.heap.size+1:=by rw[<-f];simp
            omega
          replace o3:=ac o3;replace i:=ac i;replace Q:=ac Q;replace V7:=ac V7;clear c0 c1 c2 c3 c4 c5 c6 f6 g3 b3;obtain⟨c0,c1,c2,c3,c4,c5,c6⟩:=i.out.cells;simp only[aW] at c0 c1 c2 c3 c4 c5 c6;have f1:=i.out.frozen 1;have f2:=i.out.frozen 2;have f3:=i.out.frozen 3))
   go_roundw
   case rel=>
        refine⟨a+H,_,k+1,r.c,k,(u:Int),ω,ac (o3.out.away λg f=>?_),ac (((i.out.set2 _).ag5 _).set1 _),ac ?_,((x3.setCell hq _).setCell hq _).setCell hq _,a7,ω,b7,V7⟩
        ·rw[bV _ _ _ _ (V7.out g f).1,bV _ _ _ _ (V7.out g f).1,bV _ _ _ _ (V7.out g f).1]
        ·rw[bV _ _ _ _ ι,bV _ _ _ _ ι,bV _ _ _ _ ι]
         exact Q.out
   case measure=>
        have hE:(((w3.setCell ⟨q,2,none⟩ (.int .u32 r.c)).setCell ⟨q,3,none⟩ (.int .u32 k)).setCell ⟨q,1,none⟩ (.int .u32 (k+1))).iterPos (q+1)=a+H:=by
         simp only[iN];rw[bV _ _ _ _ ι,bV _ _ _ _ ι,bV _ _ _ _ ι,Q.out]
        show s.size-iN _ (q+1)<s.size-wr.iterPos (q+1);rw[b4];refine Nat.lt_of_le_of_lt (Nat.le_of_eq (congrArg (λz=>s.size-z) hE)) ?_;omega
  ·have b6:∀Z,(Instr.next (.pointer (some ⟨q+1,0,none⟩)) true Z).run pg wr=_:=λZ=>Lib.run_next_end_at wr (q+1) s a Z M.out hp
   have a8:=ac (show o=L by
        rw[<-j.out,eu (by rw[I.out];omega),qK];simp[jT])
   go_wp2;go_ret;exact⟨_,rfl,a8.out▸Y.out,a0⟩
def QM (l:List Rn):Prop:=∀r∈l,mZ r=true/\wfR r
theorem QZ {l:List Rn} {k:Nat} {r:Rn} (h:l[k]? =some r):jr (l.take (k+1))=jr (l.take k)++mF r:=by
 rw[List.take_add_one,h,BM];simp[jr]
theorem VN {l:List Rn} (k:Nat):(jr (l.take k)).length<=(jr l).length:=by
 have h:jr l=jr (l.take k)++jr (l.drop k):=by rw[<-BM,List.take_append_drop]
 rw[h,ag];omega
theorem YM {r:Rn} (h:mZ r=true):r.k+(jK r.t).length<=4294967295/\r.c≠0/\ew r.t=true/\0<(jK r.t).length:=by
 unfold mZ at h;rw[decide_eq_true_eq] at h;exact⟨ω,h.2.2.1,h.1,h.2.1⟩
theorem DJ (A:Option Addr) (n cap:Nat) (l:List Rn) (w:ae) (hv:RnS w A l) (hn:l.length=n) (u:QM l) (Q:n<=4000000) (J:(jr l).length<=20000000):
  Calls pg 37 #[.slice A n cap] w (Xj w (jr l)):=by
 replace hn:=ac hn;replace hv:=ac hv;replace u:=ac u;replace J:=ac J;go_enter func37,ntmps37;go_wp2
 go_loopw [3,8] (λv i W=>∃(k:Nat),k<=n/\i=Vi k/\Hid (jS w W v (jr (l.take k)))/\Ext w W) (λ_ i _=>n-(intOf i).toNat)
 case atStart=>exact⟨0,bN _,rfl,ac (jS.nil _ _),Ext.refl _⟩
 case round=>
  obtain⟨k,O,rfl,H,q⟩:=hrel;by_cases I:k<n
  ·obtain⟨b,o,r,rfl,z,d⟩:=hv.out.at (k:=k) (by rw[hn.out];exact I)
   obtain⟨c0,c1,c2,c3,c4,c5,c6⟩:=d.ext q;have hm:=u.out r (aD z);have j:=ac (QZ z);have a:=VN (l:=l) (k+1);rw[j.out] at a;have f:=ac (λ(o:Obj)=>M8 w (wr.alloc o) _ _ r (H.out.ext ((Ext.refl _).alloc _)) (q.alloc _) (YM hm.1).1 hm.2.2.2.1 (Nat.le_trans a J.out));clear z d hm a
   go_wp2_with fail
   refine(f.out _).mono ?_;rintro e M ⟨N,rfl,o1,x1⟩;replace o1:=ac o1;go_wp2
   go_roundw
   case rel=>exact⟨k+1,ω,ν,ac (by rw[j.out];exact o1.out),x1⟩
   case measure=>simp[intOf];omega
  ·have K:=ac (show l.take k=l from List.take_of_length_le (by rw[hn.out];omega))
   rw[K.out] at H;go_wp2;go_ret;exact⟨_,rfl,H.out,q⟩
end
theorem Dy {r:Rn} (h:ew r.t=false\/(jK r.t).length=0\/r.c=0\/4294967294<r.k+(jK r.t).length-1):mZ r=false:=by
 unfold mZ;rw[decide_eq_false_iff_not];rintro⟨e,i,a,f⟩;rcases h with h|h|h|h
 ·rw[e] at h;cases h
 ·omega
 ·exact a h
 ·omega
theorem YL {r:Rn} (i:ew r.t=true) (f:0<(jK r.t).length) (e:r.c≠0) (a:r.k+(jK r.t).length-1<=4294967294):mZ r=true:=by
 unfold mZ;rw[decide_eq_true_eq];exact⟨i,f,e,a⟩
end
instance agY:Inhabited It:=⟨⟨0,0,0,0,0,0,0⟩⟩
instance:Inhabited Rn:=⟨⟨0,0,0,0,0,0,[]⟩⟩
theorem aft {i:Type} {l:List i} (h:l.length=7):∃a b c d e f g,l=[a,b,c,d,e,f,g]:=by
 match l,h with
 |[a,b,c,d,e,f,g],_=>exact⟨a,b,c,d,e,f,g,rfl⟩
theorem afu {e:Type} {l:List e} (h:l.length=4):∃a b c d,l=[a,b,c,d]:=by
 match l,h with
 |[a,b,c,d],_=>exact⟨a,b,c,d,rfl⟩
theorem UO {H:Type} {enc:TypeId×au->H} {W:ae} {base:Nat} {Q:Nat->Bool} {Y:Bool} (fuel:Nat) (u:List au) (x:DataW H×List MemPlace) (X:u.length=7) (h:DataW.trod enc pg W base Q Y fuel 40 u=some x):
  ∃q,(wfR q/\q.t.length<=maxLen)/\encR q=u:=by
 obtain⟨v0,v1,v2,v3,v4,v5,v6,rfl⟩:=aft X;obtain⟨xs,k,hk,U,_,j,i⟩:=DataW.trod_struct underlying40 h;obtain⟨y0,y1,y2,y3,rfl⟩:=afu j;have N:=i 0 _ rfl;have M:=i 1 _ rfl;have K:=i 2 _ rfl;have J:=i 3 _ rfl;have cu:pg.cellsOf 9=1:=κ
 have ci:pg.cellsOf 38=2:=κ
 simp[cu,ci] at N M K J;obtain⟨a,b,rfl,rfl,a1,a2,b1,b2⟩:=Hl N;obtain⟨c,d,rfl,rfl,c1,c2,d1,d2⟩:=Hl M;obtain⟨e,f,rfl,rfl,e1,e2,f1,Z⟩:=Hl K;obtain⟨z,I,_,O⟩:=DataW.trod_string underlying9 J;simp at I;subst I;refine⟨⟨a,b,c,d,e,f,z.data.toList⟩,⟨⟨a1,a2,b1,b2,c1,c2,d1,d2,e1,e2,f1,Z⟩,?_⟩,?_⟩
 ·simpa using O
 ·simp[encR]
end Go.Proofs.YtncfhbpejchbfaaGreatDoor

/-
  Lemmas of this seat; no claim.
-/
import Derived.Lib.OthersKept
import Derived.Test.YtejbpijamdlgcaaGreatDoorPSf1
import Derived.Test.YtejbpijamdlgcaaGreatDoorPWf1
set_option linter.unusedVariables false
set_option linter.unusedSimpArgs false
set_option maxRecDepth 100000
set_option maxHeartbeats 4000000
open Array renaming getElem?_eq_some_iff→aC
open Bool renaming eq_iff_iff→gu
open Go renaming Value→aI,World→aj,cell_of_row→ak,cell_regrown→av,heap_setCell_same→aB,info_parts→gJ,redrawn→iY,wpQuiet_nil→bQ,wp_region_quiet_below→aL
open Go.Builtin renaming append_→fG,firstCells→jB,lenOf→lJ
open Go.Instr renaming slice→fE
open Go.IntKind renaming u32→aA
open Go.Lib renaming encodeRune→bK,hid→ah,validD→iJ
open Go.Obj renaming cells→bF
open Go.Result renaming andThen_ok→eD
open Go.RowKit.Below renaming block→aJ,heap_setCell→dP
open Go.Sem renaming run_bind→fQ,run_pure→kP
open Go.Value renaming int→aG,string→nJ
open Go.World renaming cell?_alloc_some→au,iterPos→mR
open Go.World.ownsRow renaming kept→kS,lt→dM
open Int renaming toNat_natCast→dx
open List renaming drop_eq_nil_of_le→gW,drop_zero→dX,getElem?_eq_getElem→aO,length_append→ay,length_cons→aH,length_nil→aR,map_cons→bU,map_nil→fH,map_toArray→iV,mem_of_getElem?→aP
open Nat renaming zero_add→bH,zero_le→cK
open UInt8 renaming ofNat→dW
namespace Go.Proofs.YtejbpijamdlgcaaGreatDoor
open Go.ChangeShapes Go.WideShapes Go.ChangeAt Go.RowKit Go.Sort
section
variable {W w:aj} {g:Nat} {x:It}
theorem ql {P:Program} (w:aj) (base:Nat) (t X e:TypeId) (i:TypeInfo) (z:aI) (size bytes:Nat) (N:P.underlying t=some (.slice e)) (hi:P.info? e=some i) (hz:i.zero=some z)
  (H:i.size=size) (Q:i.bytes=bytes) (M:z.cells.size=size) (O:0<size)
  (v:aI) (n:Nat) (xs:List aI) (f:w.ownsRow base e size v n xs)
  (A:Option Addr) (m c:Nat) (a:List aI) (hl:a.length=m*size) (Z:Row w A a) (h1:∀u∈a,u.oneCell'=true)
  (U:n+m<=maxLen) (q:(n+m)*bytes<=140737488355328) (I:base<=w.heap.size):
  ∃J w',(fG #[t,t] X #[v,.slice A m c]).run P w= .ok J w'/\w'.ownsRow base e size J (n+m) (xs++a)/\w.grownBy w' v.ownBlock/\(J.ownBlock=v.ownBlock\/J.ownBlock=some w.heap.size):=by
 cases A with
 |none=>
  have h0:a=[]:=by
   cases a with
   |nil=>rfl
   |cons u us=>obtain⟨b,o,e,_⟩:=Z ι;cases e
  subst h0;have hm:m=0:=by
   have:=hl;simp only[aR] at this;rcases Nat.mul_eq_zero.1 this.symm with h|h
   ·exact h
   ·omega
  subst hm;refine⟨v,w,?_,by simpa using f,⟨rfl,rfl,rfl,Nat.le_refl _,λ_ _ _=>rfl⟩,.inl rfl⟩;rcases f.2 with⟨rfl,rfl⟩|⟨g,cap,cur,rfl,_,_,hnc,_⟩
  ·simp[fG,run_underlying N,sizeOf,typeInfo,hi,lJ,jB]
  ·simp[fG,run_underlying N,sizeOf,typeInfo,hi,lJ,jB,hnc,storeCells]
 |some ad=>
  obtain⟨J,w',K,h2,h3,_,h5⟩:=run_append_own_at (P:=P) w base t X e i z size bytes N hi hz H Q M O v n xs f ad m c a hl (λj u Y=>by
   obtain⟨b,o,e,hc⟩:=Z (by cases a <;> simp at Y⊢);injection e with e;subst e;rw[wU];exact hc j u Y) h1 U q I
  exact⟨J,w',K,h2,h3,h5⟩
def encI (x:It):List aI:=[Vu x.c,Vu x.k,Vu x.lc,Vu x.lk,Vu x.rc,Vu x.rk,.int .i32 x.ch]
abbrev itv (x:It):aI:= .agg #[.int .u32 x.c,.int .u32 x.k,.int .u32 x.lc,.int .u32 x.lk,.int .u32 x.rc,.int .u32 x.rk,.int .i32 x.ch]
theorem uq (p:It):(encI p).length=7:=rfl
theorem KE (p:It):∀u∈encI p,u.oneCell'=true:=by intro u a;simp[encI] at a;rcases a with rfl|rfl|rfl|rfl|rfl|rfl|rfl <;> rfl
theorem Q0:(Tryz.prog.info? 57).map (λi=>(i.zero,i.size,i.bytes))=some (some (.agg #[.int .u32 0,.int .u32 0,.int .u32 0,.int .u32 0,.int .u32 0,.int .u32 0,.int .i32 0]),7,28):=κ
def ItS (w:aj) (A:Option Addr) (l:List It):Prop:=Row w A (flat encI l)
theorem ItS.ext {w w':aj} {A:Option Addr} {l:List It} (h:ItS w A l) (a:Ext w w'):ItS w' A l:=Row.ext h a
structure ItC (w:aj) (b o:Nat) (x:It):Prop where
 c0:w.cell? ⟨b,o,none⟩=some (Vu x.c)
 c1:w.cell? ⟨b,o+1,none⟩=some (Vu x.k)
 c2:w.cell? ⟨b,o+2,none⟩=some (Vu x.lc)
 c3:w.cell? ⟨b,o+3,none⟩=some (Vu x.lk)
 c4:w.cell? ⟨b,o+4,none⟩=some (Vu x.rc)
 c5:w.cell? ⟨b,o+5,none⟩=some (Vu x.rk)
 c6:w.cell? ⟨b,o+6,none⟩=some (.int .i32 x.ch)
theorem ItC.ext {w':aj} {b o:Nat} (h:ItC w b o x) (a:Ext w w'):ItC w' b o x:=⟨a.keep h.c0,a.keep h.c1,a.keep h.c2,a.keep h.c3,a.keep h.c4,a.keep h.c5,a.keep h.c6⟩
theorem ItS.at {w:aj} {A:Option Addr} {l:List It} (h:ItS w A l) {k:Nat} (i:k<l.length):∃b o x,A=some ⟨b,o,none⟩/\l[k]? =some x/\ItC w b (o+k*7) x:=by
 obtain⟨x,f⟩:∃p,l[k]? =some p:=⟨l[k],aO i⟩;obtain⟨b,o,e,a⟩:=Row.at h uq f ω;exact⟨b,o,x,e,f,a 0 _ rfl,a 1 _ rfl,a 2 _ rfl,a 3 _ rfl,a 4 _ rfl,a 5 _ rfl,a 6 _ rfl⟩
theorem ItS.take {w:aj} {A:Option Addr} {l:List It} (h:ItS w A l) (k:Nat):ItS w A (l.take k):=by
 unfold ItS;rw[Dh uq];exact Row.take h _
theorem ItS.cut {w:aj} {A:Option Addr} {l:List It} (h:ItS w A l) {n cap k:Nat} (a:l.length=n) (f:n<=cap) (e:k<=n):ItS w (tX A cap k 7) (l.drop k):=by
 unfold ItS;rw[zN uq];exact Row.cut h (n:=n) (by rw[oV uq,a]) f e
theorem ItS.new (w:aj) (x:It):ItS (w.alloc (.cells #[.int .u32 x.c,.int .u32 x.k,.int .u32 x.lc,.int .u32 x.lk,.int .u32 x.rc,.int .u32 x.rk,.int .i32 x.ch] 57)) (some ⟨w.heap.size,0,none⟩) [x]:=Row.new w #[.int .u32 x.c,.int .u32 x.k,.int .u32 x.lc,.int .u32 x.lk,.int .u32 x.rc,.int .u32 x.rk,.int .i32 x.ch] 57
theorem ahV (A:Option Addr) (n cap k:Nat) (q:k<=n) (z:Int) (j:z=k) (W:aj):(fE 39 (.slice A n cap) (some (.int .i64 z)) none none).run Tryz.prog W= .ok (.slice (tX A cap k 7) (n-k) (cap-k)) W:=by
 subst j;obtain⟨i,hi,f,a,e⟩:=gJ Q0;have:=Bo Tryz.underlying39 hi A n cap k W ω ω;rw[a] at this;exact this
theorem ag3 (A:Option Addr) (n cap k:Nat) (q:k<=cap) (z:Int) (j:z=k) (W:aj):(fE 39 (.slice A n cap) none (some (.int .i64 z)) none).run Tryz.prog W= .ok (.slice A k cap) W:=by
 subst j;obtain⟨i,hi,f,e,a⟩:=gJ Q0;exact Bl Tryz.underlying39 hi A n cap k W ω ω
def oZ (w W:aj) (v:aI) (l:List It):Prop:=oW 57 7 w W v l.length (flat encI l)
theorem oZ.nil (w W:aj):oZ w W (.slice none 0 0) []:=oW.nil _ _ _ _
theorem oZ.ext {w W W':aj} {v:aI} {l:List It} (h:oZ w W v l) (a:Ext W W'):oZ w W' v l:=oW.ext h a
theorem oZ.down {w0 w W:aj} {v:aI} {l:List It} (h:oZ w W v l) (a:Ext w0 w):oZ w0 W v l:=oW.down h a
theorem oZ.lt {w W:aj} {v:aI} {l:List It} (h:oZ w W v l):∀k,v.ownBlock=some k->w.heap.size<=k/\k<W.heap.size:=dM h
theorem oZ.open {v:aI} {l:List It} (h:oZ w W v l):∃A c,v= .slice A l.length c/\l.length<=c/\ItS W A l:=by
 obtain⟨A,c,rfl,a⟩:=oW.form h;exact⟨A,c,rfl,a,oW.row h⟩
theorem oZ.kept {w W W':aj} {v:aI} {l:List It} {row:Option Nat} (h:oZ w W v l) (e:W.grownBy W' row) (a:v.ownBlock=none\/v.ownBlock≠row):oZ w W' v l:=kS h e a
def YR (w:aj) (l:List It) (e:Ending) (w':aj):Prop:=∃v,e= .returned v/\oZ w w' v l/\Ext w w'
theorem qj {w0:aj} {j:Array Oper} {rest:List Oper} {o:Oper} {a:Act} {Q:Exit->Act->aj->Prop} (I:o.guard=none) (s x:Operand)
  (U:o.op= .call { callee:= .builtin .append,args:= #[s,x],argTypes:= #[39,39] })
  (v:aI) (l:List It) (N:a.eval s=v) (e:oZ w0 w v l) (J:Ext w0 w)
  (A:Option Addr) (m c:Nat) (r:List It) (Y:a.eval x= .slice A m c) (X:r.length=m) (O:ItS w A r) (hb:l.length+r.length<=40000000)
  (h:∀f w',oZ w0 w' f (l++r)->Ext w0 w'->w.grownBy w' v.ownBlock->(f.ownBlock=v.ownBlock\/f.ownBlock=some w.heap.size)->wpList Tryz.prog j Q rest (a.put o.dst f) w'):wpList Tryz.prog j Q (o::rest) a w:=by
 refine wpList_plain I λK Z=>?_
 obtain⟨i,hi,H,z,u⟩:=gJ Q0;subst X;obtain⟨f,w',q,h2,M,h4⟩:=ql (P:=Tryz.prog) w w0.heap.size 39 o.type 57 i _ 7 28 Tryz.underlying39 hi H z u rfl ω v l.length _ e A r.length c _ (oV uq r) O (qy KE r)
  (by unfold maxLen;omega) ω J.size
 unfold Oper.wp execOp;simp only[U,resolve,invoke,builtin,fQ,kP,eD,iV,bU,fH,N,Y,q];refine Z _ _ (h f w' ?_ (J.grown M (oW.lt e)) M h4);unfold oZ oW;rw[qp,ay];exact h2
def encR (x:Rn):List aI:=[Vu x.c,Vu x.k,Vu x.lc,Vu x.lk,Vu x.rc,Vu x.rk,.string ⟨x.t.toArray⟩]
abbrev rnv (x:Rn):aI:= .agg #[.int .u32 x.c,.int .u32 x.k,.int .u32 x.lc,.int .u32 x.lk,.int .u32 x.rc,.int .u32 x.rk,.string ⟨x.t.toArray⟩]
theorem RO (p:Rn):(encR p).length=7:=rfl
theorem abv (p:Rn):∀u∈encR p,u.oneCell'=true:=by intro u a;simp[encR] at a;rcases a with rfl|rfl|rfl|rfl|rfl|rfl|rfl <;> rfl
theorem ahg:(Tryz.prog.info? 64).map (λi=>(i.zero,i.size,i.bytes))=some (some (.agg #[.int .u32 0,.int .u32 0,.int .u32 0,.int .u32 0,.int .u32 0,.int .u32 0,.string ⟨#[]⟩]),7,40):=κ
def RnS (w:aj) (A:Option Addr) (l:List Rn):Prop:=Row w A (flat encR l)
theorem RnS.ext {w w':aj} {A:Option Addr} {l:List Rn} (h:RnS w A l) (a:Ext w w'):RnS w' A l:=Row.ext h a
structure RnC (w:aj) (b o:Nat) (x:Rn):Prop where
 c0:w.cell? ⟨b,o,none⟩=some (Vu x.c)
 c1:w.cell? ⟨b,o+1,none⟩=some (Vu x.k)
 c2:w.cell? ⟨b,o+2,none⟩=some (Vu x.lc)
 c3:w.cell? ⟨b,o+3,none⟩=some (Vu x.lk)
 c4:w.cell? ⟨b,o+4,none⟩=some (Vu x.rc)
 c5:w.cell? ⟨b,o+5,none⟩=some (Vu x.rk)
 c6:w.cell? ⟨b,o+6,none⟩=some (.string ⟨x.t.toArray⟩)
theorem RnC.ext {w':aj} {b o:Nat} {x:Rn} (h:RnC w b o x) (a:Ext w w'):RnC w' b o x:=⟨a.keep h.c0,a.keep h.c1,a.keep h.c2,a.keep h.c3,a.keep h.c4,a.keep h.c5,a.keep h.c6⟩
theorem RnS.at {w:aj} {A:Option Addr} {l:List Rn} (h:RnS w A l) {k:Nat} (i:k<l.length):∃b o x,A=some ⟨b,o,none⟩/\l[k]? =some x/\RnC w b (o+k*7) x:=by
 obtain⟨x,f⟩:∃p,l[k]? =some p:=⟨l[k],aO i⟩;obtain⟨b,o,e,a⟩:=Row.at h RO f ω;exact⟨b,o,x,e,f,a 0 _ rfl,a 1 _ rfl,a 2 _ rfl,a 3 _ rfl,a 4 _ rfl,a 5 _ rfl,a 6 _ rfl⟩
theorem RnS.new (w:aj) (x:Rn):RnS (w.alloc (.cells #[.int .u32 x.c,.int .u32 x.k,.int .u32 x.lc,.int .u32 x.lk,.int .u32 x.rc,.int .u32 x.rk,.string ⟨x.t.toArray⟩] 64)) (some ⟨w.heap.size,0,none⟩) [x]:=Row.new w #[.int .u32 x.c,.int .u32 x.k,.int .u32 x.lc,.int .u32 x.lk,.int .u32 x.rc,.int .u32 x.rk,.string ⟨x.t.toArray⟩] 64
def vH (w W:aj) (v:aI) (l:List Rn):Prop:=oW 64 7 w W v l.length (flat encR l)
theorem vH.nil (w W:aj):vH w W (.slice none 0 0) []:=oW.nil _ _ _ _
theorem vH.ext {w W W':aj} {v:aI} {l:List Rn} (h:vH w W v l) (a:Ext W W'):vH w W' v l:=oW.ext h a
theorem vH.lt {w W:aj} {v:aI} {l:List Rn} (h:vH w W v l):∀k,v.ownBlock=some k->w.heap.size<=k/\k<W.heap.size:=dM h
theorem vH.open {v:aI} {l:List Rn} (h:vH w W v l):∃A c,v= .slice A l.length c/\l.length<=c/\RnS W A l:=by
 obtain⟨A,c,rfl,a⟩:=oW.form h;exact⟨A,c,rfl,a,oW.row h⟩
theorem vH.kept {w W W':aj} {v:aI} {l:List Rn} {row:Option Nat} (h:vH w W v l) (e:W.grownBy W' row) (a:v.ownBlock=none\/v.ownBlock≠row):vH w W' v l:=kS h e a
def ajH (w:aj) (l:List Rn) (e:Ending) (w':aj):Prop:=∃v,e= .returned v/\vH w w' v l/\Ext w w'
theorem AL {w0:aj} {j:Array Oper} {rest:List Oper} {o:Oper} {a:Act} {Q:Exit->Act->aj->Prop} (I:o.guard=none) (s x:Operand)
  (U:o.op= .call { callee:= .builtin .append,args:= #[s,x],argTypes:= #[41,41] })
  (v:aI) (l:List Rn) (N:a.eval s=v) (e:vH w0 w v l) (J:Ext w0 w)
  (A:Option Addr) (m c:Nat) (r:List Rn) (Y:a.eval x= .slice A m c) (X:r.length=m) (O:RnS w A r) (hb:l.length+r.length<=40000000)
  (h:∀f w',vH w0 w' f (l++r)->Ext w0 w'->w.grownBy w' v.ownBlock->(f.ownBlock=v.ownBlock\/f.ownBlock=some w.heap.size)->wpList Tryz.prog j Q rest (a.put o.dst f) w'):wpList Tryz.prog j Q (o::rest) a w:=by
 refine wpList_plain I λK Z=>?_
 obtain⟨i,hi,H,z,u⟩:=gJ ahg;subst X;obtain⟨f,w',q,h2,M,h4⟩:=ql (P:=Tryz.prog) w w0.heap.size 41 o.type 64 i _ 7 40 Tryz.underlying41 hi H z u rfl ω v l.length _ e A r.length c _ (oV RO r) O (qy abv r)
  (by unfold maxLen;omega) ω J.size
 unfold Oper.wp execOp;simp only[U,resolve,invoke,builtin,fQ,kP,eD,iV,bU,fH,N,Y,q];refine Z _ _ (h f w' ?_ (J.grown M (oW.lt e)) M h4);unfold vH oW;rw[qp,ay];exact h2
def pX (W:aj) (g:Nat) (x:It):Prop:=W.heap[g]? =some (.cells #[Vu x.c,Vu x.k,Vu x.lc,Vu x.lk,Vu x.rc,Vu x.rk,.int .i32 x.ch] 57 (0,0))
theorem pX.grown {W':aj} {row:Option Nat} (h:pX W g x) (e:W.grownBy W' row) (a:some g≠row):pX W' g x:=by
 unfold pX at h⊢;rw[e.block g (aC.1 h).1 a];exact h
theorem pX.ext {W':aj} (h:pX W g x) (a:Ext W W'):pX W' g x:=by
 unfold pX at h⊢;rw[aJ a g (aC.1 h).1];exact h
theorem pX.cells (h:pX W g x):ItC W g 0 x:=
 ⟨by rw[ak W g 0 _ _ _ h];rfl,by rw[ak W g (0+1) _ _ _ h];rfl,by rw[ak W g (0+2) _ _ _ h];rfl,by rw[ak W g (0+3) _ _ _ h];rfl,by rw[ak W g (0+4) _ _ _ h];rfl,by rw[ak W g (0+5) _ _ _ h];rfl,by rw[ak W g (0+6) _ _ _ h];rfl⟩
theorem pX.lt (h:pX W g x):g<W.heap.size:=(aC.1 h).1
end
section
attribute [local go_sem] au
attribute [local go_sem ↓] aaK
def okB (c:Int):Bool:=decide (0<=c/\c<=1114111/\(c<55296\/57343<c))
variable {x:It}
theorem agI (h:x.c=0\/4294967294<x.k+1):∃e:Int,(e=1\/e=4)/\tV x.c x.k 1 4294967294=(0,0,e):=by
 unfold tV;by_cases a:x.c=0
 ·exact⟨1,.inl rfl,by rw[if_pos ω]⟩
 ·exact⟨4,.inr rfl,by rw[if_neg ω,if_pos ω]⟩
theorem aen (h:x.c≠0) (a:x.k+1<=4294967294):tV x.c x.k 1 4294967294=(x.c,x.k+1,0):=by
 unfold tV;rw[if_neg ω,if_neg ω]
theorem aha {y:It} (h:x.c=0\/4294967294<x.k+1):onI x y=false:=by unfold onI;rw[decide_eq_false_iff_not];omega
theorem afs {y:It} (h:x.c≠0) (a:x.k+1<=4294967294):onI x y=(EN y.c y.k x.c (x.k+1)&&EN y.lc y.lk x.c x.k&&EN y.rc y.rk x.rc x.rk):=by
 unfold onI EN;rw[gu];simp;omega
theorem agu {p:Prop} (h:p:=by
 replace x1:=(((Ext.refl w).alloc _).alloc _).trans x1;generalize w.heap.size+1=pb at*;generalize w.heap.size=pa at*;cases g1:EN y.c y.k x.c (x.k+1) <;> cases g2:EN y.lc y.lk x.c x.k <;> cases g3:EN y.rc y.rk x.rc x.rk
 all_goals
  go_wp2;go_ret;exact⟨by rw[g1,g2,g3];rfl,x1.alloc _⟩):p:=h
theorem Uj (x y:It) (w:aj) (H:0<=x.k) (u:x.k<=4294967295):Calls Tryz.prog 89 #[itv x,itv y] w λe w'=>e= .returned (.bool (onI x y))/\Ext w w':=by
 by_cases f:x.c=0\/4294967294<x.k+1
 ·obtain⟨z,J,q⟩:=agI f
  rw[aha f];clear f;have a:=ah (λW=>ND W q ω H u ω ω ω ω);clear q;go_enter Tryz.func89,Tryz.ntmps89
  go_wp2_with fail
  refine(a.out _).mono ?_;rintro e I ⟨rfl,x1⟩;replace x1:=(((Ext.refl w).alloc _).alloc _).trans x1;go_wp2;go_ret;exact⟨rfl,x1.alloc _⟩
 ·have j:x.c≠0:=ω
  have i:x.k+1<=4294967294:=ω
  rw[afs j i];have a:=ah (λW=>Dj W (aen j i) H u ω ω ω ω);clear f j i;go_enter Tryz.func89,Tryz.ntmps89
  go_wp2_with fail
  refine(a.out _).mono ?_;rintro e I ⟨rfl,x1⟩;have a0:=x1.keep (p:=⟨w.heap.size,0,none⟩) (v:=Vu x.c) σ;have Z:=x1.keep (p:=⟨w.heap.size,1,none⟩) (v:=Vu x.k) σ;have Y:=x1.keep (p:=⟨w.heap.size,4,none⟩) (v:=Vu x.rc) σ;have X:=x1.keep (p:=⟨w.heap.size,5,none⟩) (v:=Vu x.rk) σ;have U:=x1.keep (p:=⟨w.heap.size+1,0,none⟩) (v:=Vu y.c) σ;have Q:=x1.keep (p:=⟨w.heap.size+1,1,none⟩) (v:=Vu y.k) σ;have O:=x1.keep (p:=⟨w.heap.size+1,2,none⟩) (v:=Vu y.lc) σ;have N:=x1.keep (p:=⟨w.heap.size+1,3,none⟩) (v:=Vu y.lk) σ;have M:=x1.keep (p:=⟨w.heap.size+1,4,none⟩) (v:=Vu y.rc) σ;have K:=x1.keep (p:=⟨w.heap.size+1,5,none⟩) (v:=Vu y.rk) σ;exact agu
end
section
attribute [local go_sem] au
variable {k:Nat} {l:List It} {x:It}
theorem KF {a:Type} {l:List a} {p:a} (h:l[k]? =some p):l.drop k=p::l.drop (k+1):=by
 obtain⟨f,e⟩:=List.getElem?_eq_some_iff.1 h;rw[List.drop_eq_getElem_cons f,e]
theorem afe {y:It} (e:l[k]? =some x) (a:l[k+1]? =some y):tog (l.drop k)=if onI x y then tog (l.drop (k+1))+1 else 1:=by
 rw[KF e,tog,KF a];rfl
theorem Zf (a:l[k]? =some x) (e:l.length<=k+1):tog (l.drop k)=1:=by
 rw[KF a,gW e];rfl
def Eo (l:List It):Prop:=∀x∈l,wfI x
theorem Eo.at (h:Eo l) (a:l[k]? =some x):wfI x:=h x (aP a)
structure ItG (w:aj) (b o:Nat) (x:It):Prop where
 c0:∀d os,(grow (iY w d) os).cell? ⟨b,o,none⟩=some (Vu x.c)
 c1:∀d os,(grow (iY w d) os).cell? ⟨b,o+1,none⟩=some (Vu x.k)
 c2:∀d os,(grow (iY w d) os).cell? ⟨b,o+2,none⟩=some (Vu x.lc)
 c3:∀d os,(grow (iY w d) os).cell? ⟨b,o+3,none⟩=some (Vu x.lk)
 c4:∀d os,(grow (iY w d) os).cell? ⟨b,o+4,none⟩=some (Vu x.rc)
 c5:∀d os,(grow (iY w d) os).cell? ⟨b,o+5,none⟩=some (Vu x.rk)
 c6:∀d os,(grow (iY w d) os).cell? ⟨b,o+6,none⟩=some (.int .i32 x.ch)
theorem ItC.nX {w:aj} {b o:Nat} (h:ItC w b o x):ItG w b o x:=⟨av h.c0,av h.c1,av h.c2,av h.c3,av h.c4,av h.c5,av h.c6⟩
theorem NS (A:Option Addr) (n cap:Nat) (l:List It) (w:aj) (hv:ItS w A l) (K:l.length=n) (h0:0<n) (N:Eo l) (hb:n<=40000000):
  Calls Tryz.prog 50 #[.slice A n cap] w λe w'=>e= .returned (Vi (tog l:Int))/\Ext w w':=by
 replace K:=ah K;replace hv:=ah hv;replace N:=ah N;go_enter Tryz.func50,Tryz.ntmps50;go_wp2
 go_loopw [3] (λi W=>∃(k:Nat),k+1<=n/\i=Vi ((k:Int)+1)/\Hid (tog l=k+tog (l.drop k))/\Ext w W) (λi _=>n-(intOf i).toNat)
 case atStart=>exact⟨0,ω,rfl,ah ι,Ext.refl _⟩
 case round=>
  obtain⟨k,hk,rfl,hrel,I⟩:=hrel;obtain⟨b,o,x,rfl,J,d⟩:=hv.out.at (k:=k) (by rw[K.out];omega);by_cases Y:k+1<n
  ·obtain⟨b',o',y,e,Q,X⟩:=hv.out.at (k:=k+1) (by rw[K.out];omega)
   injection e with e;injection e with e1 e2;subst e1;subst e2;have z:=N.out.at J;have H:=ah (afe J Q);clear J Q;obtain⟨r0,r1,r2,r3,r4,r5,r6⟩:=(d.ext I).nX;obtain⟨s0,s1,s2,s3,s4,s5,s6⟩:=(X.ext I).nX;clear d X;have O:IntKind.i64.wrap ((k:Int)+1-1)=(k:Int):=by rw[show((k:Int)+1-1)=(k:Int) by omega];exact IntWalk.i64_in _ ω
   have hg:decide ((k:Int)+1<(n:Int))=true:=by rw[decide_eq_true_eq];omega
   have a2:(0:Int)<=(k:Int):=ω
   have a1:(k:Int)<(n:Int):=ω
   have a0:(0:Int)<=(k:Int)+1:=ω
   have Z:(k:Int)+1<(n:Int):=ω
   have ht:((k:Int)+1).toNat=k+1:=ω
   have f:=ah (λW=>Uj x y W z.2.2.1 z.2.2.2.1);cases q:onI x y with
   |true=>
    rw[q] at f;have M:=ah (show tog (l.drop k)=tog (l.drop (k+1))+1 by rw[H.out,q];rfl);clear q z H
    go_wp2_with fail
    refine aL κ κ ?_
    repeat go_big_quiet_step((with_reducible exact Calls.oh (f.out _)))
    refine bQ ?_;intro _ u;obtain⟨⟨U,osq⟩,j⟩:=u;subst j;go_wp2
    go_roundw
    case rel=>exact⟨k+1,ω,ν,ah (by rw[hrel.out,M.out];omega),I.trans (Ext.nX _ _ _)⟩
    case measure=>simp[intOf];omega
   |false=>
    rw[q] at f;have M:=ah (show tog (l.drop k)=1 by rw[H.out,q];rfl);clear q z H
    go_wp2_with fail
    refine aL κ κ ?_
    repeat go_big_quiet_step((with_reducible exact Calls.oh (f.out _)))
    refine bQ ?_;intro _ u;obtain⟨⟨U,osq⟩,j⟩:=u;subst j;go_wp2;go_ret;exact⟨qW (a:=(k:Int)+1) (by rw[hrel.out,M.out];simp),I.trans (Ext.nX _ _ _)⟩
  ·have M:=ah (Zf J (by rw[K.out];omega))
   clear J d;have hg:decide ((k:Int)+1<(n:Int))=false:=by rw[decide_eq_false_iff_not];omega
   go_wp2_with fail
   refine aL κ κ ?_
   repeat go_big_quiet_step(fail)
   refine bQ ?_;intro _ u;obtain⟨⟨U,osq⟩,j⟩:=u;subst j;go_wp2;go_ret;exact⟨qW (a:=(k:Int)+1) (by rw[hrel.out,M.out];simp),I.trans (Ext.nX _ _ _)⟩
end
section
attribute [local go_sem] au calm oK oG
theorem agq (c:Int):Utf8.encode c=⟨(bK c).toArray⟩:=by
 have hv:Utf8.valid c=decide ((0<=c/\c<55296)\/(57344<=c/\c<=1114111)):=by
  unfold Utf8.valid;rw[gu];simp
 have key:∀n:Nat,(if Utf8.valid c=true then c.toNat else Utf8.runeError)=n->Utf8.encode c=(if n<0x80 then⟨#[dW n]⟩ else if n<0x800 then⟨#[dW (0xC0+n/64),dW (0x80+n%64)]⟩ else if n<0x10000 then⟨#[dW (0xE0+n/4096),dW (0x80+n/64%64),dW (0x80+n%64)]⟩ else⟨#[dW (0xF0+n/262144),dW (0x80+n/4096%64),dW (0x80+n/64%64),dW (0x80+n%64)]⟩):=by
  intro n q;subst q;rfl
 by_cases a:(0<=c/\c<55296)\/(57344<=c/\c<=1114111)
 ·obtain⟨n,rfl⟩:∃n:Nat,c=(n:Int):=⟨c.toNat,ω⟩
  rw[key n (by rw[hv,if_pos (decide_eq_true a),dx])];clear key hv;unfold bK;by_cases j:n<128
  ·rw[if_pos j,Lib.encodeRuneZ_one ω ω,bU,fH,dx]
  ·rw[if_neg j]
   by_cases i:n<2048
   ·rw[if_pos i,Lib.encodeRuneZ_two ω ω,bU,bU,fH]
    rw[show((192:Int)+(n:Int)/64).toNat=192+n/64 by omega,show((128:Int)+(n:Int)%64).toNat=128+n%64 by omega]
   ·rw[if_neg i]
    by_cases f:n<65536
    ·rw[if_pos f,Lib.encodeRuneZ_three ω,bU,bU,bU,fH]
     rw[show((224:Int)+(n:Int)/4096).toNat=224+n/4096 by omega,show((128:Int)+(n:Int)/64%64).toNat=128+n/64%64 by omega,show((128:Int)+(n:Int)%64).toNat=128+n%64 by omega]
    ·rw[if_neg f,Lib.encodeRuneZ_four ω ω,bU,bU,bU,bU,fH]
     rw[show((240:Int)+(n:Int)/262144).toNat=240+n/262144 by omega,show((128:Int)+(n:Int)/4096%64).toNat=128+n/4096%64 by omega,show((128:Int)+(n:Int)/64%64).toNat=128+n/64%64 by omega,show((128:Int)+(n:Int)%64).toNat=128+n%64 by omega]
 ·rw[key 65533 (by rw[hv,if_neg (by rw[decide_eq_false a];simp)];rfl)]
  have e:Lib.encodeRuneZ c=[239,191,189]:=by
   unfold Lib.encodeRuneZ;rw[if_neg ω,if_neg ω,if_neg ω,if_neg ω]
  unfold bK;rw[e];rfl
end
section
attribute [local go_sem] au
section
variable {W:aj} {c ch k lc lk rc rk:Int} {g:Nat}
theorem oW.away {t:TypeId} {s:Nat} {w W':aj} {v:aI} {n:Nat} {xs:List aI} (h:oW t s w W v n xs) (a:∀g,v.ownBlock=some g->W'.heap[g]? =W.heap[g]?):oW t s w W' v n xs:=by
 unfold oW at h⊢;rcases h with⟨h1,h2|⟨g,cap,cur,h2,h3,h4,h5⟩⟩
 ·exact⟨h1,.inl h2⟩
 ·refine⟨h1,.inr ⟨g,cap,cur,h2,h3,?_,h5⟩⟩
  rw[a g (by rw[h2];rfl)];exact h4
theorem oZ.away {w W W':aj} {v:aI} {l:List It} (h:oZ w W v l) (a:∀g,v.ownBlock=some g->W'.heap[g]? =W.heap[g]?):oZ w W' v l:=oW.away h a
theorem Ext.iterAt {a w:aj} (h:Ext a w) {k:Nat} (f:a.heap.size<=k) (s:ByteArray) (e:Nat):Ext a (w.iterAt k s e):=Lib.below_iterAt h f s e
theorem pX.iterAt {W:aj} {g k:Nat} {x:It} (h:pX W g x) (e:g≠k) (s:ByteArray) (a:Nat):pX (W.iterAt k s a) g x:=by
 unfold pX at h⊢;rw[Lib.iterAt_other W k g s a e];exact h
theorem pX.frozen {W:aj} {g:Nat} {x:It} (h:pX W g x) (j:Nat):W.frozen? ⟨g,j,none⟩=false:=frozen_of_row W g j _ _ h
theorem pX.new (W:aj) (x:It):pX (W.alloc (.cells #[.int .u32 x.c,.int .u32 x.k,.int .u32 x.lc,.int .u32 x.lk,.int .u32 x.rc,.int .u32 x.rk,.int .i32 x.ch] 57)) W.heap.size x:=heap_alloc_new W _
theorem Ub {l:List UInt8} {a v n:Nat} (e:oJ (l.drop a)=v::oJ (l.drop (a+n))):pF c k lc lk rc rk (oJ (l.drop a))=(⟨c,k,lc,lk,rc,rk,(v:Int)⟩:It)::pF c (k+1) c k rc rk (oJ (l.drop (a+n))):=by
 rw[e];rfl
theorem ItS.afw {w:aj} (x:It) (h:w.heap.size=g):ItS (w.alloc (.cells #[.int .u32 x.c,.int .u32 x.k,.int .u32 x.lc,.int .u32 x.lk,.int .u32 x.rc,.int .u32 x.rk,.int .i32 x.ch] 57)) (some ⟨g,0,none⟩) [x]:=by
 subst h;exact ItS.new w x
theorem pX.afk (h:pX W g ⟨c,k,lc,lk,rc,rk,ch⟩) (u:Int):pX (W.setCell ⟨g,6,none⟩ (.int .i32 u)) g ⟨c,k,lc,lk,rc,rk,u⟩:=aB W g 6 _ _ _ h
theorem pX.set1 (h:pX W g ⟨c,k,lc,lk,rc,rk,ch⟩) (u:Int):pX (W.setCell ⟨g,1,none⟩ (.int .u32 u)) g ⟨c,u,lc,lk,rc,rk,ch⟩:=aB W g 1 _ _ _ h
theorem pX.set2 (h:pX W g ⟨c,k,lc,lk,rc,rk,ch⟩) (u:Int):pX (W.setCell ⟨g,2,none⟩ (.int .u32 u)) g ⟨c,k,u,lk,rc,rk,ch⟩:=aB W g 2 _ _ _ h
theorem pX.aiL (h:pX W g ⟨c,k,lc,lk,rc,rk,ch⟩) (u:Int):pX (W.setCell ⟨g,3,none⟩ (.int .u32 u)) g ⟨c,k,lc,u,rc,rk,ch⟩:=aB W g 3 _ _ _ h
def aez (w0:aj) (q e:Nat) (s:ByteArray) (c rc rk:Int) (L:List It) (v:aI) (W:aj):Prop:=
 ∃(a:Nat) (o:List It) (k lc lk ch:Int),a<=s.size/\Hid (oZ w0 W v o)/\Hid (pX W q ⟨c,k,lc,lk,rc,rk,ch⟩)/\Hid (W.heap[e]? =some (.stringIter s a))/\Ext w0 W/\
  Hid (o++pF c k lc lk rc rk (oJ (s.data.toList.drop a))=L)/\0<=k/\Hid (k+(oJ (s.data.toList.drop a)).length<=4294967295)/\Hid (∀g,v.ownBlock=some g->g≠q/\g≠e)
theorem PE (w0 W:aj) (v:aI) (o:List It) (r:Rn) (Y:oZ w0 W v o) (hx:Ext w0 W) (hm:r.k+(oJ r.t).length<=4294967295) (a6:0<=r.k) (hL:(o++rX r).length<=20000000):
  Calls Tryz.prog 105 #[v,rnv r] W (YR w0 (o++rX r)):=by
 obtain⟨L,a3⟩:∃L,o++rX r=L:=⟨_,rfl⟩;rw[a3] at hL⊢;obtain⟨s,hs⟩:∃s:ByteArray,s=⟨r.t.toArray⟩:=⟨_,rfl⟩;have a1:s.data.toList=r.t:=by rw[hs]
 have I:s.data.toList.length=s.size:=(Lib.size_eq s).symm;show Calls Tryz.prog 105 #[v,.agg #[.int .u32 r.c,.int .u32 r.k,.int .u32 r.lc,.int .u32 r.lk,.int .u32 r.rc,.int .u32 r.rk,.string ⟨r.t.toArray⟩]] W (YR w0 L);rw[<-hs];have j:=ah (show o++pF r.c r.k r.lc r.lk r.rc r.rk (oJ (s.data.toList.drop 0))=L by rw[dX,a1];exact a3);have J:=ah (show r.k+(oJ (s.data.toList.drop 0)).length<=4294967295 by rw[dX,a1];exact hm);have a4:=ah (λg (f:v.ownBlock=some g)=>(Y.lt g f).2);replace Y:=ah Y;clear a3 hm a1 hs;replace I:=ah I;go_enter Tryz.func105,Tryz.ntmps105;go_wp2;have hq:w0.heap.size<=W.heap.size+1:=by have:=hx.size;omega
 go_loopw [0] (aez w0 (W.heap.size+1) (W.heap.size+1+1) s r.c r.rc r.rk L) (λ_ X=>s.size-X.iterPos (W.heap.size+1+1))
 case atStart=>
  refine⟨0,o,r.k,r.lc,r.lk,0,cK _,ah (Y.out.ext (((Ext.refl _).alloc _).alloc _|>.alloc _)),ah ?_,ah ?_,((hx.alloc _).alloc _).alloc _,j,a6,J,ah λg f=>?_⟩
  ·refine pX.ext ?_ ((Ext.refl _).alloc _)
   have h:=pX.new (W.alloc (bF #[aG aA r.c,aG aA r.k,aG aA r.lc,aG aA r.lk,aG aA r.rc,aG aA r.rk,nJ s] 64)) ⟨r.c,r.k,r.lc,r.lk,r.rc,r.rk,0⟩;rw[show(W.alloc (bF #[aG aA r.c,aG aA r.k,aG aA r.lc,aG aA r.lk,aG aA r.rc,aG aA r.rk,nJ s] 64)).heap.size=W.heap.size+1 by simp] at h;exact h
  ·have h:=World.iter_heap ((W.alloc (bF #[aG aA r.c,aG aA r.k,aG aA r.lc,aG aA r.lk,aG aA r.rc,aG aA r.rk,nJ s] 64)).alloc (bF #[aG aA r.c,aG aA r.k,aG aA r.lc,aG aA r.lk,aG aA r.rc,aG aA r.rk,aG IntKind.i32 0] 57)) s 0
   simpa using h
  ·have:=a4.out g f;omega
 case round=>
  clear j J Y a4;obtain⟨a,o,k,lc,lk,ch,d1,Y,tu,M,a0,j,a6,J,O⟩:=hrel;generalize d3:W.heap.size+1=q at*;have b2:q≠q+1:=ω
  by_cases hp:a<s.size
  ·have b6:∀Z,(Instr.next (.pointer (some ⟨q+1,0,none⟩)) true Z).run Tryz.prog wr=_:=λZ=>Lib.run_next_any_at wr (q+1) s a Z M.out hp
   have N:=Lib.decodeL_drop s a;have a2:s.data.toList.drop a≠[]:=Wh (by rw[I.out];exact hp);have b0:=Lib.decodeL_width (s.data.toList.drop a);have b1:=Lib.decodeL_rune (s.data.toList.drop a);have a5:=Lib.decodeL_le (s.data.toList.drop a) a2;rw[List.length_drop,I.out] at a5;have U:=ah (uh (s.data.toList.drop a) a2);rw[List.drop_drop,N] at U;rw[N] at b0 b1 a5;clear a2 N;generalize d7:(Utf8.decode s a).1=u at*;generalize d8:(Utf8.decode s a).2=H at*;have K:=J.out;rw[U.out,aH] at K;have a7:=ah (show o++[(⟨r.c,k,lc,lk,r.rc,r.rk,(u:Int)⟩:It)]++pF r.c (k+1) r.c k r.rc r.rk (oJ (s.data.toList.drop (a+H)))=L by rw[<-j.out,Ub U.out];simp);have d6:o.length+1<=20000000:=by
        have:=congrArg List.length a7.out;simp only[ay,aH,aR] at this;omega
   have b7:=ah (show k+1+(oJ (s.data.toList.drop (a+H))).length<=4294967295 by omega);have d2:aA.wrap (k+1)=k+1:=IntWalk.u32_in _ ω;have VT:=ah (tu.out.iterAt b2 s (a+H));have a9:=ah (Lib.iterAt_heap wr (q+1) s a (a+H) M.out);have b9:=a0.iterAt (k:=q+1) ω s (a+H);have b5:=ah (Y.out.away (W':=wr.iterAt (q+1) s (a+H)) λg f=>Lib.iterAt_other wr (q+1) g s (a+H) (O.out g f).2);have b4:wr.iterPos (q+1)=a:=by simp only[mR,M.out]
   clear j J U K Y tu M a0;obtain⟨c0,c1,c2,c3,c4,c5,c6⟩:=VT.out.cells;simp only[bH] at c0 c1 c2 c3 c4 c5 c6;have f6:=VT.out.frozen 6;generalize b8:wr.iterAt (q+1) s (a+H)=W1 at*;clear b8;have d5:q<W1.heap.size:=VT.out.lt;have d4:q+1<W1.heap.size:=(aC.1 a9.out).1
   go_wp2_with(first
        |(at_builtin
          refine qj (w0:=w0) rfl (.tmp 23) (.tmp 25) rfl _ o rfl ((b5.out.away (W':=W1.setCell ⟨q,6,none⟩ (.int .i32 (u:Int))) λg f=>dP _ _ _ _ (O.out g f).1).ext ((Ext.refl _).alloc _)) ((b9.setCell hq _).alloc _) _ 1 1 [(⟨r.c,k,lc,lk,r.rc,r.rk,(u:Int)⟩:It)] rfl rfl (ItS.afw _ ι) (by simp only[aH,aR];omega) ?_;intro v3 w3 o3 x3 g3 b3;have i:=pX.grown ((VT.out.afk (u:Int)).ext ((Ext.refl _).alloc (bF #[aG aA r.c,aG aA k,aG aA lc,aG aA lk,aG aA r.rc,aG aA r.rk,aG IntKind.i32 (u:Int)] 57))) g3 (λe=>(O.out q e.symm).1 rfl);have Q:w3.heap[q+1]? =some (.stringIter s (a+H)):=by
           rw[g3.block (q+1) (by simp;omega) (λe=>(O.out (q+1) e.symm).2 rfl)];rw[Lib.alloc_old _ _ _ (by simp;omega),dP _ _ _ _ ι];exact a9.out
          have Yc:∀g,v3.ownBlock=some g->g≠q/\g≠q+1:=λg f=>by
           rcases b3 with e|e
           ·exact O.out g (e.symm.trans f)
           ·rw[e] at f
            injection f with f;have:g=W1.heap.size+1:=by rw[<-f];simp
            omega
          replace o3:=ah o3;replace i:=ah i;replace Q:=ah Q;replace Yc:=ah Yc;clear c0 c1 c2 c3 c4 c5 c6 f6 g3 b3;obtain⟨c0,c1,c2,c3,c4,c5,c6⟩:=i.out.cells;simp only[bH] at c0 c1 c2 c3 c4 c5 c6;have f1:=i.out.frozen 1;have f2:=i.out.frozen 2;have f3:=i.out.frozen 3))
   go_roundw
   case rel=>
        refine⟨a+H,_,k+1,r.c,k,(u:Int),ω,ah (o3.out.away λg f=>?_),ah (((i.out.set2 _).aiL _).set1 _),ah ?_,((x3.setCell hq _).setCell hq _).setCell hq _,a7,ω,b7,Yc⟩
        ·rw[dP _ _ _ _ (Yc.out g f).1,dP _ _ _ _ (Yc.out g f).1,dP _ _ _ _ (Yc.out g f).1]
        ·rw[dP _ _ _ _ ι,dP _ _ _ _ ι,dP _ _ _ _ ι]
         exact Q.out
   case measure=>
        have hE:(((w3.setCell ⟨q,2,none⟩ (.int .u32 r.c)).setCell ⟨q,3,none⟩ (.int .u32 k)).setCell ⟨q,1,none⟩ (.int .u32 (k+1))).iterPos (q+1)=a+H:=by
         simp only[mR];rw[dP _ _ _ _ ι,dP _ _ _ _ ι,dP _ _ _ _ ι,Q.out]
        show s.size-mR _ (q+1)<s.size-wr.iterPos (q+1);rw[b4];refine Nat.lt_of_le_of_lt (Nat.le_of_eq (congrArg (λz=>s.size-z) hE)) ?_;omega
  ·have b6:∀Z,(Instr.next (.pointer (some ⟨q+1,0,none⟩)) true Z).run Tryz.prog wr=_:=λZ=>Lib.run_next_end_at wr (q+1) s a Z M.out hp
   have a8:=ah (show o=L by
        rw[<-j.out,gW (by rw[I.out];omega),vQ];simp[pF])
   go_wp2;go_ret;exact⟨_,rfl,a8.out▸Y.out,a0⟩
def TM (l:List Rn):Prop:=∀r∈l,rW r=true/\wfR r
theorem Ua {l:List Rn} {k:Nat} {r:Rn} (h:l[k]? =some r):nY (l.take (k+1))=nY (l.take k)++rX r:=by
 rw[List.take_add_one,h,EK];simp[nY]
theorem XR {l:List Rn} (k:Nat):(nY (l.take k)).length<=(nY l).length:=by
 have h:nY l=nY (l.take k)++nY (l.drop k):=by rw[<-EK,List.take_append_drop]
 rw[h,ay];omega
theorem aaf {r:Rn} (h:rW r=true):r.k+(oJ r.t).length<=4294967295/\r.c≠0/\iJ r.t=true/\0<(oJ r.t).length:=by
 unfold rW at h;rw[decide_eq_true_eq] at h;exact⟨ω,h.2.2.1,h.1,h.2.1⟩
theorem Gm (A:Option Addr) (n cap:Nat) (l:List Rn) (w:aj) (hv:RnS w A l) (q:l.length=n) (z:TM l) (X:n<=4000000) (M:(nY l).length<=20000000):
  Calls Tryz.prog 71 #[.slice A n cap] w (YR w (nY l)):=by
 replace q:=ah q;replace hv:=ah hv;replace z:=ah z;replace M:=ah M;go_enter Tryz.func71,Tryz.ntmps71;go_wp2
 go_loopw [3,8] (λv i W=>∃(k:Nat),k<=n/\i=Vi k/\Hid (oZ w W v (nY (l.take k)))/\Ext w W) (λ_ i _=>n-(intOf i).toNat)
 case atStart=>exact⟨0,cK _,rfl,ah (oZ.nil _ _),Ext.refl _⟩
 case round=>
  obtain⟨k,U,rfl,I,u⟩:=hrel;by_cases K:k<n
  ·obtain⟨b,o,r,rfl,H,d⟩:=hv.out.at (k:=k) (by rw[q.out];exact K)
   obtain⟨c0,c1,c2,c3,c4,c5,c6⟩:=d.ext u;have J:=z.out r (aP H);have j:=ah (Ua H);have a:=XR (l:=l) (k+1);rw[j.out] at a;have f:=ah (λ(o:Obj)=>PE w (wr.alloc o) _ _ r (I.out.ext ((Ext.refl _).alloc _)) (u.alloc _) (aaf J.1).1 J.2.2.2.1 (Nat.le_trans a M.out));clear H d J a
   go_wp2_with fail
   refine(f.out _).mono ?_;rintro e O ⟨Q,rfl,o1,x1⟩;replace o1:=ah o1;go_wp2
   go_roundw
   case rel=>exact⟨k+1,ω,ν,ah (by rw[j.out];exact o1.out),x1⟩
   case measure=>simp[intOf];omega
  ·have N:=ah (show l.take k=l from List.take_of_length_le (by rw[q.out];omega))
   rw[N.out] at I;go_wp2;go_ret;exact⟨_,rfl,I.out,u⟩
end
theorem Gh {r:Rn} (h:iJ r.t=false\/(oJ r.t).length=0\/r.c=0\/4294967294<r.k+(oJ r.t).length-1):rW r=false:=by
 unfold rW;rw[decide_eq_false_iff_not];rintro⟨e,i,a,f⟩;rcases h with h|h|h|h
 ·rw[e] at h;cases h
 ·omega
 ·exact a h
 ·omega
theorem aae {r:Rn} (i:iJ r.t=true) (f:0<(oJ r.t).length) (e:r.c≠0) (a:r.k+(oJ r.t).length-1<=4294967294):rW r=true:=by
 unfold rW;rw[decide_eq_true_eq];exact⟨i,f,e,a⟩
end
end Go.Proofs.YtejbpijamdlgcaaGreatDoor

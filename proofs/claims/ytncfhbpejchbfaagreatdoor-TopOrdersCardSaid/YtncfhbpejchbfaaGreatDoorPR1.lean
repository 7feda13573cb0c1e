/-
  Lemmas of this seat; no claim.
-/
import Derived.StillTailTactics
import Derived.Deep.DeepCutAuto
import Derived.Test.YtncfhbpejchbfaaGreatDoorPRf1
import Derived.Test.YtncfhbpejchbfaaGreatDoorLayIt
set_option linter.unusedVariables false
set_option linter.unusedSimpArgs false
set_option maxRecDepth 100000
set_option maxHeartbeats 4000000
open Go renaming Calls→aO,World→ae,cell_regrown→ai,wpQuiet_nil→bh,wp_region_quiet_below→ax
open Go.Ending renaming returned→bK
open Go.IntKind renaming i64→cJ,u32→ak
open Go.IntWalk renaming i64_in→bP
open Go.Lib renaming hid→ac
open Go.Obj renaming cells→aT
open Go.Sort renaming alloc_eq_grow→eH
open Go.Value renaming int→ao
open Go.World renaming cell?_alloc_some→ah
open List renaming drop_zero→cH,eq_nil_of_length_eq_zero→bM,length_drop→bk
open Nat renaming eq_zero_or_pos→dE,le_refl→am
open Go.Proofs.Tryz
open Go.Proofs.Tryz renaming prog→pg
namespace Go.Proofs.YtncfhbpejchbfaaGreatDoor
open Go.ChangeShapes Go.WideShapes Go.ChangeAt Go.RowKit Go.Sort
attribute [local go_sem] ah
def PO (a b:Int×Int×Int):Int:=orI (rP a.1 b.1) (rP a.2.1 b.2.1)
theorem acn (a b:Int×Int×Int):decide (PO a b<0)=ltB a b:=by
 unfold PO orI rP ltB;rw[Bool.eq_iff_iff,decide_eq_true_eq,decide_eq_true_eq]
 (repeat' split) <;> omega
theorem Io (x y z f a j:Int) (w:ae):aO pg 74 #[spv x y z,spv f a j] w λe w'=>e= .returned (Vi (PO (x,y,z) (f,a,j)))/\∃q i,w'=grow (w.drewN q) i:=by
 obtain⟨r,u⟩:∃r,PO (x,y,z) (f,a,j)=r:=⟨_,rfl⟩;rw[u];unfold PO at u;have N:=λW=>nQ x f W
 have M:=λW=>nQ y a W
 simp only at u;generalize rP x f=p at*;generalize rP y a=q at*;replace u:=ac u;go_enter func74,ntmps74;go_wp2;have I:∃i,((w.alloc (aT #[ao ak x,ao ak y,ao ak z] 74)).alloc (aT #[ao ak f,ao ak a,ao ak j] 74))=grow w i:=⟨_,by rw[eH,eH,grow_grow]⟩;have c0:((w.alloc (aT #[ao ak x,ao ak y,ao ak z] 74)).alloc (aT #[ao ak f,ao ak a,ao ak j] 74)).drew.cell? ⟨w.heap.size,0,none⟩=some (Vu x):=σ
 have c1:((w.alloc (aT #[ao ak x,ao ak y,ao ak z] 74)).alloc (aT #[ao ak f,ao ak a,ao ak j] 74)).drew.cell? ⟨w.heap.size,1,none⟩=some (Vu y):=σ
 have c2:((w.alloc (aT #[ao ak x,ao ak y,ao ak z] 74)).alloc (aT #[ao ak f,ao ak a,ao ak j] 74)).drew.cell? ⟨w.heap.size+1,0,none⟩=some (Vu f):=σ
 have c3:((w.alloc (aT #[ao ak x,ao ak y,ao ak z] 74)).alloc (aT #[ao ak f,ao ak a,ao ak j] 74)).drew.cell? ⟨w.heap.size+1,1,none⟩=some (Vu a):=σ
 generalize(w.alloc (aT #[ao ak x,ao ak y,ao ak z] 74)).alloc (aT #[ao ak f,ao ak a,ao ak j] 74)=W at*;generalize w.heap.size=X at*;obtain⟨K,I⟩:=I;replace I:=ac I;refine wp_region_still_tail 10 κ κ ?_;simp only[List.take_succ_cons,List.take_zero,List.drop_succ_cons,cH];change wpStill pg _ W.drew (λU=>wpList pg _ _ _ U W.drew) _ _;have Q:=ac (show W.drew=grow (w.drewN 1) K by rw[I.out];rfl);generalize W.drew=H at*;replace N:=ac ((N H).mono λe w' h=>(⟨h.1,h.2.symm⟩:e=bK (Vi p)/\w'=H));replace M:=ac ((M H).mono λe w' h=>(⟨h.1,h.2.symm⟩:e=bK (Vi q)/\w'=H))
 repeat still_step
 still_call N.out
 repeat still_step
 still_call M.out
 refine wpStill_nil ?_;clear c0 c1 c2 c3
 go_wp2_with fail
 refine(adJ _ _ _ p q _ σ σ).mono ?_;rintro e w3 ⟨rfl,rfl⟩;rw[u.out];have O:=ac (show∃i,H.alloc (aT #[ao cJ p,ao cJ q] 3)=grow (w.drewN 1) i from⟨_,by rw[eH,Q.out,grow_grow]⟩);go_wp2;go_ret;obtain⟨J,O⟩:=O.out;exact⟨rfl,1,J,O⟩
theorem Ext.grow (w:ae) (q:Nat) (os:Array Obj):Ext w (grow (w.drewN q) os):=Ext.jv w (w.drawn+q) os
theorem MV (x y z i f a:Int) (w:ae):aO pg 74 #[spv x y z,spv i f a] w λe w'=>e= .returned (Vi (PO (x,y,z) (i,f,a)))/\Ext w w':=
 (Io x y z i f a w).mono λe w' ⟨h,q,os,j⟩=>⟨h,by rw[j];exact Ext.grow w q os⟩
def M9 (w0:ae) (l:List (Int×Int×Int)) (e:Ending) (w':ae):Prop:=∃v,e= .returned v/\kZ w0 w' v l/\Ext w0 w'
theorem Xc (w0 W:ae) (A:Option Addr) (c:Nat) (x y z:Int) (a:kZ w0 W (.slice A 0 c) []) (e:Ext w0 W):
  aO pg 75 #[.slice A 0 c,spv x y z] W (M9 w0 [(x,y,z)]):=by
 replace a:=ac a;go_enter func75,ntmps75;go_wp2;have x1:Ext W (W.alloc (aT #[ao ak x,ao ak y,ao ak z] 74)):=(Ext.refl _).alloc _;have q:(W.alloc (aT #[ao ak x,ao ak y,ao ak z] 74)).cell? ⟨W.heap.size,0,none⟩=some (Vu x):=σ
 have j:(W.alloc (aT #[ao ak x,ao ak y,ao ak z] 74)).cell? ⟨W.heap.size,1,none⟩=some (Vu y):=σ
 have i:(W.alloc (aT #[ao ak x,ao ak y,ao ak z] 74)).cell? ⟨W.heap.size,2,none⟩=some (Vu z):=σ
 replace a:=ac (a.out.ext x1);replace e:=e.trans x1;clear x1;generalize W.alloc (aT #[ao ak x,ao ak y,ao ak z] 74)=f at*;generalize W.heap.size=J at*
 go_quiet(fail)
 have x2:Ext f (f.drewN nq):=(Ext.refl _).drewN nq;replace a:=ac (a.out.ext x2);replace e:=e.trans x2;replace q:=x2.keep q;replace j:=x2.keep j;replace i:=x2.keep i;clear x2;generalize f.drewN nq=M at*
 go_wp2_with(first
  |(at_builtin
    refine pG (w0:=w0) rfl (.tmp 19) (.tmp 21) rfl _ [] rfl (a.out.alloc _) (e.alloc _) _ 1 1 [(x,y,z)] rfl rfl (SpS.new _ x y z) ι ?_;intro u I H x2 K))
 go_ret;exact⟨u,rfl,H,x2⟩
theorem Xd (w0 W:ae) (g k c:Nat) (l:List (Int×Int×Int)) (a b d x y z:Int) (I:l.length=k) (a0:k<=800000) (i:kZ w0 W (.slice (some ⟨g,0,none⟩) (k+1) c) (l++[(a,b,d)])) (j:Ext w0 W)
  (c0:W.cell? ⟨g,k*3,none⟩=some (Vu a)) (c1:W.cell? ⟨g,k*3+1,none⟩=some (Vu b)) (c2:W.cell? ⟨g,k*3+2,none⟩=some (Vu d)) (u:lH (a,b,d) (x,y,z)=true):
  aO pg 75 #[.slice (some ⟨g,0,none⟩) (k+1) c,spv x y z] W (M9 w0 (l++[(a,b,d)]++[(x,y,z)])):=by
 replace i:=ac i;replace I:=ac I;have e:=λW'=>AZ a b d x y z W'
 rw[u] at e;replace e:=ac e;clear u;have Y:cJ.wrap (((k+1:Nat):Int)-1)=(k:Int):=by rw[show(((k+1:Nat):Int)-1)=(k:Int) by omega];exact bP _ ω
 have a3:decide ((k:Int)<0)=false:=ι
 have a2:(0:Int)<=(k:Int):=ω
 have a1:(k:Int)<((k+1:Nat):Int):=ω
 go_enter func75,ntmps75;go_wp2;have x1:Ext W (W.alloc (aT #[ao ak x,ao ak y,ao ak z] 74)):=(Ext.refl _).alloc _;have X:(W.alloc (aT #[ao ak x,ao ak y,ao ak z] 74)).cell? ⟨W.heap.size,0,none⟩=some (Vu x):=σ
 have U:(W.alloc (aT #[ao ak x,ao ak y,ao ak z] 74)).cell? ⟨W.heap.size,1,none⟩=some (Vu y):=σ
 have Q:(W.alloc (aT #[ao ak x,ao ak y,ao ak z] 74)).cell? ⟨W.heap.size,2,none⟩=some (Vu z):=σ
 replace c0:=x1.keep c0;replace c1:=x1.keep c1;replace c2:=x1.keep c2;replace i:=ac (i.out.ext x1);replace j:=j.trans x1;clear x1;generalize W.alloc (aT #[ao ak x,ao ak y,ao ak z] 74)=Z at*;generalize W.heap.size=py at*;have O:=ai c0;have N:=ai c1;have M:=ai c2;have K:=ai X;have s1:=ai U;have J:=ai Q;clear c0 c1 c2 X U Q;refine ax κ κ ?_
 repeat go_big_quiet_step((with_reducible exact Calls.jA (e.out _)))
 refine bh ?_;intro _ H;obtain⟨⟨f,osq⟩,q⟩:=H;subst q;have x2:=Ext.jv Z f osq;replace i:=ac (i.out.ext x2);replace j:=j.trans x2;clear x2;replace O:=O f osq;replace N:=N f osq;replace M:=M f osq;replace K:=K f osq;replace s1:=s1 f osq;replace J:=J f osq;generalize grow (redrawn Z f) osq=W2 at*
 go_wp2_with(first
  |(at_builtin
    refine pG (w0:=w0) rfl (.tmp 19) (.tmp 21) rfl _ (l++[(a,b,d)]) rfl (i.out.alloc _) (j.alloc _) _ 1 1 [(x,y,z)] rfl rfl (SpS.new _ x y z) (by simp[I.out];omega) ?_;intro v2 w2 o2 x2 g2))
 go_ret;exact⟨v2,rfl,o2,x2⟩
theorem aaE (w0 W:ae) (g k c:Nat) (l:List (Int×Int×Int)) (a b d x y z u:Int) (J:l.length=k) (a1:k<=800000) (i:kZ w0 W (.slice (some ⟨g,0,none⟩) (k+1) c) (l++[(a,b,d)])) (q:Ext w0 W)
  (c0:W.cell? ⟨g,k*3,none⟩=some (Vu a)) (c1:W.cell? ⟨g,k*3+1,none⟩=some (Vu b)) (c2:W.cell? ⟨g,k*3+2,none⟩=some (Vu d)) (I:lH (a,b,d) (x,y,z)=false)
  (N:max d z=u) (hg:w0.heap.size<=g):
  aO pg 75 #[.slice (some ⟨g,0,none⟩) (k+1) c,spv x y z] W (M9 w0 (l++[(a,b,u)])):=by
 replace i:=ac i;replace J:=ac J;replace N:=ac N;have f:=λW'=>AZ a b d x y z W'
 rw[I] at f;replace f:=ac f;clear I;have a0:cJ.wrap (((k+1:Nat):Int)-1)=(k:Int):=by rw[show(((k+1:Nat):Int)-1)=(k:Int) by omega];exact bP _ ω
 have a4:decide ((k:Int)<0)=false:=ι
 have a3:(0:Int)<=(k:Int):=ω
 have a2:(k:Int)<((k+1:Nat):Int):=ω
 go_enter func75,ntmps75;go_wp2;have x1:Ext W (W.alloc (aT #[ao ak x,ao ak y,ao ak z] 74)):=(Ext.refl _).alloc _;have q0:(W.alloc (aT #[ao ak x,ao ak y,ao ak z] 74)).cell? ⟨W.heap.size,0,none⟩=some (Vu x):=σ
 have q1:(W.alloc (aT #[ao ak x,ao ak y,ao ak z] 74)).cell? ⟨W.heap.size,1,none⟩=some (Vu y):=σ
 have q2:(W.alloc (aT #[ao ak x,ao ak y,ao ak z] 74)).cell? ⟨W.heap.size,2,none⟩=some (Vu z):=σ
 replace c0:=x1.keep c0;replace c1:=x1.keep c1;replace c2:=x1.keep c2;replace i:=ac (i.out.ext x1);replace q:=q.trans x1;clear x1;generalize W.alloc (aT #[ao ak x,ao ak y,ao ak z] 74)=W1 at*;generalize W.heap.size=py at*;have Z:=ai c0;have Y:=ai c1;have X:=ai c2;have U:=ai q0;have s1:=ai q1;have Q:=ai q2;clear c0 c1 c2 q0 q1 q2;refine ax κ κ ?_
 repeat go_big_quiet_step((with_reducible exact Calls.jA (f.out _)))
 refine bh ?_;intro _ M;obtain⟨⟨j,osq⟩,H⟩:=M;subst H;have x2:=Ext.jv W1 j osq;replace i:=ac (i.out.ext x2);replace q:=q.trans x2;clear x2;replace Z:=Z j osq;replace Y:=Y j osq;replace X:=X j osq;replace U:=U j osq;replace s1:=s1 j osq;replace Q:=Q j osq;generalize grow (redrawn W1 j) osq=O at*;have f2:O.frozen? ⟨g,k*3+2,none⟩=false:=World.ownsRow.frozenAt (n:=k+1) (base:=w0.heap.size) (e:=74) (size:=3) (cap:=c) (xs:=flat encS (l++[(a,b,d)])) (by have:=i.out;unfold kZ at this;rwa[show(l++[(a,b,d)]).length=k+1 by simp[J.out]] at this) _;go_wp2
 go_region
 rw[N.out];have K:kZ w0 (O.setCell ⟨g,k*3+2,none⟩ (Vu u)).drew (.slice (some ⟨g,0,none⟩) (k+1) c) (l++[(a,b,u)]):=by
  have h1:=i.out;rw[<-J.out] at h1⊢;have h2:=kZ.last (x:=a) (y:=b) (z:=d) (c:=c) (g:=g) (l:=l) (by simpa using h1) u;exact kZ.ext (by simpa using h2) ((Ext.refl _).drew)
 have x3:Ext w0 (O.setCell ⟨g,k*3+2,none⟩ (Vu u)).drew:=(q.setCell hg _).drew;replace K:=ac K;go_wp2;go_ret;exact⟨_,rfl,K.out,x3⟩
theorem Qd (w0 W:ae) (v:Value) (l:List (Int×Int×Int)) (x y z:Int) (i:kZ w0 W v l) (q:Ext w0 W) (Y:l.length<=800000):
  aO pg 75 #[v,spv x y z] W (M9 w0 (uQ l (x,y,z))):=by
 rcases List.eq_nil_or_concat l with e|⟨l0,⟨a,b,d⟩,e⟩
 ·subst e
  obtain⟨A,c,rfl⟩:=i.form;rw[add_nil];exact Xc w0 W A c x y z i q
 ·rw[List.concat_eq_append] at e
  subst e;obtain⟨g,c,hv,X,U⟩:=i.block ι;have H:v= .slice (some ⟨g,0,none⟩) (l0.length+1) c:=by rw[hv];simp
  subst H;obtain⟨Z,c9,u,I⟩:=SpS.own i;obtain rfl:some ⟨g,0,none⟩=Z:=by injection u
  obtain⟨b',o',O,N,M,J,Q,c0,c1,c2⟩:=SpS.at I (k:=l0.length) ι;injection J with J;injection J with e1 e2;subst e1;subst e2;have K:(a,b,d)=(O,N,M):=by simpa using Q
  injection K with K e4;injection e4 with e4 e5;subst K;subst e4;subst e5;rw[Nat.zero_add] at c0 c1 c2;rw[IC];have f:l0.length<=800000:=by simp at Y;omega
  cases j:lH (a,b,d) (x,y,z) with
  |true=>
   rw[if_pos rfl];exact Xd w0 W g l0.length c l0 a b d x y z rfl f i q c0 c1 c2 j
  |false=>
   rw[if_neg ι];exact aaE w0 W g l0.length c l0 a b d x y z _ rfl f i q c0 c1 c2 j rfl X
def aaJ (w:ae) (N:Nat) (L:List (Int×Int×Int)) (f:Nat) (e s1 a:Value) (W:ae):Prop:=
 ∃(la lb lo:List (Int×Int×Int)) (A B:Option Addr) (n m ca cb:Nat),e= .slice A n ca/\s1= .slice B m cb/\Hid (la.length=n)/\Hid (lb.length=m)/\n<=ca/\m<=cb/\Hid (SpS w A la)/\Hid (SpS w B lb)/\
  Hid (kZ w W a lo)/\Ext w W/\Hid (qU lo (tu la lb)=L)/\lo.length+n+m<=N/\n+m<=f
def FJ:List (Int×Int×Int)->List (Int×Int×Int)->Bool
 |_,[]=>true
 |[],_::_=>false
 |p::_,q::_=>ltB p q
theorem aaX {p:Int×Int×Int} {a b:List (Int×Int×Int)} (h:FJ (p::a) b=true):tu (p::a) b=p::tu a b:=by
 cases b with
 |nil=>rw[Fg,Fg]
 |cons q b=>exact QG a b h
theorem aaW {q:Int×Int×Int} {a b:List (Int×Int×Int)} (h:FJ a (q::b)=false):tu a (q::b)=q::tu a b:=by
 cases a with
 |nil=>rw[BJ,BJ]
 |cons p a=>exact QH a b h
theorem head_drop {l:List (Int×Int×Int)} {p:Int×Int×Int} (h:l[0]? =some p):l=p::l.drop 1:=by
 obtain⟨a,e⟩:=List.getElem?_eq_some_iff.1 h;have:=List.drop_eq_getElem_cons a;rw[e,cH] at this;exact this
theorem VK (A B:Option Addr) (n m cap I:Nat) (l r:List (Int×Int×Int)) (w:ae) (hv:SpS w A l) (hu:SpS w B r) (hn:l.length=n) (hm:r.length=m) (b3:n<=cap) (b5:m<=I) (hl:jE zS l=true) (hr:jE zS r=true) (hb:n+m<=360000):
  aO pg 41 #[.slice A n cap,.slice B m I] w (ado w (kW (l++r))):=by
 obtain⟨L,hL⟩:∃L,qU [] (tu l r)=L:=⟨_,rfl⟩;rw[<-abC hl hr,hL];replace hL:=ac hL;replace hv:=ac hv;replace hu:=ac hu;replace hn:=ac hn;replace hm:=ac hm;clear hl hr;have b4:=UU (n+m) ω ((n:Int)+(m:Int)) ω;go_enter func41,ntmps41;go_wp2
 go_loopg [0,1,5] (n+m) (aaJ w (n+m) L)
 case atStart=>exact⟨l,r,[],A,B,n,m,cap,I,rfl,rfl,hn,hm,b3,b5,hv,hu,ac (kZ.room (Ext.refl w) _ ω),(Ext.refl w).alloc _,hL,ι,am _⟩
 case round=>
  clear hL hv hu b4;obtain⟨la,lb,lo,A,B,j,u,ca,cb,rfl,rfl,i,a,a8,a7,M,K,ho,f,hrel,hN,d3⟩:=hrel;by_cases h0:0<j+u
  ·have d6:decide ((0:Int)<(j:Int)+(u:Int))=true:=by simp;omega
   obtain⟨t,N⟩:∃t,FJ la lb=t:=⟨_,rfl⟩;replace N:=ac N
   go_wp2_with fail
   go_cut [35] (λs wx=>s= .bool t/\Ext wr wx)
   case first=>
        by_cases O:u=0
        ·subst O
         obtain rfl:lb=[]:=bM a.out;obtain rfl:true=t:=by
          have h:=N.out;unfold FJ at h;exact h
         go_quiet(fail)
         go_wp2_with fail
         go_meet;exact⟨rfl,(Ext.refl _).drewN _⟩
        ·have d7:((u:Int)==0)=false:=by simpa using O
         obtain⟨b',o',x',y',z',rfl,Z,b1,b0,a9⟩:=K.out.at (k:=0) (by rw[a.out];omega);by_cases a0:j=0
         ·subst a0
          obtain rfl:la=[]:=bM i.out;obtain rfl:false=t:=by
           have h:=N.out;rw[head_drop Z] at h;exact h
          go_quiet(fail)
          go_wp2_with fail
          go_meet;exact⟨rfl,(Ext.refl _).drewN _⟩
         ·obtain⟨b,o,x,y,z,rfl,J,d0,U,Q⟩:=M.out.at (k:=0) (by rw[i.out];omega)
          simp only[Nat.zero_mul,Nat.add_zero] at d0 U Q b1 b0 a9;have d9:decide (0<j)=true:=by simp;omega
          have a5:(0:Int)<(j:Int):=ω
          have b7:(0:Int)<(u:Int):=ω
          have a6:=ac (show decide (PO (x,y,z) (x',y',z')<0)=t by
           rw[acn];have h:=N.out;rw[head_drop J,head_drop Z] at h;exact h)
          have a1:=ac (λW=>MV x y z x' y' z' W);generalize PO (x,y,z) (x',y',z')=q at*;have e0:=a6.out;have r0:=ai (f.keep d0);have r1:=ai (f.keep U);have r2:=ai (f.keep Q);have s0:=ai (f.keep b1);have s1:=ai (f.keep b0);have s2:=ai (f.keep a9);clear J Z;refine ax κ κ ?_
          repeat go_big_quiet_step((with_reducible exact Calls.jA (a1.out _)))
          refine bh ?_;intro _ b2;obtain⟨⟨dq,osq⟩,a2⟩:=b2;subst a2
          go_wp2_with fail
          go_meet;exact⟨rfl,Ext.jv _ _ _⟩
   case rest=>
        obtain⟨rfl,x1⟩:=hcut;replace ho:=ac (ho.out.ext x1);replace f:=f.trans x1;clear x1;cases t with
        |true=>
         have a0:0<j:=by
          rcases dE j with h|h
          ·have ea:la=[]:=bM (by rw[i.out];exact h)
           have h1:=N.out;rw[ea] at h1;have h2:0<lb.length:=by rw[a.out];omega
           cases lb with
           |nil=>simp at h2
           |cons q lb=>cases h1
          ·exact h
         obtain⟨b,o,x,y,z,rfl,J,d0,U,Q⟩:=M.out.at (k:=0) (by rw[i.out];exact a0);simp only[Nat.zero_mul,Nat.add_zero] at d0 U Q;have a5:(0:Int)<(j:Int):=ω
         have hd:=ac (show qU (uQ lo (x,y,z)) (tu (la.drop 1) lb)=L by
          rw[<-hrel.out]
          conv=>rhs;rw[head_drop J,aaX (by have h:=N.out;rw[head_drop J] at h;exact h),EI])
         have d5:=Ru (some ⟨b,o,none⟩) j ca 1 ω 1 rfl;have b8:=ac (M.out.cut i.out a8 (show 1<=j by omega));have a4:=ac (show(la.drop 1).length=j-1 by rw[bk,i.out]);have c0:wc.drew.cell? ⟨b,o,none⟩=some (Vu x):=f.keep d0;have c1:wc.drew.cell? ⟨b,o+1,none⟩=some (Vu y):=f.keep U;have c2:wc.drew.cell? ⟨b,o+2,none⟩=some (Vu z):=f.keep Q;have H:=ac (Qd w wc.drew _ lo x y z (ho.out.ext ((Ext.refl _).drew)) f.drew ω);have b6:=Ur lo (x,y,z);clear J hrel;generalize uQ lo (x,y,z)=Y at*
         go_wp2_with fail
         go_region_with(go_at_call 75;refine H.out.mono ?_;rintro e w3 ⟨v3,rfl,X,x3⟩)
         all_goals
          replace X:=ac X;go_wp2
          go_roundg (j-1+u)
          case measure=>omega
          case rel=>exact⟨la.drop 1,lb,Y,_,_,j-1,u,ca-1,cb,rfl,rfl,a4,a,ω,a7,b8,K,X,x3,hd,ω,am _⟩
        |false=>
         have O:0<u:=by
          rcases dE u with h|h
          ·have eb:lb=[]:=bM (by rw[a.out];exact h)
           have h1:=N.out;rw[eb] at h1;unfold FJ at h1;cases h1
          ·exact h
         obtain⟨b,o,x,y,z,rfl,J,d0,U,Q⟩:=K.out.at (k:=0) (by rw[a.out];exact O);simp only[Nat.zero_mul,Nat.add_zero] at d0 U Q;have b7:(0:Int)<(u:Int):=ω
         have hd:=ac (show qU (uQ lo (x,y,z)) (tu la (lb.drop 1))=L by
          rw[<-hrel.out]
          conv=>rhs;rw[head_drop J,aaW (by have h:=N.out;rw[head_drop J] at h;exact h),EI])
         have d4:=Ru (some ⟨b,o,none⟩) u cb 1 ω 1 rfl;have b9:=ac (K.out.cut a.out a7 (show 1<=u by omega));have a3:=ac (show(lb.drop 1).length=u-1 by rw[bk,a.out]);have c0:wc.drew.cell? ⟨b,o,none⟩=some (Vu x):=f.keep d0;have c1:wc.drew.cell? ⟨b,o+1,none⟩=some (Vu y):=f.keep U;have c2:wc.drew.cell? ⟨b,o+2,none⟩=some (Vu z):=f.keep Q;have H:=ac (Qd w wc.drew _ lo x y z (ho.out.ext ((Ext.refl _).drew)) f.drew ω);have b6:=Ur lo (x,y,z);clear J hrel;generalize uQ lo (x,y,z)=Y at*
         go_wp2_with fail
         go_region_with(go_at_call 75;refine H.out.mono ?_;rintro e w3 ⟨v3,rfl,X,x3⟩)
         all_goals
          replace X:=ac X;go_wp2
          go_roundg (j+(u-1))
          case measure=>omega
          case rel=>exact⟨la,lb.drop 1,Y,_,_,j,u-1,ca,cb-1,rfl,rfl,i,a3,a8,ω,M,b9,X,x3,hd,ω,am _⟩
  ·have ea:la=[]:=bM (by rw[i.out];omega)
   have eb:lb=[]:=bM (by rw[a.out];omega);subst ea;subst eb;obtain rfl:j=0:=ω
   obtain rfl:u=0:=ω
   have hz:=ac (show lo=L by rw[<-hrel.out,BJ];rfl);go_wp2;go_ret;obtain⟨A4,c4,e4,h4⟩:=SpS.own ho.out;have hf:=oO ho.out e4;subst e4;exact⟨A4,_,c4,rfl,by rw[<-hz.out],kZ.cap ho.out,by rw[<-hz.out];exact h4,f,hf.2⟩
end Go.Proofs.YtncfhbpejchbfaaGreatDoor

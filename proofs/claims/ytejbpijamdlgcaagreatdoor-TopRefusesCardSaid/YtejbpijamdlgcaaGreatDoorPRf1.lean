/-
  Lemmas of this seat; no claim.
-/
import Derived.Test.YtejbpijamdlgcaaGreatDoorPAf1
import Derived.Test.YtejbpijamdlgcaaGreatDoorRMathP
set_option linter.unusedVariables false
set_option linter.unusedSimpArgs false
set_option maxRecDepth 100000
set_option maxHeartbeats 2000000
open Array renaming getElem?_eq_some_iff→aC
open Bool renaming false_and→iQ,true_and→jr
open Go renaming Calls→aX,Value→aI,World→aj,cell_of_row→ak,cell_regrown→av,info_parts→gJ,wpQuiet_nil→bQ,wp_region_quiet_below→aL
open Go.Builtin renaming append_→fG,firstCells→jB,lenOf→lJ
open Go.Instr renaming slice→fE
open Go.IntKind renaming u32→aA
open Go.Lib renaming hid→ah
open Go.Obj renaming cells→bF
open Go.RowKit.Below renaming block→aJ
open Go.Value renaming int→aG
open Go.World renaming cell?_alloc_some→au
open Go.World.ownsRow renaming alloc→jw,lt→dM
open List renaming drop_eq_getElem_cons→dY,getElem?_eq_none→eF,getElem?_eq_some_iff→aF,length_append→ay
open Nat renaming le_refl→aD,lt_or_ge→dD,zero_le→cK
namespace Go.Proofs.YtejbpijamdlgcaaGreatDoor
open Go.ChangeShapes Go.WideShapes Go.ChangeAt Go.RowKit Go.Sort
def encS (p:Int×Int×Int):List aI:=[Vu p.1,Vu p.2.1,Vu p.2.2]
abbrev spv (x y z:Int):aI:= .agg #[.int .u32 x,.int .u32 y,.int .u32 z]
theorem sJ (p:Int×Int×Int):(encS p).length=3:=rfl
theorem E8 (p:Int×Int×Int):∀u∈encS p,u.oneCell'=true:=by intro u a;simp[encS] at a;rcases a with rfl|rfl|rfl <;> rfl
def SpS (w:aj) (A:Option Addr) (l:List (Int×Int×Int)):Prop:=Row w A (flat encS l)
theorem SpS.ext {w w':aj} {A:Option Addr} {l:List (Int×Int×Int)} (h:SpS w A l) (a:Ext w w'):SpS w' A l:=Row.ext h a
theorem SpS.nil (w:aj) (A:Option Addr):SpS w A []:=Row.nil w A
theorem SpS.at {w:aj} {A:Option Addr} {l:List (Int×Int×Int)} (h:SpS w A l) {k:Nat} (i:k<l.length):
  ∃b o x y z,A=some ⟨b,o,none⟩/\l[k]? =some (x,y,z)/\w.cell? ⟨b,o+k*3,none⟩=some (Vu x)/\w.cell? ⟨b,o+k*3+1,none⟩=some (Vu y)/\w.cell? ⟨b,o+k*3+2,none⟩=some (Vu z):=by
 obtain⟨⟨x,y,z⟩,f⟩:∃p,l[k]? =some p:=⟨l[k],List.getElem?_eq_getElem i⟩;obtain⟨b,o,e,a⟩:=Row.at h sJ f ω;exact⟨b,o,x,y,z,e,f,a 0 _ rfl,a 1 _ rfl,a 2 _ rfl⟩
theorem SE {l:List (Int×Int×Int)} (a:wfS l) {k:Nat} {x y z:Int} (h:l[k]? =some (x,y,z)):0<=x/\x<=4294967295/\0<=y/\y<=4294967295/\0<=z/\z<=4294967295:=a (x,y,z) (List.mem_of_getElem? h)
theorem Nb (x y z:Int) (w:aj) (j:0<=x):aX Tryz.prog 101 #[spv x y z] w λe w'=>e= .returned (.bool (!qQ (x,y,z)))/\Ext w w':=by
 by_cases i:x=0
 ·subst i
  have f:=ah (show(!qQ (0,y,z))=true by simp[qQ]);go_enter Tryz.func101,Tryz.ntmps101;go_wp2;go_ret;exact⟨pR (a:=true) f.out.symm,(Ext.refl _).alloc _⟩
 ·have q:(x==0)=false:=by simpa using i
  have f:=ah (show(!qQ (x,y,z))=decide (z<=y) by
   rw[Bool.eq_iff_iff];simp[qQ];omega)
  clear i j;go_enter Tryz.func101,Tryz.ntmps101;go_wp2;go_ret;exact⟨pR (a:=decide (z<=y)) f.out.symm,(Ext.refl _).alloc _⟩
theorem Ef (x y z f i j:Int) (w:aj):aX Tryz.prog 102 #[spv x y z,spv f i j] w λe w'=>e= .returned (.bool (qK (x,y,z) (f,i,j)))/\Ext w w':=by
 by_cases q:x=f
 ·subst q
  have u:=ah (show qK (x,y,z) (x,i,j)=decide (z<i) by simp[qK]);go_enter Tryz.func102,Tryz.ntmps102;go_wp2;go_ret;exact⟨pR (a:=decide (z<i)) u.out.symm,((Ext.refl _).alloc _).alloc _⟩
 ·have H:(x !=f)=true:=by simpa using q
  have u:=ah (show qK (x,y,z) (f,i,j)=decide (x<f) by simp[qK,q]);clear q;go_enter Tryz.func102,Tryz.ntmps102;go_wp2;go_ret;exact⟨pR (a:=decide (x<f)) u.out.symm,((Ext.refl _).alloc _).alloc _⟩
theorem Qd (x y z c k:Int) (w:aj):aX Tryz.prog 159 #[spv x y z,idv c k] w λe w'=>e= .returned (Vi (qU (x,y,z) c k))/\Ext w w':=by
 by_cases q:x=c
 ·subst q
  by_cases i:z<=k
  ·have f:=ah (show qU (x,y,z) x k= -1 by simp[qU,i])
   go_enter Tryz.func159,Tryz.ntmps159;go_wp2;go_ret;exact⟨qW (a:= -1) f.out.symm,((Ext.refl _).alloc _).alloc _⟩
  ·have H:decide (z<=k)=false:=by simpa using i
   by_cases j:k<y
   ·have f:=ah (show qU (x,y,z) x k=1 by simp[qU,i,j])
    clear i;go_enter Tryz.func159,Tryz.ntmps159;go_wp2;go_ret;exact⟨qW (a:=1) f.out.symm,((Ext.refl _).alloc _).alloc _⟩
   ·have u:decide (k<y)=false:=by simpa using j
    have f:=ah (show qU (x,y,z) x k=0 by simp[qU,i,j]);clear i j;go_enter Tryz.func159,Tryz.ntmps159;go_wp2;go_ret;exact⟨qW (a:=0) f.out.symm,((Ext.refl _).alloc _).alloc _⟩
 ·have I:(x !=c)=true:=by simpa using q
  have f:=ah (show wJ x c=qU (x,y,z) c k by unfold wJ qU;(repeat' split) <;> simp_all <;> omega);clear q;go_enter Tryz.func159,Tryz.ntmps159
  go_wp2_with(go_at_call 129;refine(sQ _ _ _).mono ?_;rintro e w' ⟨rfl,rfl⟩)
  go_ret;exact⟨qW (a:=wJ x c) f.out,((Ext.refl _).alloc _).alloc _⟩
def orI (a b:Int):Int:=if a=0 then b else a
theorem afr (b o cap:Nat) (p q:Int) (w:aj) (K:w.cell? ⟨b,o,none⟩=some (Vi p)) (J:w.cell? ⟨b,o+1,none⟩=some (Vi q)):
  aX Tryz.prog 149 #[.slice (some ⟨b,o,none⟩) 2 cap] w λe w'=>e= .returned (Vi (orI p q))/\w=w':=by
 go_enter Tryz.func149,Tryz.ntmps149;go_wp2
 go_loop [8] (λi=>∃k:Nat,k<=2/\i= .int .i64 k/\Hid ((0<k->p=0)/\(1<k->q=0))) (λi=>2-(intOf i).toNat)
 case atStart=>exact⟨0,ω,rfl,ah ⟨ω,ω⟩⟩
 case round=>
  obtain⟨k,H,rfl,hrel⟩:=hrel
  match k,H with
  |0,_=>
   by_cases f:p=0
   ·subst f
    go_wp2
    go_round
    case rel=>exact⟨1,ω,rfl,ah ⟨λ_=>by trivial,ω⟩⟩
    case measure=>simp[intOf]
   ·have z:(p !=0)=true:=by simpa using f
    have I:=ah (show p=orI p q by simp[orI,f]);clear f;go_wp2;go_ret;exact⟨qW (a:=p) I.out,rfl⟩
  |1,_=>
   obtain rfl:p=0:=hrel.out.1 ω;by_cases j:q=0
   ·subst j
    go_wp2
    go_round
    case rel=>exact⟨2,ω,rfl,ah ⟨λ_=>by trivial,λ_=>by trivial⟩⟩
    case measure=>simp[intOf]
   ·have u:(q !=0)=true:=by simpa using j
    go_wp2;go_ret;exact⟨qW (a:=q) (by simp[orI]),rfl⟩
  |2,_=>
   obtain rfl:p=0:=hrel.out.1 ω;obtain rfl:q=0:=hrel.out.2 ω;go_wp2;go_ret;exact⟨qW (a:=0) (by simp[orI]),rfl⟩
section
attribute [local go_sem] au
theorem Nk {p:Prop} (h:p:=by
 refine bQ ?_;intro _ hw';obtain⟨⟨dq,osq⟩,hw''⟩:=hw';subst hw'';have x1:=Ext.nX wr dq osq;go_wp2
 go_ret2
 exact⟨⟨hi,Jj (b:=false) rfl hf2.out.symm⟩,(x0.trans hx).trans x1⟩):p:=h
theorem Qm (A:Option Addr) (n cap:Nat) (l:List (Int×Int×Int)) (c t:Int) (w:aj) (hv:SpS w A l) (U:l.length=n) (Y:oC zS l=true) (hb:n<=400000):
  aX Tryz.prog 158 #[.slice A n cap,idv c t,.func (.func 159) #[] #[]] w λe w'=>
   (∃i:Int,e= .returned (.tuple #[.int .i64 i,.bool (oL l c t)]))/\Ext w w':=by
 replace U:=ah U;replace hv:=ah hv;replace Y:=ah Y;go_enter Tryz.func158,Tryz.ntmps158;go_wp2;have x0:Ext w (w.alloc (bF #[aG aA c,aG aA t] 55)):=(Ext.refl _).alloc _;have q0:(w.alloc (bF #[aG aA c,aG aA t] 55)).cell? ⟨w.heap.size,0,none⟩=some (Vu c):=σ
 have q1:(w.alloc (bF #[aG aA c,aG aA t] 55)).cell? ⟨w.heap.size,1,none⟩=some (Vu t):=σ
 generalize w.alloc (bF #[aG aA c,aG aA t] 55)=W0 at*;generalize w.heap.size=pt at*
 go_loopg [9,10] n (λkx s9 a1 wr=>∃lo hi:Nat,s9= .int .i64 lo/\a1= .int .i64 hi/\lo<=hi/\hi<=n/\hi-lo<=kx/\Ext W0 wr/\
  Hid ((∀j p,j<lo->l[j]? =some p->qU p c t<0)/\(∀j p,hi<=j->l[j]? =some p->0<=qU p c t)))
 case atStart=>exact⟨0,n,rfl,rfl,cK _,aD _,ω,Ext.refl _,ah ⟨λj p ht=>absurd ht (Nat.not_lt_zero _),λj p h1 O=>by
  rw[eF (by rw[U.out];exact h1)] at O;cases O⟩⟩
 case round=>
  obtain⟨lo,hi,rfl,rfl,a5,hin,hg,hx,I⟩:=hrel;have s0:=av (hx.keep q0);have s1:=av (hx.keep q1);by_cases a4:lo<hi
  ·obtain⟨b,o,x,y,z,rfl,M,c0,c1,c2⟩:=(hv.out.ext (x0.trans hx)).at (k:=(lo+hi)/2) (by rw[U.out];omega)
   replace M:=ah M;have r0:=av c0;have r1:=av c1;have r2:=av c2;clear c0 c1 c2;have a0:(0:Int)<=((lo:Int)+(hi:Int))/2:=ω
   have Z:((lo:Int)+(hi:Int))/2<(n:Int):=ω
   have a:=λW=>Qd x y z c t W
   obtain⟨q,K⟩:∃q,qU (x,y,z) c t=q:=⟨_,rfl⟩;rw[K] at a;replace a:=ah a;obtain⟨f,N⟩:∃f:Nat,f=(lo+hi)/2:=⟨_,rfl⟩;have Q:((lo:Int)+(hi:Int))/2=(f:Int):=ω
   have a6:lo<=f/\f<hi:=ω
   rw[<-N] at M r0 r1 r2;rw[Q] at a0 Z;clear N;replace Q:=ah Q;by_cases H:q<0
   ·have X:decide (q<0)=true:=by simpa using H
    replace K:=ah K
    go_wp2_with fail
    rw[Q.out];clear Q;refine aL κ κ ?_
    repeat go_big_quiet_step((with_reducible exact Calls.oh (a.out _)))
    refine bQ ?_;intro _ hw';obtain⟨⟨dq,osq⟩,hw''⟩:=hw';subst hw'';have x1:=Ext.nX wr dq osq;go_wp2
    go_roundg (hi-(f+1))
    case measure=>omega
    case rel=>
     exact⟨f+1,hi,ν,rfl,ω,hin,aD _,hx.trans x1,
      ah ⟨λj p hj u=>by
          rcases dD j f with g|g
          ·have h1:=QJ Y.out g u M.out
           have O:qU (x,y,z) c t<0:=by rw[K.out];exact H
           rw[Ez] at O⊢;simp only at h1 O;omega
          ·have e:j=f:=ω
           subst e;rw[M.out] at u;injection u with u;subst u;rw[K.out];exact H,I.out.2⟩⟩
   ·have X:decide (q<0)=false:=by simpa using H
    replace K:=ah K
    go_wp2_with fail
    rw[Q.out];clear Q;refine aL κ κ ?_
    repeat go_big_quiet_step((with_reducible exact Calls.oh (a.out _)))
    refine bQ ?_;intro _ hw';obtain⟨⟨dq,osq⟩,hw''⟩:=hw';subst hw'';have x1:=Ext.nX wr dq osq;go_wp2
    go_roundg (f-lo)
    case measure=>omega
    case rel=>
     exact⟨lo,f,rfl,rfl,ω,ω,aD _,hx.trans x1,
      ah ⟨I.out.1,λj p hj u=>by
          rcases dD f j with g|g
          ·have h1:=QJ Y.out g M.out u
           have O:¬qU (x,y,z) c t<0:=by rw[K.out];omega
           have h3:¬qU p c t<0:=by
             rw[Ez] at O⊢;simp only at h1 O;omega
           omega
          ·have e:j=f:=ω
           subst e;rw[M.out] at u;injection u with u;subst u;rw[K.out];omega⟩⟩
  ·obtain rfl:hi=lo:=ω
   have hf:=ah (Yd (c:=c) (k:=t) (i:=hi) Y.out I.out.1 (λp M=>I.out.2 hi p (aD _) M));by_cases J:hi<n
   ·obtain⟨b,o,x,y,z,rfl,M,c0,c1,c2⟩:=(hv.out.ext (x0.trans hx)).at (k:=hi) (by rw[U.out];exact J)
    have r0:=av c0;have r1:=av c1;have r2:=av c2;clear c0 c1 c2;have a0:(0:Int)<=(hi:Int):=ω
    have Z:(hi:Int)<(n:Int):=ω
    have a3:decide ((hi:Int)<(n:Int))=true:=by simpa using J
    have a2:decide (hi<n)=true:=by simpa using J
    have a:=λW=>Qd x y z c t W
    have hf2:=hf.out;rw[M] at hf2;simp only at hf2;obtain⟨q,K⟩:∃q,qU (x,y,z) c t=q:=⟨_,rfl⟩;rw[K] at a hf2;replace a:=ah a;clear M K hf;by_cases H:q=0
    ·subst H
     replace hf2:=ah (show oL l c t=true by rw[hf2];simp)
     go_wp2_with fail
     refine aL κ κ ?_
     repeat go_big_quiet_step((with_reducible exact Calls.oh (a.out _)))
     refine bQ ?_;intro _ hw';obtain⟨⟨dq,osq⟩,hw''⟩:=hw';subst hw'';have x1:=Ext.nX wr dq osq;go_wp2
     go_ret2
     exact⟨⟨hi,Jj (b:=true) rfl hf2.out.symm⟩,(x0.trans hx).trans x1⟩
    ·have X:(q==0)=false:=by simpa using H
     replace hf2:=ah (show oL l c t=false by rw[hf2];simpa using H);clear H
     go_wp2_with fail
     refine aL κ κ ?_
     repeat go_big_quiet_step((with_reducible exact Calls.oh (a.out _)))
     exact Nk
   ·have hf2:=hf.out
    rw[eF (by rw[U.out];omega)] at hf2;replace hf2:=ah (show oL l c t=false from hf2);have a2:decide (hi<n)=false:=by simpa using J
    have a3:decide ((hi:Int)<(n:Int))=false:=by simpa using J
    clear hf
    go_wp2_with fail
    refine aL κ κ ?_
    repeat go_big_quiet_step((fail))
    exact Nk
theorem adD (A:Option Addr) (n cap:Nat) (l:List (Int×Int×Int)) (c t:Int) (w:aj) (hv:SpS w A l) (a:l.length=n) (f:oC zS l=true) (q:n<=400000):
  aX Tryz.prog 118 #[.slice A n cap,idv c t] w λe w'=>e= .returned (.bool (oL l c t))/\Ext w w':=by
 have j:=ah (Qm A n cap l c t (w.alloc (bF #[aG aA c,aG aA t] 55)) (hv.ext ((Ext.refl _).alloc _)) a f q);clear hv a f;generalize oL l c t=h at*;go_enter Tryz.func118,Tryz.ntmps118
 go_wp2_with fail
 refine j.out.mono ?_;rintro e u ⟨⟨i,rfl⟩,x1⟩;go_wp2;go_ret;exact⟨rfl,((Ext.refl _).alloc _).trans x1⟩
end
section
variable {W w:aj} {l:List (Int×Int×Int)} {v:aI}
theorem QZ:(Tryz.prog.info? 98).map (λi=>(i.zero,i.size,i.bytes))=some (some (.agg #[.int .u32 0,.int .u32 0,.int .u32 0]),3,12):=κ
theorem ahU (A:Option Addr) (n cap:Nat) (k:Int) (W:aj) (q:0<=k) (j:k<=n):
  (fE 42 (.slice A n cap) (some (.int .i64 k)) none none).run Tryz.prog W= .ok (.slice (tX A cap k.toNat 3) (n-k.toNat) (cap-k.toNat)) W:=by
 obtain⟨i,hi,f,a,e⟩:=gJ QZ;have:=Bo Tryz.underlying42 hi A n cap k W q j;rw[a] at this;exact this
theorem Um (A:Option Addr) (n cap k:Nat) (e:k<=n) (z:Int) (a:z=k) (W:aj):(fE 42 (.slice A n cap) (some (.int .i64 z)) none none).run Tryz.prog W= .ok (.slice (tX A cap k 3) (n-k) (cap-k)) W:=by
 subst a;exact ahU A n cap k W ω ω
def aeI (c:Nat):Array aI:=Br (.agg #[.int .u32 0,.int .u32 0,.int .u32 0]) (c*3)
theorem CU (c:Nat) (q:c<=1200000) (k:Int) (j:k=c) (W:aj):
  (Instr.makeSlice 42 (.int .i64 0) (.int .i64 k)).run Tryz.prog W= .ok (.slice (some ⟨W.heap.size,0,none⟩) 0 c) (W.alloc (.cells (aeI c) 98)):=by
 subst j;obtain⟨i,hi,f,e,a⟩:=gJ QZ;have:=Bn Tryz.underlying42 hi f e a (c:Int) W ω ω ω;rwa[Int.toNat_natCast] at this
def qg (w W:aj) (v:aI) (l:List (Int×Int×Int)):Prop:=W.ownsRow w.heap.size 98 3 v l.length (flat encS l)
theorem qg.nil (w W:aj):qg w W (.slice none 0 0) []:=World.ownsRow_nil W _ _ _
theorem qg.room {w0:aj} (a:Ext w0 W) (c:Nat) (e:c<=1200000):qg w0 (W.alloc (.cells (aeI c) 98)) (.slice (some ⟨W.heap.size,0,none⟩) 0 c) []:=
 World.ownsRow_made W _ _ a.size (by unfold maxLen;omega) (xJ _ _)
theorem qg.alloc {w W:aj} {v:aI} {l:List (Int×Int×Int)} (h:qg w W v l) (o:Obj):qg w (W.alloc o) v l:=jw h o
theorem qg.ext {W':aj} (h:qg w W v l) (a:Ext W W'):qg w W' v l:=by
 unfold qg at h⊢;rcases h with⟨h1,h2|⟨g,cap,cur,h2,h3,h4,h5⟩⟩
 ·exact⟨h1,.inl h2⟩
 ·refine⟨h1,.inr ⟨g,cap,cur,h2,h3,?_,h5⟩⟩
  have e:g<W.heap.size:=by
   rcases dD g W.heap.size with k|k
   ·exact k
   ·rw[Array.getElem?_eq_none k] at h4;cases h4
  rw[aJ a g e];exact h4
theorem qg.form (h:qg w W v l):∃A c,v= .slice A l.length c:=by
 rcases h.2 with⟨rfl,h0⟩|⟨g,cap,cur,rfl,_⟩
 ·exact⟨none,0,by rw[h0]⟩
 ·exact⟨_,_,rfl⟩
theorem qg.lt {w W:aj} {v:aI} {l:List (Int×Int×Int)} (h:qg w W v l):∀k,v.ownBlock=some k->w.heap.size<=k:=λk a=>(dM h k a).1
theorem SpS.own {w W:aj} {v:aI} {l:List (Int×Int×Int)} (h:qg w W v l):∃A c,v= .slice A l.length c/\SpS W A l:=by
 obtain⟨A,c,rfl⟩:=h.form;exact⟨A,c,rfl,Row.own h⟩
theorem qg.block (h:qg w W v l) (e:0<l.length):∃g c,v= .slice (some ⟨g,0,none⟩) l.length c/\w.heap.size<=g/\g<W.heap.size:=by
 obtain⟨g,cap,hv,_,a⟩:=World.ownsRow.form h e;subst hv;have:=dM h g rfl;exact⟨g,cap,rfl,this.1,this.2⟩
def aiv (w:aj) (l:List (Int×Int×Int)) (e:Ending) (w':aj):Prop:=∃A n c,e= .returned (.slice A n c)/\l.length=n/\n<=c/\SpS w' A l/\Ext w w'
def ae4 (w:aj) (l:List (Int×Int×Int)) (e:Ending) (w':aj):Prop:=∃A n c,e= .returned (.slice A n c)/\l.length=n/\n<=c/\SpS w' A l/\Ext w w'/\wV w.heap.size A
theorem qg.cap {w W:aj} {A:Option Addr} {n c:Nat} {l:List (Int×Int×Int)} (h:qg w W (.slice A n c) l):n<=c:=by
 rcases h.2 with⟨h1,h0⟩|⟨g,cap,cur,h1,_,_,h2,_⟩
 ·injection h1 with _ e1 e2;omega
 ·injection h1 with _ e1 e2;omega
theorem rM {w0:aj} {f:Array Oper} {rest:List Oper} {o:Oper} {a:Act} {Q:Exit->Act->aj->Prop} (H:o.guard=none) (s x:Operand)
  (N:o.op= .call { callee:= .builtin .append,args:= #[s,x],argTypes:= #[42,42] })
  (v:aI) (l:List (Int×Int×Int)) (K:a.eval s=v) (e:qg w0 w v l) (I:Ext w0 w)
  (A:Option Addr) (m c:Nat) (r:List (Int×Int×Int)) (U:a.eval x= .slice A m c) (O:r.length=m) (M:SpS w A r) (Y:l.length+r.length<=1200000)
  (h:∀j w',qg w0 w' j (l++r)->Ext w0 w'->w.grownBy w' v.ownBlock->wpList Tryz.prog f Q rest (a.put o.dst j) w'):wpList Tryz.prog f Q (o::rest) a w:=by
 obtain⟨i,hi,z,u,q⟩:=gJ QZ;subst O;refine vg w H s x _ N w0.heap.size 98 i _ 3 12 Tryz.underlying42 hi z u q rfl ω v l.length _ K e A r.length c _ U (oV sJ r) M (qy E8 r)
  (by unfold maxLen;omega) ω I.size ?_
 intro j w' X J;refine h j w' ?_ (I.grown J e.lt) J;unfold qg;rw[qp,ay];exact X
theorem SpS.cut {w:aj} {A:Option Addr} {l:List (Int×Int×Int)} (h:SpS w A l) {n cap k:Nat} (a:l.length=n) (f:n<=cap) (e:k<=n):SpS w (tX A cap k 3) (l.drop k):=by
 unfold SpS;rw[zN sJ];exact Row.cut h (n:=n) (by rw[oV sJ,a]) f e
theorem SpS.new (w:aj) (x y z:Int):SpS (w.alloc (.cells #[.int .u32 x,.int .u32 y,.int .u32 z] 98)) (some ⟨w.heap.size,0,none⟩) [(x,y,z)]:=Row.new w #[.int .u32 x,.int .u32 y,.int .u32 z] 98
theorem Lm (l:List (Int×Int×Int)) (x y z u:Int):(flat encS (l++[(x,y,z)])).set (l.length*3+2) (Vu u)=flat encS (l++[(x,y,u)]):=by
 rw[qp,qp,List.set_append_right _ _ (by rw[oV sJ];omega),oV sJ,show l.length*3+2-l.length*3=2 by omega];rfl
theorem qg.last {g c:Nat} {x y z:Int} (h:qg w W (.slice (some ⟨g,0,none⟩) (l++[(x,y,z)]).length c) (l++[(x,y,z)])) (u:Int):
  qg w (W.setCell ⟨g,l.length*3+2,none⟩ (Vu u)) (.slice (some ⟨g,0,none⟩) (l++[(x,y,z)]).length c) (l++[(x,y,u)]):=by
 have:=(World.ownsRow.stored h (l.length*3+2) (Vu u)).1;rw[Lm] at this;unfold qg;rw[show(l++[(x,y,u)]).length=(l++[(x,y,z)]).length by simp];exact this
end
section
attribute [local go_sem] au
section
def uV (b:Nat) (W:aj) (v:aI) (l:List (Int×Int×Int)):Prop:=W.ownsRow b 98 3 v l.length (flat encS l)
variable {W W':aj} {g:Nat} {x y z:Int}
theorem uV.nil (b:Nat) (W:aj):uV b W (.slice none 0 0) []:=World.ownsRow_nil W _ _ _
theorem uV.lt {b:Nat} {W:aj} {v:aI} {l:List (Int×Int×Int)} (h:uV b W v l):∀k,v.ownBlock=some k->b<=k/\k<W.heap.size:=dM h
theorem Og {w:aj} (b:Nat) (N:TypeId) (v:aI) (l:List (Int×Int×Int)) (a:uV b w v l) (M:b<=w.heap.size) (A:Option Addr) (m c:Nat) (r:List (Int×Int×Int)) (U:r.length=m) (O:SpS w A r) (hb:l.length+r.length<=1200000):
  ∃f w',(fG #[42,42] N #[v,.slice A m c]).run Tryz.prog w= .ok f w'/\uV b w' f (l++r)/\w.grownBy w' v.ownBlock/\(f.ownBlock=v.ownBlock\/f.ownBlock=some w.heap.size):=by
 obtain⟨i,hi,J,I,H⟩:=gJ QZ;subst U;cases A with
 |none=>
  have h0:r=[]:=by
   cases r with
   |nil=>rfl
   |cons p r=>
    obtain⟨b',Q,e,_⟩:=O (by rw[oV sJ];simp);cases e
  subst h0;refine⟨v,w,?_,by rw[List.append_nil];exact a,⟨rfl,rfl,rfl,aD _,λ_ _ _=>rfl⟩,.inl rfl⟩;rcases a.2 with⟨rfl,_⟩|⟨g,cap,cur,rfl,_,_,hnc,_⟩
  ·simp[fG,run_underlying Tryz.underlying42,sizeOf,typeInfo,hi,lJ,jB]
  ·simp[fG,run_underlying Tryz.underlying42,sizeOf,typeInfo,hi,lJ,jB,hnc,storeCells]
 |some ad=>
  obtain⟨f,w',q,h2,Z,_,Y⟩:=run_append_own_at (P:=Tryz.prog) w b 42 N 98 i _ 3 12 Tryz.underlying42 hi J I H rfl ω v l.length _ a ad r.length c (flat encS r) (oV sJ r) (λj u K=>by
   obtain⟨b',Q,e,X⟩:=O (by
        rcases Nat.eq_zero_or_pos (flat encS r).length with h|h
        ·rw[eF ω] at K;cases K
        ·exact h)
   injection e with e;subst e;rw[wU];exact X j u K) (qy E8 r) (by unfold maxLen;omega) ω M
  refine⟨f,w',q,?_,Z,Y⟩;unfold uV;rw[qp,ay];exact h2
theorem y8 {w:aj} {f:Array Oper} {rest:List Oper} {o:Oper} {a:Act} {Q:Exit->Act->aj->Prop} (q:o.guard=none) (s x:Operand)
  (J:o.op= .call { callee:= .builtin .append,args:= #[s,x],argTypes:= #[42,42] }) (b:Nat)
  (v:aI) (l:List (Int×Int×Int)) (H:a.eval s=v) (j:uV b w v l) (u:b<=w.heap.size)
  (A:Option Addr) (m c:Nat) (r:List (Int×Int×Int)) (N:a.eval x= .slice A m c) (M:r.length=m) (I:SpS w A r) (O:l.length+r.length<=1200000)
  (h:∀e w',uV b w' e (l++r)->w.grownBy w' v.ownBlock->(e.ownBlock=v.ownBlock\/e.ownBlock=some w.heap.size)->wpList Tryz.prog f Q rest (a.put o.dst e) w'):wpList Tryz.prog f Q (o::rest) a w:=by
 refine wpList_plain q λK U=>?_
 obtain⟨e,w',i,Z,Y,X⟩:=Og b o.type v l j u A m c r M I O;unfold Oper.wp execOp;simp only[J,resolve,invoke,builtin,Sem.run_bind,Sem.run_pure,Result.andThen_ok,List.map_toArray,List.map_cons,List.map_nil,H,N,i];exact U _ _ (h e w' Z Y X)
def zT (W:aj) (g:Nat) (x y z:Int):Prop:=W.heap[g]? =some (.cells #[Vu x,Vu y,Vu z] 98 (0,0))
theorem zT.grown {row:Option Nat} (h:zT W g x y z) (e:W.grownBy W' row) (a:some g≠row):zT W' g x y z:=by
 unfold zT at h⊢;rw[e.block g (aC.1 h).1 a];exact h
theorem zT.ext (h:zT W g x y z) (a:Ext W W'):zT W' g x y z:=by
 unfold zT at h⊢;rw[aJ a g (aC.1 h).1];exact h
theorem zT.new (W:aj) (x y z:Int):zT (W.alloc (.cells #[.int .u32 x,.int .u32 y,.int .u32 z] 98)) W.heap.size x y z:=heap_alloc_new W _
theorem zT.cells (h:zT W g x y z):W.cell? ⟨g,0,none⟩=some (Vu x)/\W.cell? ⟨g,1,none⟩=some (Vu y)/\W.cell? ⟨g,2,none⟩=some (Vu z)/\W.frozen? ⟨g,1,none⟩=false/\W.frozen? ⟨g,2,none⟩=false:=
 ⟨by rw[ak W g 0 _ _ _ h];rfl,by rw[ak W g 1 _ _ _ h];rfl,by rw[ak W g 2 _ _ _ h];rfl,frozen_of_row W g 1 _ _ h,frozen_of_row W g 2 _ _ h⟩
theorem zT.set1 (h:zT W g x y z) (u:Int):zT (W.setCell ⟨g,1,none⟩ (Vu u)) g x u z:=heap_setCell_same W g 1 _ _ _ h
theorem uV.ext {b:Nat} {v:aI} {l:List (Int×Int×Int)} (h:uV b W v l) (a:Ext W W'):uV b W' v l:=by
 unfold uV at h⊢;rcases h with⟨h1,h2|⟨g,cap,cur,h2,h3,h4,h5⟩⟩
 ·exact⟨h1,.inl h2⟩
 ·refine⟨h1,.inr ⟨g,cap,cur,h2,h3,?_,h5⟩⟩
  rw[aJ a g (aC.1 h4).1];exact h4
theorem SpS.new2 (w:aj) (o:Obj) (x y z:Int):SpS ((w.alloc o).alloc (.cells #[.int .u32 x,.int .u32 y,.int .u32 z] 98)) (some ⟨w.heap.size+1,0,none⟩) [(x,y,z)]:=by
 have h:=SpS.new (w.alloc o) x y z;rwa[show(w.alloc o).heap.size=w.heap.size+1 by simp] at h
theorem drop_at {l:List (Int×Int×Int)} {k:Nat} {p:Int×Int×Int} (h:l[k]? =some p):l.drop k=p::l.drop (k+1):=by
 obtain⟨a,e⟩:=aF.1 h;rw[dY a,e]
end
section
def xZ (l:List (Int×Int×Int)):Nat->Int×Int×Int
 |0=>zS
 |k+1=>(l[k]?).getD zS
variable {k:Nat} {l:List (Int×Int×Int)} {p:Int×Int×Int}
theorem Gi (h:l[k]? =some p) (a:Int×Int×Int):oC a (l.drop k)=((qK a p&&qQ p)&&oC p (l.drop (k+1))):=by
 obtain⟨f,e⟩:=aF.1 h;rw[dY f,e,oC]
theorem aag (h:l.length<=k) (a:Int×Int×Int):oC a (l.drop k)=true:=by
 rw[List.drop_eq_nil_of_le h];rfl
theorem Cm (h:l[k]? =some p):xZ l (k+1)=p:=by simp[xZ,h]
theorem aah (h:l[k]? =some p) (e:qQ p=false) (a:Int×Int×Int):oC a (l.drop k)=false:=by
 rw[Gi h,e,Bool.and_false,iQ]
theorem TJ (h:l[0]? =some p) (a:qQ p=true):oC (xZ l 0) (l.drop 0)=oC (xZ l (0+1)) (l.drop (0+1)):=by
 rw[Gi h,a,Cm h,show qK (xZ l 0) p=true from xD.2 (.inl (zM.1 a).1),Bool.and_true,jr]
theorem Xu {q:Int×Int×Int} (h:l[k+1]? =some p) (a:l[k]? =some q) (e:qQ p=true):oC (xZ l (k+1)) (l.drop (k+1))=(qK q p&&oC (xZ l (k+1+1)) (l.drop (k+1+1))):=by
 rw[Gi h,e,Cm h,Cm a,Bool.and_true]
theorem aai (A:Option Addr) (n cap:Nat) (l:List (Int×Int×Int)) (w:aj) (hv:SpS w A l) (N:l.length=n) (Z:wfS l) (hb:n<=400000):
  aX Tryz.prog 66 #[.slice A n cap] w λe w'=>e= .returned (.bool (oC zS l))/\Ext w w':=by
 replace N:=ah N;replace hv:=ah hv;replace Z:=ah Z;go_enter Tryz.func66,Tryz.ntmps66;go_wp2
 go_loopw [7] (λi W=>∃(k:Nat),k<=n/\i= .int .i64 k/\Hid (oC zS l=oC (xZ l k) (l.drop k))/\Ext w W) (λi _=>n-(intOf i).toNat)
 case atStart=>exact⟨0,cK _,rfl,ah (by simp[xZ]),Ext.refl _⟩
 case round=>
  obtain⟨k,hk,rfl,hrel,M⟩:=hrel;by_cases a0:k<n
  ·obtain⟨b,o,x,y,z,rfl,K,d0,d1,d2⟩:=hv.out.at (k:=k) (by rw[N.out];exact a0)
   have Y:=SE Z.out K;replace K:=ah K;have c0:=M.keep d0;have c1:=M.keep d1;have c2:=M.keep d2;have f:=ah (λW=>Nb x y z W Y.1)
   go_wp2_with fail
   have q0:(wr.alloc (bF #[aG aA x,aG aA y,aG aA z] 98)).cell? ⟨wr.heap.size,0,none⟩=some (Vu x):=σ
   have q1:(wr.alloc (bF #[aG aA x,aG aA y,aG aA z] 98)).cell? ⟨wr.heap.size,1,none⟩=some (Vu y):=σ
   have q2:(wr.alloc (bF #[aG aA x,aG aA y,aG aA z] 98)).cell? ⟨wr.heap.size,2,none⟩=some (Vu z):=σ
   have x1:Ext wr (wr.alloc (bF #[aG aA x,aG aA y,aG aA z] 98)):=(Ext.refl _).alloc _;clear c0 c1 c2;generalize wr.alloc (bF #[aG aA x,aG aA y,aG aA z] 98)=W1 at*;generalize wr.heap.size=py at*;have u:=M.trans x1;clear x1;have s0:=av q0;have s1:=av q1;have s2:=av q2;clear q0 q1 q2;cases q:qQ (x,y,z) with
   |false=>
    rw[q,Bool.not_false] at f;have J:=ah (aah K.out q (xZ l k));clear q;refine aL κ κ ?_
    repeat go_big_quiet_step((with_reducible exact Calls.oh (f.out _)))
    refine bQ ?_;intro _ H;obtain⟨⟨dq,osq⟩,j⟩:=H;subst j;go_wp2;go_ret;exact⟨pR (a:=false) (by rw[hrel.out,J.out]),u.trans (Ext.nX _ _ _)⟩
   |true=>
    rw[q,Bool.not_true] at f;cases k with
    |zero=>
     have J:=ah (TJ K.out q);clear q;refine aL κ κ ?_
     repeat go_big_quiet_step((with_reducible exact Calls.oh (f.out _)))
     refine bQ ?_;intro _ H;obtain⟨⟨dq,osq⟩,j⟩:=H;subst j;go_wp2
     go_roundw
     case rel=>exact⟨0+1,ω,ν,ah (by rw[hrel.out,J.out]),u.trans (Ext.nX _ _ _)⟩
     case measure=>simp[intOf];omega
    |succ k=>
     obtain⟨b',o',x',y',z',e,hq,U,Q,O⟩:=hv.out.at (k:=k) (by rw[N.out];omega);injection e with e;injection e with e1 e2;subst e1;subst e2;have r0:=av (u.keep U);have r1:=av (u.keep Q);have r2:=av (u.keep O);clear U Q O;have a1:IntKind.i64.wrap (((k+1:Nat):Int)-1)=(k:Int):=by rw[show(((k+1:Nat):Int)-1)=(k:Int) by omega];exact IntWalk.i64_in _ ω
     have a3:(0:Int)<=(k:Int):=ω
     have a2:(k:Int)<(n:Int):=ω
     have hg:decide ((0:Int)<((k+1:Nat):Int))=true:=ι
     have a4:decide ((0:Int)<(k:Int)+1)=true:=by rw[decide_eq_true_eq];omega
     have J:=ah (Xu K.out hq q);have X:=ah (λW=>Ef x' y' z' x y z W);clear q;cases I:qK (x',y',z') (x,y,z) with
     |true=>
      rw[I] at X J;clear I hq;refine aL κ κ ?_
      repeat go_big_quiet_step((first|with_reducible exact Calls.oh (f.out _)|with_reducible exact Calls.oh (X.out _)))
      refine bQ ?_;intro _ H;obtain⟨⟨dq,osq⟩,j⟩:=H;subst j;go_wp2
      go_roundw
      case rel=>exact⟨k+1+1,ω,ν,ah (by rw[hrel.out,J.out,jr]),u.trans (Ext.nX _ _ _)⟩
      case measure=>simp[intOf];omega
     |false=>
      rw[I] at X J;clear I hq;refine aL κ κ ?_
      repeat go_big_quiet_step((first|with_reducible exact Calls.oh (f.out _)|with_reducible exact Calls.oh (X.out _)))
      refine bQ ?_;intro _ H;obtain⟨⟨dq,osq⟩,j⟩:=H;subst j;go_wp2;go_ret;exact⟨pR (a:=false) (by rw[hrel.out,J.out,iQ]),u.trans (Ext.nX _ _ _)⟩
  ·have hz:=ah (show oC (xZ l k) (l.drop k)=true from aag (by rw[N.out];omega) _)
   go_wp2;go_ret;exact⟨pR (a:=true) (by rw[hrel.out,hz.out]),M⟩
end
end
end Go.Proofs.YtejbpijamdlgcaaGreatDoor

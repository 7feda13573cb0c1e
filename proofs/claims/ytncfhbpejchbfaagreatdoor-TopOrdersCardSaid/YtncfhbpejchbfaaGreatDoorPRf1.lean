/-
  Lemmas of this seat; no claim.
-/
import Derived.Test.YtncfhbpejchbfaaGreatDoorPAf1
import Derived.Test.YtncfhbpejchbfaaGreatDoorRMathP
set_option linter.unusedVariables false
set_option linter.unusedSimpArgs false
set_option maxRecDepth 100000
set_option maxHeartbeats 2000000
open Array renaming getElem?_eq_some_iff→an
open Bool renaming false_and→et,true_and→fi
open Go renaming Calls→aO,Value→au,World→ae,cell_of_row→aj,cell_regrown→ai,info_parts→dK,wpQuiet_nil→bh,wp_region_quiet_below→ax
open Go.Builtin renaming append_→dg,firstCells→fp,lenOf→ic
open Go.Instr renaming slice→dm
open Go.IntKind renaming u32→ak
open Go.Lib renaming hid→ac
open Go.Obj renaming cells→aT
open Go.RowKit.Below renaming block→av
open Go.Value renaming int→ao
open Go.World renaming cell?_alloc_some→ah
open Go.World.ownsRow renaming alloc→fl,lt→bQ
open List renaming drop_eq_getElem_cons→dJ,getElem?_eq_none→cU,getElem?_eq_some_iff→aq,length_append→ag
open Nat renaming le_refl→am,lt_or_ge→bL,zero_le→bN
open Go.Proofs.Tryz
open Go.Proofs.Tryz renaming prog→pg
namespace Go.Proofs.YtncfhbpejchbfaaGreatDoor
open Go.ChangeShapes Go.WideShapes Go.ChangeAt Go.RowKit Go.Sort
def encS (p:Int×Int×Int):List au:=[Vu p.1,Vu p.2.1,Vu p.2.2]
abbrev spv (x y z:Int):au:= .agg #[.int .u32 x,.int .u32 y,.int .u32 z]
theorem oK (p:Int×Int×Int):(encS p).length=3:=rfl
theorem Ig (p:Int×Int×Int):∀u∈encS p,u.oneCell'=true:=by intro u a;simp[encS] at a;rcases a with rfl|rfl|rfl <;> rfl
def SpS (w:ae) (A:Option Addr) (l:List (Int×Int×Int)):Prop:=Row w A (flat encS l)
theorem SpS.ext {w w':ae} {A:Option Addr} {l:List (Int×Int×Int)} (h:SpS w A l) (a:Ext w w'):SpS w' A l:=Row.ext h a
theorem SpS.nil (w:ae) (A:Option Addr):SpS w A []:=Row.nil w A
theorem SpS.at {w:ae} {A:Option Addr} {l:List (Int×Int×Int)} (h:SpS w A l) {k:Nat} (i:k<l.length):
  ∃b o x y z,A=some ⟨b,o,none⟩/\l[k]? =some (x,y,z)/\w.cell? ⟨b,o+k*3,none⟩=some (Vu x)/\w.cell? ⟨b,o+k*3+1,none⟩=some (Vu y)/\w.cell? ⟨b,o+k*3+2,none⟩=some (Vu z):=by
 obtain⟨⟨x,y,z⟩,f⟩:∃p,l[k]? =some p:=⟨l[k],List.getElem?_eq_getElem i⟩;obtain⟨b,o,e,a⟩:=Row.at h oK f ω;exact⟨b,o,x,y,z,e,f,a 0 _ rfl,a 1 _ rfl,a 2 _ rfl⟩
theorem Xu {l:List (Int×Int×Int)} (a:wfS l) {k:Nat} {x y z:Int} (h:l[k]? =some (x,y,z)):0<=x/\x<=4294967295/\0<=y/\y<=4294967295/\0<=z/\z<=4294967295:=a (x,y,z) (List.mem_of_getElem? h)
theorem WG (x y z:Int) (w:ae) (j:0<=x):aO pg 62 #[spv x y z] w λe w'=>e= .returned (.bool (!oW (x,y,z)))/\Ext w w':=by
 by_cases i:x=0
 ·subst i
  have f:=ac (show(!oW (0,y,z))=true by simp[oW]);go_enter func62,ntmps62;go_wp2;go_ret;exact⟨kE (a:=true) f.out.symm,(Ext.refl _).alloc _⟩
 ·have q:(x==0)=false:=by simpa using i
  have f:=ac (show(!oW (x,y,z))=decide (z<=y) by
   rw[Bool.eq_iff_iff];simp[oW];omega)
  clear i j;go_enter func62,ntmps62;go_wp2;go_ret;exact⟨kE (a:=decide (z<=y)) f.out.symm,(Ext.refl _).alloc _⟩
theorem AZ (x y z f i j:Int) (w:ae):aO pg 63 #[spv x y z,spv f i j] w λe w'=>e= .returned (.bool (lH (x,y,z) (f,i,j)))/\Ext w w':=by
 by_cases q:x=f
 ·subst q
  have u:=ac (show lH (x,y,z) (x,i,j)=decide (z<i) by simp[lH]);go_enter func63,ntmps63;go_wp2;go_ret;exact⟨kE (a:=decide (z<i)) u.out.symm,((Ext.refl _).alloc _).alloc _⟩
 ·have H:(x !=f)=true:=by simpa using q
  have u:=ac (show lH (x,y,z) (f,i,j)=decide (x<f) by simp[lH,q]);clear q;go_enter func63,ntmps63;go_wp2;go_ret;exact⟨kE (a:=decide (x<f)) u.out.symm,((Ext.refl _).alloc _).alloc _⟩
theorem NH (x y z c k:Int) (w:ae):aO pg 119 #[spv x y z,idv c k] w λe w'=>e= .returned (Vi (lY (x,y,z) c k))/\Ext w w':=by
 by_cases q:x=c
 ·subst q
  by_cases i:z<=k
  ·have f:=ac (show lY (x,y,z) x k= -1 by simp[lY,i])
   go_enter func119,ntmps119;go_wp2;go_ret;exact⟨l7 (a:= -1) f.out.symm,((Ext.refl _).alloc _).alloc _⟩
  ·have H:decide (z<=k)=false:=by simpa using i
   by_cases j:k<y
   ·have f:=ac (show lY (x,y,z) x k=1 by simp[lY,i,j])
    clear i;go_enter func119,ntmps119;go_wp2;go_ret;exact⟨l7 (a:=1) f.out.symm,((Ext.refl _).alloc _).alloc _⟩
   ·have u:decide (k<y)=false:=by simpa using j
    have f:=ac (show lY (x,y,z) x k=0 by simp[lY,i,j]);clear i j;go_enter func119,ntmps119;go_wp2;go_ret;exact⟨l7 (a:=0) f.out.symm,((Ext.refl _).alloc _).alloc _⟩
 ·have I:(x !=c)=true:=by simpa using q
  have f:=ac (show rP x c=lY (x,y,z) c k by unfold rP lY;(repeat' split) <;> simp_all <;> omega);clear q;go_enter func119,ntmps119
  go_wp2_with(go_at_call 94;refine(nQ _ _ _).mono ?_;rintro e w' ⟨rfl,rfl⟩)
  go_ret;exact⟨l7 (a:=rP x c) f.out,((Ext.refl _).alloc _).alloc _⟩
def orI (a b:Int):Int:=if a=0 then b else a
theorem adJ (b o cap:Nat) (p q:Int) (w:ae) (K:w.cell? ⟨b,o,none⟩=some (Vi p)) (J:w.cell? ⟨b,o+1,none⟩=some (Vi q)):
  aO pg 109 #[.slice (some ⟨b,o,none⟩) 2 cap] w λe w'=>e= .returned (Vi (orI p q))/\w=w':=by
 go_enter func109,ntmps109;go_wp2
 go_loop [8] (λi=>∃k:Nat,k<=2/\i= .int .i64 k/\Hid ((0<k->p=0)/\(1<k->q=0))) (λi=>2-(intOf i).toNat)
 case atStart=>exact⟨0,ω,rfl,ac ⟨ω,ω⟩⟩
 case round=>
  obtain⟨k,H,rfl,hrel⟩:=hrel
  match k,H with
  |0,_=>
   by_cases f:p=0
   ·subst f
    go_wp2
    go_round
    case rel=>exact⟨1,ω,rfl,ac ⟨λ_=>by trivial,ω⟩⟩
    case measure=>simp[intOf]
   ·have z:(p !=0)=true:=by simpa using f
    have I:=ac (show p=orI p q by simp[orI,f]);clear f;go_wp2;go_ret;exact⟨l7 (a:=p) I.out,rfl⟩
  |1,_=>
   obtain rfl:p=0:=hrel.out.1 ω;by_cases j:q=0
   ·subst j
    go_wp2
    go_round
    case rel=>exact⟨2,ω,rfl,ac ⟨λ_=>by trivial,λ_=>by trivial⟩⟩
    case measure=>simp[intOf]
   ·have u:(q !=0)=true:=by simpa using j
    go_wp2;go_ret;exact⟨l7 (a:=q) (by simp[orI]),rfl⟩
  |2,_=>
   obtain rfl:p=0:=hrel.out.1 ω;obtain rfl:q=0:=hrel.out.2 ω;go_wp2;go_ret;exact⟨l7 (a:=0) (by simp[orI]),rfl⟩
section
attribute [local go_sem] ah
theorem J7 {p:Prop} (h:p:=by
 refine bh ?_;intro _ hw';obtain⟨⟨dq,osq⟩,hw''⟩:=hw';subst hw'';have x1:=Ext.jv wr dq osq;go_wp2
 go_ret2
 exact⟨⟨hi,F9 (b:=false) rfl hf2.out.symm⟩,(x0.trans hx).trans x1⟩):p:=h
theorem NT (A:Option Addr) (n cap:Nat) (l:List (Int×Int×Int)) (c t:Int) (w:ae) (hv:SpS w A l) (hn:l.length=n) (hm:jE zS l=true) (hb:n<=400000):
  aO pg 118 #[.slice A n cap,idv c t,.func (.func 119) #[] #[]] w λe w'=>
   (∃i:Int,e= .returned (.tuple #[.int .i64 i,.bool (jJ l c t)]))/\Ext w w':=by
 replace hn:=ac hn;replace hv:=ac hv;replace hm:=ac hm;go_enter func118,ntmps118;go_wp2;have x0:Ext w (w.alloc (aT #[ao ak c,ao ak t] 38)):=(Ext.refl _).alloc _;have q0:(w.alloc (aT #[ao ak c,ao ak t] 38)).cell? ⟨w.heap.size,0,none⟩=some (Vu c):=σ
 have q1:(w.alloc (aT #[ao ak c,ao ak t] 38)).cell? ⟨w.heap.size,1,none⟩=some (Vu t):=σ
 generalize w.alloc (aT #[ao ak c,ao ak t] 38)=W0 at*;generalize w.heap.size=pt at*
 go_loopg [9,10] n (λkx s9 a0 wr=>∃lo hi:Nat,s9= .int .i64 lo/\a0= .int .i64 hi/\lo<=hi/\hi<=n/\hi-lo<=kx/\Ext W0 wr/\
  Hid ((∀j p,j<lo->l[j]? =some p->lY p c t<0)/\(∀j p,hi<=j->l[j]? =some p->0<=lY p c t)))
 case atStart=>exact⟨0,n,rfl,rfl,bN _,am _,ω,Ext.refl _,ac ⟨λj p ht=>absurd ht (Nat.not_lt_zero _),λj p Z O=>by
  rw[cU (by rw[hn.out];exact Z)] at O;cases O⟩⟩
 case round=>
  obtain⟨lo,hi,rfl,rfl,a4,hin,hg,hx,I⟩:=hrel;have s0:=ai (hx.keep q0);have s1:=ai (hx.keep q1);by_cases a3:lo<hi
  ·obtain⟨b,o,x,y,z,rfl,M,c0,c1,c2⟩:=(hv.out.ext (x0.trans hx)).at (k:=(lo+hi)/2) (by rw[hn.out];omega)
   replace M:=ac M;have r0:=ai c0;have r1:=ai c1;have r2:=ai c2;clear c0 c1 c2;have Y:(0:Int)<=((lo:Int)+(hi:Int))/2:=ω
   have X:((lo:Int)+(hi:Int))/2<(n:Int):=ω
   have a:=λW=>NH x y z c t W
   obtain⟨q,K⟩:∃q,lY (x,y,z) c t=q:=⟨_,rfl⟩;rw[K] at a;replace a:=ac a;obtain⟨f,N⟩:∃f:Nat,f=(lo+hi)/2:=⟨_,rfl⟩;have Q:((lo:Int)+(hi:Int))/2=(f:Int):=ω
   have a5:lo<=f/\f<hi:=ω
   rw[<-N] at M r0 r1 r2;rw[Q] at Y X;clear N;replace Q:=ac Q;by_cases H:q<0
   ·have U:decide (q<0)=true:=by simpa using H
    replace K:=ac K
    go_wp2_with fail
    rw[Q.out];clear Q;refine ax κ κ ?_
    repeat go_big_quiet_step((with_reducible exact Calls.jA (a.out _)))
    refine bh ?_;intro _ hw';obtain⟨⟨dq,osq⟩,hw''⟩:=hw';subst hw'';have x1:=Ext.jv wr dq osq;go_wp2
    go_roundg (hi-(f+1))
    case measure=>omega
    case rel=>
     exact⟨f+1,hi,ν,rfl,ω,hin,am _,hx.trans x1,
      ac ⟨λj p hj u=>by
          rcases bL j f with g|g
          ·have Z:=Ou hm.out g u M.out
           have O:lY (x,y,z) c t<0:=by rw[K.out];exact H
           rw[Br] at O⊢;simp only at Z O;omega
          ·have e:j=f:=ω
           subst e;rw[M.out] at u;injection u with u;subst u;rw[K.out];exact H,I.out.2⟩⟩
   ·have U:decide (q<0)=false:=by simpa using H
    replace K:=ac K
    go_wp2_with fail
    rw[Q.out];clear Q;refine ax κ κ ?_
    repeat go_big_quiet_step((with_reducible exact Calls.jA (a.out _)))
    refine bh ?_;intro _ hw';obtain⟨⟨dq,osq⟩,hw''⟩:=hw';subst hw'';have x1:=Ext.jv wr dq osq;go_wp2
    go_roundg (f-lo)
    case measure=>omega
    case rel=>
     exact⟨lo,f,rfl,rfl,ω,ω,am _,hx.trans x1,
      ac ⟨I.out.1,λj p hj u=>by
          rcases bL f j with g|g
          ·have Z:=Ou hm.out g M.out u
           have O:¬lY (x,y,z) c t<0:=by rw[K.out];omega
           have h3:¬lY p c t<0:=by
             rw[Br] at O⊢;simp only at Z O;omega
           omega
          ·have e:j=f:=ω
           subst e;rw[M.out] at u;injection u with u;subst u;rw[K.out];omega⟩⟩
  ·obtain rfl:hi=lo:=ω
   have hf:=ac (V8 (c:=c) (k:=t) (i:=hi) hm.out I.out.1 (λp M=>I.out.2 hi p (am _) M));by_cases J:hi<n
   ·obtain⟨b,o,x,y,z,rfl,M,c0,c1,c2⟩:=(hv.out.ext (x0.trans hx)).at (k:=hi) (by rw[hn.out];exact J)
    have r0:=ai c0;have r1:=ai c1;have r2:=ai c2;clear c0 c1 c2;have Y:(0:Int)<=(hi:Int):=ω
    have X:(hi:Int)<(n:Int):=ω
    have a2:decide ((hi:Int)<(n:Int))=true:=by simpa using J
    have a1:decide (hi<n)=true:=by simpa using J
    have a:=λW=>NH x y z c t W
    have hf2:=hf.out;rw[M] at hf2;simp only at hf2;obtain⟨q,K⟩:∃q,lY (x,y,z) c t=q:=⟨_,rfl⟩;rw[K] at a hf2;replace a:=ac a;clear M K hf;by_cases H:q=0
    ·subst H
     replace hf2:=ac (show jJ l c t=true by rw[hf2];simp)
     go_wp2_with fail
     refine ax κ κ ?_
     repeat go_big_quiet_step((with_reducible exact Calls.jA (a.out _)))
     refine bh ?_;intro _ hw';obtain⟨⟨dq,osq⟩,hw''⟩:=hw';subst hw'';have x1:=Ext.jv wr dq osq;go_wp2
     go_ret2
     exact⟨⟨hi,F9 (b:=true) rfl hf2.out.symm⟩,(x0.trans hx).trans x1⟩
    ·have U:(q==0)=false:=by simpa using H
     replace hf2:=ac (show jJ l c t=false by rw[hf2];simpa using H);clear H
     go_wp2_with fail
     refine ax κ κ ?_
     repeat go_big_quiet_step((with_reducible exact Calls.jA (a.out _)))
     exact J7
   ·have hf2:=hf.out
    rw[cU (by rw[hn.out];omega)] at hf2;replace hf2:=ac (show jJ l c t=false from hf2);have a1:decide (hi<n)=false:=by simpa using J
    have a2:decide ((hi:Int)<(n:Int))=false:=by simpa using J
    clear hf
    go_wp2_with fail
    refine ax κ κ ?_
    repeat go_big_quiet_step((fail))
    exact J7
theorem abV (A:Option Addr) (n cap:Nat) (l:List (Int×Int×Int)) (c t:Int) (w:ae) (hv:SpS w A l) (hn:l.length=n) (hm:jE zS l=true) (f:n<=400000):
  aO pg 79 #[.slice A n cap,idv c t] w λe w'=>e= .returned (.bool (jJ l c t))/\Ext w w':=by
 have a:=ac (NT A n cap l c t (w.alloc (aT #[ao ak c,ao ak t] 38)) (hv.ext ((Ext.refl _).alloc _)) hn hm f);clear hv hn hm;generalize jJ l c t=h at*;go_enter func79,ntmps79
 go_wp2_with fail
 refine a.out.mono ?_;rintro e j ⟨⟨i,rfl⟩,x1⟩;go_wp2;go_ret;exact⟨rfl,((Ext.refl _).alloc _).trans x1⟩
end
section
variable {W w:ae} {l:List (Int×Int×Int)} {v:au}
theorem OM:(pg.info? 74).map (λi=>(i.zero,i.size,i.bytes))=some (some (.agg #[.int .u32 0,.int .u32 0,.int .u32 0]),3,12):=κ
theorem agf (A:Option Addr) (n cap:Nat) (k:Int) (W:ae) (q:0<=k) (j:k<=n):
  (dm 34 (.slice A n cap) (some (.int .i64 k)) none none).run pg W= .ok (.slice (oq A cap k.toNat 3) (n-k.toNat) (cap-k.toNat)) W:=by
 obtain⟨i,hi,f,a,e⟩:=dK OM;have:=xU underlying34 hi A n cap k W q j;rw[a] at this;exact this
theorem Ru (A:Option Addr) (n cap k:Nat) (e:k<=n) (z:Int) (a:z=k) (W:ae):(dm 34 (.slice A n cap) (some (.int .i64 z)) none none).run pg W= .ok (.slice (oq A cap k 3) (n-k) (cap-k)) W:=by
 subst a;exact agf A n cap k W ω ω
def acY (c:Nat):Array au:=Eo (.agg #[.int .u32 0,.int .u32 0,.int .u32 0]) (c*3)
theorem UU (c:Nat) (q:c<=1200000) (k:Int) (j:k=c) (W:ae):
  (Instr.makeSlice 34 (.int .i64 0) (.int .i64 k)).run pg W= .ok (.slice (some ⟨W.heap.size,0,none⟩) 0 c) (W.alloc (.cells (acY c) 74)):=by
 subst j;obtain⟨i,hi,f,e,a⟩:=dK OM;have:=BD underlying34 hi f e a (c:Int) W ω ω ω;rwa[Int.toNat_natCast] at this
def kZ (w W:ae) (v:au) (l:List (Int×Int×Int)):Prop:=W.ownsRow w.heap.size 74 3 v l.length (flat encS l)
theorem kZ.nil (w W:ae):kZ w W (.slice none 0 0) []:=World.ownsRow_nil W _ _ _
theorem kZ.room {w0:ae} (a:Ext w0 W) (c:Nat) (e:c<=1200000):kZ w0 (W.alloc (.cells (acY c) 74)) (.slice (some ⟨W.heap.size,0,none⟩) 0 c) []:=
 World.ownsRow_made W _ _ a.size (by unfold maxLen;omega) (wM _ _)
theorem kZ.alloc {w W:ae} {v:au} {l:List (Int×Int×Int)} (h:kZ w W v l) (o:Obj):kZ w (W.alloc o) v l:=fl h o
theorem kZ.ext {W':ae} (h:kZ w W v l) (a:Ext W W'):kZ w W' v l:=by
 unfold kZ at h⊢;rcases h with⟨h1,h2|⟨g,cap,cur,h2,h3,h4,h5⟩⟩
 ·exact⟨h1,.inl h2⟩
 ·refine⟨h1,.inr ⟨g,cap,cur,h2,h3,?_,h5⟩⟩
  have e:g<W.heap.size:=by
   rcases bL g W.heap.size with k|k
   ·exact k
   ·rw[Array.getElem?_eq_none k] at h4;cases h4
  rw[av a g e];exact h4
theorem kZ.form (h:kZ w W v l):∃A c,v= .slice A l.length c:=by
 rcases h.2 with⟨rfl,h0⟩|⟨g,cap,cur,rfl,_⟩
 ·exact⟨none,0,by rw[h0]⟩
 ·exact⟨_,_,rfl⟩
theorem kZ.lt {w W:ae} {v:au} {l:List (Int×Int×Int)} (h:kZ w W v l):∀k,v.ownBlock=some k->w.heap.size<=k:=λk a=>(bQ h k a).1
theorem SpS.own {w W:ae} {v:au} {l:List (Int×Int×Int)} (h:kZ w W v l):∃A c,v= .slice A l.length c/\SpS W A l:=by
 obtain⟨A,c,rfl⟩:=h.form;exact⟨A,c,rfl,Row.own h⟩
theorem kZ.block (h:kZ w W v l) (e:0<l.length):∃g c,v= .slice (some ⟨g,0,none⟩) l.length c/\w.heap.size<=g/\g<W.heap.size:=by
 obtain⟨g,cap,hv,_,a⟩:=World.ownsRow.form h e;subst hv;have:=bQ h g rfl;exact⟨g,cap,rfl,this.1,this.2⟩
def ado (w:ae) (l:List (Int×Int×Int)) (e:Ending) (w':ae):Prop:=∃A n c,e= .returned (.slice A n c)/\l.length=n/\n<=c/\SpS w' A l/\Ext w w'/\rZ w.heap.size A
theorem kZ.cap {w W:ae} {A:Option Addr} {n c:Nat} {l:List (Int×Int×Int)} (h:kZ w W (.slice A n c) l):n<=c:=by
 rcases h.2 with⟨h1,h0⟩|⟨g,cap,cur,h1,_,_,h2,_⟩
 ·injection h1 with _ e1 e2;omega
 ·injection h1 with _ e1 e2;omega
theorem pG {w0:ae} {f:Array Oper} {rest:List Oper} {o:Oper} {a:Act} {Q:Exit->Act->ae->Prop} (H:o.guard=none) (s x:Operand)
  (N:o.op= .call { callee:= .builtin .append,args:= #[s,x],argTypes:= #[34,34] })
  (v:au) (l:List (Int×Int×Int)) (K:a.eval s=v) (e:kZ w0 w v l) (I:Ext w0 w)
  (A:Option Addr) (m c:Nat) (r:List (Int×Int×Int)) (O:a.eval x= .slice A m c) (hm:r.length=m) (M:SpS w A r) (X:l.length+r.length<=1200000)
  (h:∀j w',kZ w0 w' j (l++r)->Ext w0 w'->w.grownBy w' v.ownBlock->wpList pg f Q rest (a.put o.dst j) w'):wpList pg f Q (o::rest) a w:=by
 obtain⟨i,hi,z,u,q⟩:=dK OM;subst hm;refine ql w H s x _ N w0.heap.size 74 i _ 3 12 underlying34 hi z u q rfl ω v l.length _ K e A r.length c _ O (jR oK r) M (lI Ig r)
  (by unfold maxLen;omega) ω I.size ?_
 intro j w' U J;refine h j w' ?_ (I.grown J e.lt) J;unfold kZ;rw[kQ,ag];exact U
theorem SpS.cut {w:ae} {A:Option Addr} {l:List (Int×Int×Int)} (h:SpS w A l) {n cap k:Nat} (hn:l.length=n) (e:n<=cap) (a:k<=n):SpS w (oq A cap k 3) (l.drop k):=by
 unfold SpS;rw[wE oK];exact Row.cut h (n:=n) (by rw[jR oK,hn]) e a
theorem SpS.new (w:ae) (x y z:Int):SpS (w.alloc (.cells #[.int .u32 x,.int .u32 y,.int .u32 z] 74)) (some ⟨w.heap.size,0,none⟩) [(x,y,z)]:=Row.new w #[.int .u32 x,.int .u32 y,.int .u32 z] 74
theorem I4 (l:List (Int×Int×Int)) (x y z u:Int):(flat encS (l++[(x,y,z)])).set (l.length*3+2) (Vu u)=flat encS (l++[(x,y,u)]):=by
 rw[kQ,kQ,List.set_append_right _ _ (by rw[jR oK];omega),jR oK,show l.length*3+2-l.length*3=2 by omega];rfl
theorem kZ.last {g c:Nat} {x y z:Int} (h:kZ w W (.slice (some ⟨g,0,none⟩) (l++[(x,y,z)]).length c) (l++[(x,y,z)])) (u:Int):
  kZ w (W.setCell ⟨g,l.length*3+2,none⟩ (Vu u)) (.slice (some ⟨g,0,none⟩) (l++[(x,y,z)]).length c) (l++[(x,y,u)]):=by
 have:=(World.ownsRow.stored h (l.length*3+2) (Vu u)).1;rw[I4] at this;unfold kZ;rw[show(l++[(x,y,u)]).length=(l++[(x,y,z)]).length by simp];exact this
end
section
attribute [local go_sem] ah
section
def qg (b:Nat) (W:ae) (v:au) (l:List (Int×Int×Int)):Prop:=W.ownsRow b 74 3 v l.length (flat encS l)
variable {W W':ae} {g:Nat} {x y z:Int}
theorem qg.nil (b:Nat) (W:ae):qg b W (.slice none 0 0) []:=World.ownsRow_nil W _ _ _
theorem qg.lt {b:Nat} {W:ae} {v:au} {l:List (Int×Int×Int)} (h:qg b W v l):∀k,v.ownBlock=some k->b<=k/\k<W.heap.size:=bQ h
theorem Lc {w:ae} (b:Nat) (N:TypeId) (v:au) (l:List (Int×Int×Int)) (a:qg b w v l) (M:b<=w.heap.size) (A:Option Addr) (m c:Nat) (r:List (Int×Int×Int)) (hm:r.length=m) (O:SpS w A r) (hb:l.length+r.length<=1200000):
  ∃f w',(dg #[34,34] N #[v,.slice A m c]).run pg w= .ok f w'/\qg b w' f (l++r)/\w.grownBy w' v.ownBlock/\(f.ownBlock=v.ownBlock\/f.ownBlock=some w.heap.size):=by
 obtain⟨i,hi,J,I,H⟩:=dK OM;subst hm;cases A with
 |none=>
  have h0:r=[]:=by
   cases r with
   |nil=>rfl
   |cons p r=>
    obtain⟨b',Q,e,_⟩:=O (by rw[jR oK];simp);cases e
  subst h0;refine⟨v,w,?_,by rw[List.append_nil];exact a,⟨rfl,rfl,rfl,am _,λ_ _ _=>rfl⟩,.inl rfl⟩;rcases a.2 with⟨rfl,_⟩|⟨g,cap,cur,rfl,_,_,hnc,_⟩
  ·simp[dg,run_underlying underlying34,sizeOf,typeInfo,hi,ic,fp]
  ·simp[dg,run_underlying underlying34,sizeOf,typeInfo,hi,ic,fp,hnc,storeCells]
 |some ad=>
  obtain⟨f,w',q,Z,Y,_,X⟩:=run_append_own_at (P:=pg) w b 34 N 74 i _ 3 12 underlying34 hi J I H rfl ω v l.length _ a ad r.length c (flat encS r) (jR oK r) (λj u K=>by
   obtain⟨b',Q,e,U⟩:=O (by
        rcases Nat.eq_zero_or_pos (flat encS r).length with h|h
        ·rw[cU ω] at K;cases K
        ·exact h)
   injection e with e;subst e;rw[tX];exact U j u K) (lI Ig r) (by unfold maxLen;omega) ω M
  refine⟨f,w',q,?_,Y,X⟩;unfold qg;rw[kQ,ag];exact Z
theorem vv {w:ae} {f:Array Oper} {rest:List Oper} {o:Oper} {a:Act} {Q:Exit->Act->ae->Prop} (q:o.guard=none) (s x:Operand)
  (J:o.op= .call { callee:= .builtin .append,args:= #[s,x],argTypes:= #[34,34] }) (b:Nat)
  (v:au) (l:List (Int×Int×Int)) (H:a.eval s=v) (j:qg b w v l) (u:b<=w.heap.size)
  (A:Option Addr) (m c:Nat) (r:List (Int×Int×Int)) (M:a.eval x= .slice A m c) (hm:r.length=m) (I:SpS w A r) (N:l.length+r.length<=1200000)
  (h:∀e w',qg b w' e (l++r)->w.grownBy w' v.ownBlock->(e.ownBlock=v.ownBlock\/e.ownBlock=some w.heap.size)->wpList pg f Q rest (a.put o.dst e) w'):wpList pg f Q (o::rest) a w:=by
 refine wpList_plain q λK O=>?_
 obtain⟨e,w',i,Y,X,U⟩:=Lc b o.type v l j u A m c r hm I N;unfold Oper.wp execOp;simp only[J,resolve,invoke,builtin,Sem.run_bind,Sem.run_pure,Result.andThen_ok,List.map_toArray,List.map_cons,List.map_nil,H,M,i];exact O _ _ (h e w' Y X U)
def wK (W:ae) (g:Nat) (x y z:Int):Prop:=W.heap[g]? =some (.cells #[Vu x,Vu y,Vu z] 74 (0,0))
theorem wK.grown {row:Option Nat} (h:wK W g x y z) (a:W.grownBy W' row) (hn:some g≠row):wK W' g x y z:=by
 unfold wK at h⊢;rw[a.block g (an.1 h).1 hn];exact h
theorem wK.ext (h:wK W g x y z) (a:Ext W W'):wK W' g x y z:=by
 unfold wK at h⊢;rw[av a g (an.1 h).1];exact h
theorem wK.new (W:ae) (x y z:Int):wK (W.alloc (.cells #[.int .u32 x,.int .u32 y,.int .u32 z] 74)) W.heap.size x y z:=heap_alloc_new W _
theorem wK.cells (h:wK W g x y z):W.cell? ⟨g,0,none⟩=some (Vu x)/\W.cell? ⟨g,1,none⟩=some (Vu y)/\W.cell? ⟨g,2,none⟩=some (Vu z)/\W.frozen? ⟨g,1,none⟩=false/\W.frozen? ⟨g,2,none⟩=false:=
 ⟨by rw[aj W g 0 _ _ _ h];rfl,by rw[aj W g 1 _ _ _ h];rfl,by rw[aj W g 2 _ _ _ h];rfl,frozen_of_row W g 1 _ _ h,frozen_of_row W g 2 _ _ h⟩
theorem wK.set1 (h:wK W g x y z) (u:Int):wK (W.setCell ⟨g,1,none⟩ (Vu u)) g x u z:=heap_setCell_same W g 1 _ _ _ h
theorem qg.ext {b:Nat} {v:au} {l:List (Int×Int×Int)} (h:qg b W v l) (a:Ext W W'):qg b W' v l:=by
 unfold qg at h⊢;rcases h with⟨h1,h2|⟨g,cap,cur,h2,h3,h4,h5⟩⟩
 ·exact⟨h1,.inl h2⟩
 ·refine⟨h1,.inr ⟨g,cap,cur,h2,h3,?_,h5⟩⟩
  rw[av a g (an.1 h4).1];exact h4
theorem drop_at {l:List (Int×Int×Int)} {k:Nat} {p:Int×Int×Int} (h:l[k]? =some p):l.drop k=p::l.drop (k+1):=by
 obtain⟨a,e⟩:=aq.1 h;rw[dJ a,e]
end
section
def tV (l:List (Int×Int×Int)):Nat->Int×Int×Int
 |0=>zS
 |k+1=>(l[k]?).getD zS
variable {k:Nat} {l:List (Int×Int×Int)} {p:Int×Int×Int}
theorem Dz (h:l[k]? =some p) (a:Int×Int×Int):jE a (l.drop k)=((lH a p&&oW p)&&jE p (l.drop (k+1))):=by
 obtain⟨f,e⟩:=aq.1 h;rw[dJ f,e,jE]
theorem YN (h:l.length<=k) (a:Int×Int×Int):jE a (l.drop k)=true:=by
 rw[List.drop_eq_nil_of_le h];rfl
theorem yS (h:l[k]? =some p):tV l (k+1)=p:=by simp[tV,h]
theorem YO (h:l[k]? =some p) (e:oW p=false) (a:Int×Int×Int):jE a (l.drop k)=false:=by
 rw[Dz h,e,Bool.and_false,et]
theorem QJ (h:l[0]? =some p) (a:oW p=true):jE (tV l 0) (l.drop 0)=jE (tV l (0+1)) (l.drop (0+1)):=by
 rw[Dz h,a,yS h,show lH (tV l 0) p=true from sO.2 (.inl (wD.1 a).1),Bool.and_true,fi]
theorem Vg {q:Int×Int×Int} (h:l[k+1]? =some p) (a:l[k]? =some q) (e:oW p=true):jE (tV l (k+1)) (l.drop (k+1))=(lH q p&&jE (tV l (k+1+1)) (l.drop (k+1+1))):=by
 rw[Dz h,e,yS h,yS a,Bool.and_true]
theorem YP (A:Option Addr) (n cap:Nat) (l:List (Int×Int×Int)) (w:ae) (hv:SpS w A l) (hn:l.length=n) (Y:wfS l) (hb:n<=400000):
  aO pg 32 #[.slice A n cap] w λe w'=>e= .returned (.bool (jE zS l))/\Ext w w':=by
 replace hn:=ac hn;replace hv:=ac hv;replace Y:=ac Y;go_enter func32,ntmps32;go_wp2
 go_loopw [7] (λi W=>∃(k:Nat),k<=n/\i= .int .i64 k/\Hid (jE zS l=jE (tV l k) (l.drop k))/\Ext w W) (λi _=>n-(intOf i).toNat)
 case atStart=>exact⟨0,bN _,rfl,ac (by simp[tV]),Ext.refl _⟩
 case round=>
  obtain⟨k,hk,rfl,hrel,M⟩:=hrel;by_cases a0:k<n
  ·obtain⟨b,o,x,y,z,rfl,K,d0,d1,d2⟩:=hv.out.at (k:=k) (by rw[hn.out];exact a0)
   have X:=Xu Y.out K;replace K:=ac K;have c0:=M.keep d0;have c1:=M.keep d1;have c2:=M.keep d2;have f:=ac (λW=>WG x y z W X.1)
   go_wp2_with fail
   have q0:(wr.alloc (aT #[ao ak x,ao ak y,ao ak z] 74)).cell? ⟨wr.heap.size,0,none⟩=some (Vu x):=σ
   have q1:(wr.alloc (aT #[ao ak x,ao ak y,ao ak z] 74)).cell? ⟨wr.heap.size,1,none⟩=some (Vu y):=σ
   have q2:(wr.alloc (aT #[ao ak x,ao ak y,ao ak z] 74)).cell? ⟨wr.heap.size,2,none⟩=some (Vu z):=σ
   have x1:Ext wr (wr.alloc (aT #[ao ak x,ao ak y,ao ak z] 74)):=(Ext.refl _).alloc _;clear c0 c1 c2;generalize wr.alloc (aT #[ao ak x,ao ak y,ao ak z] 74)=W1 at*;generalize wr.heap.size=py at*;have u:=M.trans x1;clear x1;have s0:=ai q0;have s1:=ai q1;have s2:=ai q2;clear q0 q1 q2;cases q:oW (x,y,z) with
   |false=>
    rw[q,Bool.not_false] at f;have J:=ac (YO K.out q (tV l k));clear q;refine ax κ κ ?_
    repeat go_big_quiet_step((with_reducible exact Calls.jA (f.out _)))
    refine bh ?_;intro _ H;obtain⟨⟨dq,osq⟩,j⟩:=H;subst j;go_wp2;go_ret;exact⟨kE (a:=false) (by rw[hrel.out,J.out]),u.trans (Ext.jv _ _ _)⟩
   |true=>
    rw[q,Bool.not_true] at f;cases k with
    |zero=>
     have J:=ac (QJ K.out q);clear q;refine ax κ κ ?_
     repeat go_big_quiet_step((with_reducible exact Calls.jA (f.out _)))
     refine bh ?_;intro _ H;obtain⟨⟨dq,osq⟩,j⟩:=H;subst j;go_wp2
     go_roundw
     case rel=>exact⟨0+1,ω,ν,ac (by rw[hrel.out,J.out]),u.trans (Ext.jv _ _ _)⟩
     case measure=>simp[intOf];omega
    |succ k=>
     obtain⟨b',o',x',y',z',e,Z,Q,O,N⟩:=hv.out.at (k:=k) (by rw[hn.out];omega);injection e with e;injection e with e1 e2;subst e1;subst e2;have r0:=ai (u.keep Q);have r1:=ai (u.keep O);have r2:=ai (u.keep N);clear Q O N;have a1:IntKind.i64.wrap (((k+1:Nat):Int)-1)=(k:Int):=by rw[show(((k+1:Nat):Int)-1)=(k:Int) by omega];exact IntWalk.i64_in _ ω
     have a3:(0:Int)<=(k:Int):=ω
     have a2:(k:Int)<(n:Int):=ω
     have hg:decide ((0:Int)<((k+1:Nat):Int))=true:=ι
     have a4:decide ((0:Int)<(k:Int)+1)=true:=by rw[decide_eq_true_eq];omega
     have J:=ac (Vg K.out Z q);have U:=ac (λW=>AZ x' y' z' x y z W);clear q;cases I:lH (x',y',z') (x,y,z) with
     |true=>
      rw[I] at U J;clear I Z;refine ax κ κ ?_
      repeat go_big_quiet_step((first|with_reducible exact Calls.jA (f.out _)|with_reducible exact Calls.jA (U.out _)))
      refine bh ?_;intro _ H;obtain⟨⟨dq,osq⟩,j⟩:=H;subst j;go_wp2
      go_roundw
      case rel=>exact⟨k+1+1,ω,ν,ac (by rw[hrel.out,J.out,fi]),u.trans (Ext.jv _ _ _)⟩
      case measure=>simp[intOf];omega
     |false=>
      rw[I] at U J;clear I Z;refine ax κ κ ?_
      repeat go_big_quiet_step((first|with_reducible exact Calls.jA (f.out _)|with_reducible exact Calls.jA (U.out _)))
      refine bh ?_;intro _ H;obtain⟨⟨dq,osq⟩,j⟩:=H;subst j;go_wp2;go_ret;exact⟨kE (a:=false) (by rw[hrel.out,J.out,et]),u.trans (Ext.jv _ _ _)⟩
  ·have hz:=ac (show jE (tV l k) (l.drop k)=true from YN (by rw[hn.out];omega) _)
   go_wp2;go_ret;exact⟨kE (a:=true) (by rw[hrel.out,hz.out]),M⟩
end
end
end Go.Proofs.YtncfhbpejchbfaaGreatDoor

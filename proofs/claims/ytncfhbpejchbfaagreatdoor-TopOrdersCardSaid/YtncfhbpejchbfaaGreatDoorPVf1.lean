/-
  Lemmas of this seat; no claim.
-/
import Derived.Deep.DeepCutAuto
import Derived.Test.YtncfhbpejchbfaaGreatDoorPAf1
import Derived.Test.YtncfhbpejchbfaaGreatDoorVMathP
set_option linter.unusedVariables false
set_option linter.unusedSimpArgs false
set_option maxHeartbeats 4000000
open Go renaming Calls→aO,Value→au,World→ae,info_parts→dK
open Go.Instr renaming slice→dm
open Go.Lib renaming hid→ac
open Go.RowKit.Below renaming block→av
open Go.World renaming block_lt_of_cell?→cK
open Go.World.ownsRow renaming alloc→fl
open List renaming append_nil→bB,drop_eq_getElem_cons→dJ,drop_zero→cH,eq_nil_of_length_eq_zero→bM,getElem?_eq_some_iff→aq,length_append→ag,length_cons→ar,length_drop→bk,length_nil→aG,length_take→bv,nil_append→aR
open Nat renaming le_refl→am,lt_or_ge→bL,zero_le→bN
open Go.Proofs.Tryz
open Go.Proofs.Tryz renaming prog→pg
namespace Go.Proofs.YtncfhbpejchbfaaGreatDoor
open Go.ChangeShapes Go.WideShapes Go.ChangeAt Go.RowKit Go.Sort
def DX (p:Int×Int):List au:=[Vu p.1,Vu p.2]
theorem wG (p:Int×Int):(DX p).length=2:=rfl
theorem Z5 (p:Int×Int):∀u∈DX p,u.oneCell'=true:=by intro u a;simp[DX] at a;rcases a with rfl|rfl <;> rfl
def Vec (w:ae) (A:Option Addr) (l:List (Int×Int)):Prop:=Row w A (flat DX l)
theorem Vec.ext {w w':ae} {A:Option Addr} {l:List (Int×Int)} (h:Vec w A l) (a:Ext w w'):Vec w' A l:=Row.ext h a
theorem Vec.nil (w:ae) (A:Option Addr):Vec w A []:=Row.nil w A
theorem Vec.at {w:ae} {A:Option Addr} {l:List (Int×Int)} (h:Vec w A l) {k:Nat} (i:k<l.length):
  ∃b o x y,A=some ⟨b,o,none⟩/\l[k]? =some (x,y)/\w.cell? ⟨b,o+k*2,none⟩=some (Vu x)/\w.cell? ⟨b,o+k*2+1,none⟩=some (Vu y):=by
 obtain⟨⟨x,y⟩,a⟩:∃p,l[k]? =some p:=⟨l[k],List.getElem?_eq_getElem i⟩;obtain⟨b,o,e,f⟩:=Row.at h wG a ω;exact⟨b,o,x,y,e,a,f 0 _ rfl,f 1 _ rfl⟩
def ahead (l:List (Int×Int)):Nat->Int
 |0=>0
 |k+1=>((l[k]?).getD (0,0)).1
theorem WL (a b:Int) (W:ae):(binOp .neq 79 (.agg #[.int .u32 a,.int .u32 b]) (.agg #[.int .u32 a,.int .u32 b])).run pg W= .ok (.bool false) W:=by
 simp[go_sem]
theorem Yi (A B:Option Addr) (n cap j:Nat) (l:List (Int×Int)) (w:ae) (hv:Vec w A l) (u:Vec w B l) (hn:l.length=n) (Q:n<=400000):
  aO pg 10 #[.slice A n cap,.slice B n j] w λe w'=>e= .returned (.bool true)/\Ext w w':=by
 replace hn:=ac hn;replace hv:=ac hv;replace u:=ac u;go_enter func10,ntmps10;go_wp2
 go_loopw [5] (λi W=>∃(k:Nat),k<=n/\i= .int .i64 k/\Ext w W) (λi _=>n-(intOf i).toNat)
 case atStart=>exact⟨0,bN _,rfl,Ext.refl _⟩
 case round=>
  obtain⟨k,O,rfl,q⟩:=hrel;by_cases f:k<n
  ·obtain⟨b,o,x,y,rfl,z,c0,c1⟩:=(hv.out.ext q).at (k:=k) (by rw[hn.out];exact f)
   obtain⟨U,N,M,K,rfl,a,J,I⟩:=(u.out.ext q).at (k:=k) (by rw[hn.out];exact f);rw[z] at a;injection a with a;injection a with e1 e2;subst e1;subst e2;clear z;have H:=WL x y;go_wp2
   go_quiet(fail)
   go_wp2
   go_roundw
   case rel=>exact⟨k+1,ω,ν,q.drewN _⟩
   case measure=>simp[intOf];omega
  ·go_wp2
   go_ret;exact⟨rfl,q⟩
theorem wZ (x y c:Int) (w:ae):aO pg 126 #[.agg #[.int .u32 x,.int .u32 y],Vu c] w λe w'=>e= .returned (Vi (rP x c))/\Ext w w':=by
 go_enter func126,ntmps126
 go_wp2_with(go_at_call 94;refine(nQ _ _ _).mono ?_;rintro e w' ⟨rfl,rfl⟩)
 go_ret;exact⟨rfl,(Ext.refl _).alloc _⟩
theorem Qs (A:Option Addr) (n cap:Nat) (l:List (Int×Int)) (c:Int) (w:ae) (hv:Vec w A l) (hn:l.length=n) (hm:jB 0 l=true) (hb:n<=400000):
  aO pg 125 #[.slice A n cap,Vu c,.func (.func 126) #[] #[]] w λe w'=>
   e= .returned (.tuple #[.int .i64 (idxOf l c:Nat),.bool (nP l c)])/\Ext w w':=by
 replace hn:=ac hn;replace hv:=ac hv;replace hm:=ac hm;go_enter func125,ntmps125;go_wp2
 go_loopg [9,10] n (λY X Q wr=>∃lo hi:Nat,X= .int .i64 lo/\Q= .int .i64 hi/\lo<=hi/\hi<=n/\hi-lo<=Y/\Ext w wr/\
  Hid ((∀t p,t<lo->l[t]? =some p->p.1<c)/\(∀t p,hi<=t->l[t]? =some p->c<=p.1)))
 case atStart=>exact⟨0,n,rfl,rfl,bN _,am _,ω,Ext.refl _,ac ⟨λt p U=>absurd U (Nat.not_lt_zero _),λt p h1 W=>by
  rw[List.getElem?_eq_none (by rw[hn.out];exact h1)] at W;cases W⟩⟩
 case round=>
  obtain⟨lo,hi,rfl,rfl,a1,hin,hg,J,I⟩:=hrel;by_cases a0:lo<hi
  ·obtain⟨b,o,x,y,rfl,H,c0,c1⟩:=(hv.out.ext J).at (k:=(lo+hi)/2) (by rw[hn.out];omega)
   replace H:=ac H;by_cases j:x<c
   ·have f:=wZ x y c wr
    rw[show rP x c= -1 by simp[rP,j]] at f;replace f:=ac f
    go_wp2_with fail
    refine f.out.mono ?_;rintro e O ⟨rfl,x1⟩;go_wp2
    go_roundg (hi-((lo+hi)/2+1))
    case measure=>omega
    case rel=>
     exact⟨(lo+hi)/2+1,hi,by rw[show((lo:Int)+(hi:Int))/2+1=(((lo+hi)/2+1:Nat):Int) by omega],rfl,ω,hin,am _,J.trans x1,
      ac ⟨λt p U z=>by
          rcases bL t ((lo+hi)/2) with g|g
          ·have:=Ai hm.out g z H.out;simp only at this;omega
          ·have e:t=(lo+hi)/2:=ω
           subst e;rw[H.out] at z;injection z with z;subst z;exact j,I.out.2⟩⟩
   ·have f:=wZ x y c wr
    obtain⟨r,M,K⟩:∃r,rP x c=r/\0<=r:=⟨_,rfl,by unfold rP;(repeat' split) <;> omega⟩;rw[M] at f;replace f:=ac f;have Z:decide (r<0)=false:=by simpa using K
    clear M
    go_wp2_with fail
    refine f.out.mono ?_;rintro e O ⟨rfl,x1⟩;go_wp2
    go_roundg ((lo+hi)/2-lo)
    case measure=>omega
    case rel=>
     exact⟨lo,(lo+hi)/2,rfl,by rw[show((lo:Int)+(hi:Int))/2=(((lo+hi)/2:Nat):Int) by omega],ω,ω,am _,J.trans x1,
      ac ⟨I.out.1,λt p U z=>by
          rcases bL ((lo+hi)/2) t with g|g
          ·have:=Ai hm.out g H.out z;simp only at this;omega
          ·have e:t=(lo+hi)/2:=ω
           subst e;rw[H.out] at z;injection z with z;subst z;simp only;omega⟩⟩
  ·obtain rfl:hi=lo:=ω
   have q:=ac (Zd (l:=l) (c:=c) (i:=hi) (by rw[hn.out];exact hin) I.out.1 (λp H=>I.out.2 hi p (am _) H));by_cases N:hi<n
   ·obtain⟨b,o,x,y,rfl,H,c0,c1⟩:=(hv.out.ext J).at (k:=hi) (by rw[hn.out];exact N)
    have u:=ac (show nP l c=decide (x=c) from Zw (p:=(x,y)) (by rw[q.out];exact H));clear H;have f:=wZ x y c wr;by_cases j:x=c
    ·rw[show rP x c=0 by simp[rP,j]] at f
     have hh:=ac (show nP l c=true by rw[u.out];simpa using j);replace f:=ac f;clear j u
     go_wp2_with fail
     refine f.out.mono ?_;rintro e O ⟨rfl,x1⟩;go_wp2
     go_ret2
     exact⟨F9 (a:=hi) (b:=true) (by rw[q.out]) hh.out.symm,J.trans x1⟩
    ·have hh:=ac (show nP l c=false by rw[u.out];simpa using j)
     obtain⟨r,M,K⟩:∃r,rP x c=r/\(r==0)=false:=⟨_,rfl,by unfold rP;(repeat' split) <;> first|rfl|omega⟩;rw[M] at f;replace f:=ac f;clear j u M
     go_wp2_with fail
     refine f.out.mono ?_;rintro e O ⟨rfl,x1⟩;go_wp2
     go_ret2
     exact⟨F9 (a:=hi) (b:=false) (by rw[q.out]) hh.out.symm,J.trans x1⟩
   ·have hh:=ac (show nP l c=false from TI (by rw[q.out,hn.out];omega))
    go_wp2
    go_ret2
    exact⟨F9 (a:=hi) (b:=false) (by rw[q.out]) hh.out.symm,J⟩
theorem J2 (A:Option Addr) (n cap:Nat) (l:List (Int×Int)) (c:Int) (w:ae) (hv:Vec w A l) (hn:l.length=n) (hm:jB 0 l=true) (f:n<=400000):
  aO pg 87 #[.slice A n cap,Vu c] w λe w'=>e= .returned (.tuple #[.int .i64 (idxOf l c:Nat),.bool (nP l c)])/\Ext w w':=by
 have a:=ac (Qs A n cap l c w hv hn hm f);clear hv hn hm;generalize idxOf l c=i at*;generalize nP l c=h at*;go_enter func87,ntmps87
 go_wp2_with fail
 refine a.out.mono ?_;rintro e j ⟨rfl,x1⟩;go_wp2
 go_ret2
 exact⟨rfl,x1⟩
theorem GD (A:Option Addr) (n cap:Nat) (l:List (Int×Int)) (c:Int) (w:ae) (hv:Vec w A l) (hn:l.length=n) (hm:jB 0 l=true) (M:n<=400000):
  aO pg 49 #[.slice A n cap,Vu c] w λe w'=>e= .returned (Vu (jq l c))/\Ext w w':=by
 have z:=ac (J2 A n cap l c w hv hn hm M);by_cases hh:nP l c=true
 ·obtain⟨q,j⟩:=LV hh
  have H:=ac (OQ hm j);have I:idxOf l c<n:=by
   rw[<-hn];exact(aq.1 j).1
  obtain⟨b,o,x,y,rfl,u,c0,c1⟩:=hv.at (k:=idxOf l c) (by rw[hn];exact I);rw[j] at u;injection u with u;injection u with e1 e2;subst e1;subst e2;rw[hh] at z;clear hv hn hm hh j;generalize idxOf l c=i at*;go_enter func49,ntmps49
  go_wp2_with fail
  refine z.out.mono ?_;rintro e J ⟨rfl,x1⟩;replace c0:=x1.keep c0;replace c1:=x1.keep c1;go_wp2;go_ret;exact⟨E9 (a:=q) H.out.symm,x1⟩
 ·have f:nP l c=false:=by simpa using hh
  have K:=ac (TG hm f);rw[f] at z;clear hv hn hm hh f;generalize idxOf l c=i at*;go_enter func49,ntmps49
  go_wp2_with fail
  refine z.out.mono ?_;rintro e J ⟨rfl,x1⟩;go_wp2;go_ret;exact⟨E9 (a:=0) K.out.symm,x1⟩
section
variable {w:ae}
theorem Tv:(pg.info? 79).map (λi=>(i.zero,i.size,i.bytes))=some (some (.agg #[.int .u32 0,.int .u32 0]),2,8):=κ
theorem agi (A:Option Addr) (n cap:Nat) (k:Int) (W:ae) (q:0<=k) (j:k<=n):
  (dm 48 (.slice A n cap) (some (.int .i64 k)) none none).run pg W= .ok (.slice (oq A cap k.toNat 2) (n-k.toNat) (cap-k.toNat)) W:=by
 obtain⟨i,hi,f,a,e⟩:=dK Tv;have:=xU underlying48 hi A n cap k W q j;rw[a] at this;exact this
theorem afk (A:Option Addr) (n cap:Nat) (k:Int) (W:ae) (q:0<=k) (j:k<=cap):
  (dm 48 (.slice A n cap) none (some (.int .i64 k)) none).run pg W= .ok (.slice A k.toNat cap) W:=by
 obtain⟨i,hi,f,e,a⟩:=dK Tv;exact xS underlying48 hi A n cap k W q j
def acZ (c:Nat):Array au:=Eo (.agg #[.int .u32 0,.int .u32 0]) (c*2)
theorem vN (c:Nat) (q:c<=1200000) (k:Int) (j:k=c) (W:ae):
  (Instr.makeSlice 48 (.int .i64 0) (.int .i64 k)).run pg W= .ok (.slice (some ⟨W.heap.size,0,none⟩) 0 c) (W.alloc (.cells (acZ c) 79)):=by
 subst j;obtain⟨i,hi,f,e,a⟩:=dK Tv;have:=BD underlying48 hi f e a (c:Int) W ω ω ω;rwa[Int.toNat_natCast] at this
theorem vO {w0 W:ae} (a:Ext w0 W) (c:Nat) (e:c<=1200000):(W.alloc (.cells (acZ c) 79)).ownsRow w0.heap.size 79 2 (.slice (some ⟨W.heap.size,0,none⟩) 0 c) ([]:List (Int×Int)).length (flat DX []):=
 World.ownsRow_made W _ _ a.size (by unfold maxLen;omega) (wM _ _)
def uR (w:ae) (l:List (Int×Int)) (e:Ending) (w':ae):Prop:=∃A n c,e= .returned (.slice A n c)/\l.length=n/\Vec w' A l/\Ext w w'/\n<=c/\rZ w.heap.size A
theorem Gq {base:Nat} {v:au} {n:Nat} {xs:List au} (h:w.ownsRow base 79 2 v n xs):∃A c,v= .slice A n c:=by
 rcases h.2 with⟨rfl,rfl⟩|⟨g,cap,cur,rfl,_⟩
 ·exact⟨_,_,rfl⟩
 ·exact⟨_,_,rfl⟩
theorem abm {base:Nat} {v:au} {n:Nat} {xs:List au} (h:w.ownsRow base 79 2 v n xs):∀k,v.ownBlock=some k->base<=k:=λk a=>(h.lt k a).1
theorem jI {w0:ae} {f:Array Oper} {rest:List Oper} {o:Oper} {a:Act} {Q:Exit->Act->ae->Prop} (H:o.guard=none) (s x:Operand)
  (M:o.op= .call { callee:= .builtin .append,args:= #[s,x],argTypes:= #[48,48] })
  (v:au) (l:List (Int×Int)) (J:a.eval s=v) (e:w.ownsRow w0.heap.size 79 2 v l.length (flat DX l)) (I:Ext w0 w)
  (A:Option Addr) (m c:Nat) (r:List (Int×Int)) (N:a.eval x= .slice A m c) (hm:r.length=m) (K:Vec w A r) (W:l.length+r.length<=1200000)
  (h:∀j w',w'.ownsRow w0.heap.size 79 2 j (l++r).length (flat DX (l++r))->Ext w0 w'->wpList pg f Q rest (a.put o.dst j) w'):wpList pg f Q (o::rest) a w:=by
 obtain⟨i,hi,z,u,q⟩:=dK Tv;subst hm;refine ql w H s x _ M w0.heap.size 79 i _ 2 8 underlying48 hi z u q rfl ω v l.length _ J e A r.length c _ N (jR wG r) K (lI Z5 r)
  (by unfold maxLen;omega) ω I.size ?_
 intro j w' U O;refine h j w' ?_ (I.grown O (abm e));rw[kQ,ag];exact U
theorem JU (A:Option Addr) (n cap k:Nat) (e:k<=n) (z:Int) (a:z=k) (W:ae):(dm 48 (.slice A n cap) (some (.int .i64 z)) none none).run pg W= .ok (.slice (oq A cap k 2) (n-k) (cap-k)) W:=by
 subst a;exact agi A n cap k W ω ω
theorem KI (A:Option Addr) (n cap k:Nat) (a:k<=cap) (W:ae):(dm 48 (.slice A n cap) none (some (.int .i64 (k:Int))) none).run pg W= .ok (.slice A k cap) W:=afk A n cap k W ω ω
theorem Vec.take {w:ae} {A:Option Addr} {l:List (Int×Int)} (h:Vec w A l) (k:Nat):Vec w A (l.take k):=by
 unfold Vec;rw[zy wG];exact Row.take h _
theorem Vec.cut {w:ae} {A:Option Addr} {l:List (Int×Int)} (h:Vec w A l) {n cap k:Nat} (hn:l.length=n) (e:n<=cap) (a:k<=n):Vec w (oq A cap k 2) (l.drop k):=by
 unfold Vec;rw[wE wG];exact Row.cut h (n:=n) (by rw[jR wG,hn]) e a
theorem Vec.new (w:ae) (x y:Int):Vec (w.alloc (.cells #[.int .u32 x,.int .u32 y] 79)) (some ⟨w.heap.size,0,none⟩) [(x,y)]:=Row.new w #[.int .u32 x,.int .u32 y] 79
theorem Vec.own {w:ae} {base:Nat} {v:au} {l:List (Int×Int)} (h:w.ownsRow base 79 2 v l.length (flat DX l)):∃A c,v= .slice A l.length c/\Vec w A l:=by
 obtain⟨A,c,rfl⟩:=Gq h;exact⟨A,c,rfl,Row.own h⟩
def NS (l:List (Int×Int)) (c n:Int):List (Int×Int):=if c=0 then l else setOf l c n
theorem NK (A:Option Addr) (n cap i:Nat) (l L:List (Int×Int)) (c nx:Int) (w:ae) (hv:Hid (Vec w A l)) (hn:Hid (l.length=n)) (j:n<=cap) (hb:n<=400000) (hi:i<n) (Y:(c !=0)=true) (Q:(nx !=0)=true)
  (Z:Hid (aO pg 87 #[.slice A n cap,Vu c] w λe w'=>e= .returned (.tuple #[.int .i64 (i:Nat),.bool true])/\Ext w w')) (u:Hid (L=l.take i++[(c,nx)]++l.drop (i+1))):
  aO pg 52 #[.slice A n cap,Vu c,Vu nx] w (uR w L):=by
 have W:=vN (n+1) ω ((n:Int)+1) ω;have U:=KI A n cap i ω;have X:=JU A n cap (i+1) ω ((i:Int)+1) ω;have a:=ac (show(l.take i).length=i by rw[bv,hn.out];omega);have f:=ac (show(l.drop (i+1)).length=n-(i+1) by rw[bk,hn.out]);go_enter func52,ntmps52
 go_wp2_with fail
 refine Z.out.mono ?_;rintro e w1 ⟨rfl,x1⟩
 go_wp2_with(first
   |(at_builtin
     refine jI (w0:=w) rfl (.tmp 25) (.tmp 28) rfl _ [] rfl (vO x1 _ ω) (x1.alloc _) A i cap (l.take i) rfl a.out ((hv.out.ext (x1.alloc _)).take i) (by simp only[aG,a.out];omega) ?_;intro M J O x2)
   |(at_builtin
     refine jI (w0:=w) rfl (.tmp 36) (.tmp 40) rfl M ([]++l.take i) rfl (O.alloc _) (x2.alloc _) _ 1 1 [(c,nx)] rfl rfl (Vec.new J c nx) (by simp only[aR,a.out,ar,aG];omega) ?_;intro K w3 N x3)
   |(at_builtin
     refine jI (w0:=w) rfl (.tmp 42) (.tmp 45) rfl K ([]++l.take i++[(c,nx)]) rfl N x3 (oq A cap (i+1) 2) (n-(i+1)) (cap-(i+1)) (l.drop (i+1)) rfl f.out ((hv.out.ext x3).cut hn.out j ω) (by simp only[aR,ag,a.out,f.out,ar,aG];omega) ?_;intro v4 w4 q x4))
 go_ret;obtain⟨A4,c4,I,H⟩:=Vec.own q;have z:=oO q I;subst I;rw[aR,<-u.out] at H;rw[aR,<-u.out] at z⊢;exact⟨A4,_,c4,rfl,rfl,H,x4,z⟩
theorem NM (A:Option Addr) (n cap i:Nat) (l L:List (Int×Int)) (c nx:Int) (w:ae) (hv:Hid (Vec w A l)) (hn:Hid (l.length=n)) (j:n<=cap) (hb:n<=400000) (hi:i<n) (U:(c !=0)=true) (M:(nx !=0)=false)
  (W:Hid (aO pg 87 #[.slice A n cap,Vu c] w λe w'=>e= .returned (.tuple #[.int .i64 (i:Nat),.bool true])/\Ext w w')) (u:Hid (L=l.take i++l.drop (i+1))):
  aO pg 52 #[.slice A n cap,Vu c,Vu nx] w (uR w L):=by
 have O:=vN (n+1) ω ((n:Int)+1) ω;have N:=KI A n cap i ω;have Q:=JU A n cap (i+1) ω ((i:Int)+1) ω;have a:=ac (show(l.take i).length=i by rw[bv,hn.out];omega);have f:=ac (show(l.drop (i+1)).length=n-(i+1) by rw[bk,hn.out]);go_enter func52,ntmps52
 go_wp2_with fail
 refine W.out.mono ?_;rintro e w1 ⟨rfl,x1⟩
 go_wp2_with(first
   |(at_builtin
     refine jI (w0:=w) rfl (.tmp 25) (.tmp 28) rfl _ [] rfl (vO x1 _ ω) (x1.alloc _) A i cap (l.take i) rfl a.out ((hv.out.ext (x1.alloc _)).take i) (by simp only[aG,a.out];omega) ?_;intro J Z K x2)
   |(at_builtin
     refine jI (w0:=w) rfl (.tmp 42) (.tmp 45) rfl J ([]++l.take i) rfl K x2 (oq A cap (i+1) 2) (n-(i+1)) (cap-(i+1)) (l.drop (i+1)) rfl f.out ((hv.out.ext x2).cut hn.out j ω) (by simp only[aR,ag,a.out,f.out,ar,aG];omega) ?_;intro v4 Y q x4))
 go_ret;obtain⟨X,c4,I,H⟩:=Vec.own q;have z:=oO q I;subst I;rw[aR,<-u.out] at H;rw[aR,<-u.out] at z⊢;exact⟨X,_,c4,rfl,rfl,H,x4,z⟩
theorem NI (A:Option Addr) (n cap i:Nat) (l L:List (Int×Int)) (c nx:Int) (w:ae) (hv:Hid (Vec w A l)) (hn:Hid (l.length=n)) (j:n<=cap) (hb:n<=400000) (hi:i<=n) (Y:(c !=0)=true) (Q:(nx !=0)=true)
  (Z:Hid (aO pg 87 #[.slice A n cap,Vu c] w λe w'=>e= .returned (.tuple #[.int .i64 (i:Nat),.bool false])/\Ext w w')) (u:Hid (L=l.take i++[(c,nx)]++l.drop (i))):
  aO pg 52 #[.slice A n cap,Vu c,Vu nx] w (uR w L):=by
 have W:=vN (n+1) ω ((n:Int)+1) ω;have U:=KI A n cap i ω;have X:=JU A n cap (i) ω (i:Int) ω;have a:=ac (show(l.take i).length=i by rw[bv,hn.out];omega);have f:=ac (show(l.drop (i)).length=n-(i) by rw[bk,hn.out]);go_enter func52,ntmps52
 go_wp2_with fail
 refine Z.out.mono ?_;rintro e w1 ⟨rfl,x1⟩
 go_wp2_with(first
   |(at_builtin
     refine jI (w0:=w) rfl (.tmp 25) (.tmp 28) rfl _ [] rfl (vO x1 _ ω) (x1.alloc _) A i cap (l.take i) rfl a.out ((hv.out.ext (x1.alloc _)).take i) (by simp only[aG,a.out];omega) ?_;intro M J O x2)
   |(at_builtin
     refine jI (w0:=w) rfl (.tmp 36) (.tmp 40) rfl M ([]++l.take i) rfl (O.alloc _) (x2.alloc _) _ 1 1 [(c,nx)] rfl rfl (Vec.new J c nx) (by simp only[aR,a.out,ar,aG];omega) ?_;intro K w3 N x3)
   |(at_builtin
     refine jI (w0:=w) rfl (.tmp 42) (.tmp 45) rfl K ([]++l.take i++[(c,nx)]) rfl N x3 (oq A cap (i) 2) (n-(i)) (cap-(i)) (l.drop (i)) rfl f.out ((hv.out.ext x3).cut hn.out j ω) (by simp only[aR,ag,a.out,f.out,ar,aG];omega) ?_;intro v4 w4 q x4))
 go_ret;obtain⟨A4,c4,I,H⟩:=Vec.own q;have z:=oO q I;subst I;rw[aR,<-u.out] at H;rw[aR,<-u.out] at z⊢;exact⟨A4,_,c4,rfl,rfl,H,x4,z⟩
theorem J6 {p:Prop} (h:p:=by
 have hmk:=vN (n+1) ω ((n:Int)+1) ω;have hup:=KI A n cap i ω;have hfr:=JU A n cap (i) ω (i:Int) ω;have hlt1:=ac (show(l.take i).length=i by rw[bv,hn.out];omega);have hld:=ac (show(l.drop (i)).length=n-(i) by rw[bk,hn.out]);go_enter func52,ntmps52
 go_wp2_with fail
 refine hc.out.mono ?_;rintro e w1 ⟨rfl,x1⟩
 go_wp2_with(first
   |(at_builtin
     refine jI (w0:=w) rfl (.tmp 25) (.tmp 28) rfl _ [] rfl (vO x1 _ ω) (x1.alloc _) A i cap (l.take i) rfl hlt1.out ((hv.out.ext (x1.alloc _)).take i) (by simp only[aG,hlt1.out];omega) ?_;intro v2 w2 o2 x2)
   |(at_builtin
     refine jI (w0:=w) rfl (.tmp 42) (.tmp 45) rfl v2 ([]++l.take i) rfl o2 x2 (oq A cap (i) 2) (n-(i)) (cap-(i)) (l.drop (i)) rfl hld.out ((hv.out.ext x2).cut hn.out hcap ω) (by simp only[aR,ag,hlt1.out,hld.out,ar,aG];omega) ?_;intro v4 w4 o4 x4))
 go_ret;obtain⟨A4,c4,e4,h4⟩:=Vec.own o4;have hf:=oO o4 e4;subst e4;rw[aR,<-hs.out] at h4;rw[aR,<-hs.out] at hf⊢;exact⟨A4,_,c4,rfl,rfl,h4,x4,hf⟩):p:=h
theorem NJ (A:Option Addr) (n cap i:Nat) (l L:List (Int×Int)) (c nx:Int) (w:ae) (hv:Hid (Vec w A l)) (hn:Hid (l.length=n)) (hcap:n<=cap) (j:n<=400000) (hi:i<=n) (f:(c !=0)=true) (a:(nx !=0)=false)
  (hc:Hid (aO pg 87 #[.slice A n cap,Vu c] w λe w'=>e= .returned (.tuple #[.int .i64 (i:Nat),.bool false])/\Ext w w')) (hs:Hid (L=l.take i++l.drop (i))):
  aO pg 52 #[.slice A n cap,Vu c,Vu nx] w (uR w L):=by
 exact J6
theorem KW (A:Option Addr) (n cap i:Nat) (l L:List (Int×Int)) (c nx:Int) (w:ae) (hv:Hid (Vec w A l)) (hn:Hid (l.length=n)) (hcap:n<=cap) (f:n<=400000) (hi:i<=n) (a:(c !=0)=false)
  (hc:Hid (aO pg 87 #[.slice A n cap,Vu c] w λe w'=>e= .returned (.tuple #[.int .i64 (i:Nat),.bool false])/\Ext w w')) (hs:Hid (L=l.take i++l.drop (i))):
  aO pg 52 #[.slice A n cap,Vu c,Vu nx] w (uR w L):=by
 exact J6
theorem aa5 (A:Option Addr) (n cap:Nat) (l:List (Int×Int)) (c nx:Int) (w:ae) (hv:Vec w A l) (hn:l.length=n) (f:n<=cap) (hm:jB 0 l=true) (H:n<=400000):
  aO pg 52 #[.slice A n cap,Vu c,Vu nx] w (uR w (NS l c nx)):=by
 have z:=J2 A n cap l c w hv hn hm H;have u:idxOf l c<=n:=by have:=Ze l c;omega
 by_cases hh:nP l c=true
 ·have I:idxOf l c<n:=by
   obtain⟨q,K⟩:=LV hh;rw[<-hn];exact(aq.1 K).1
  have i:c≠0:=by
   intro e;subst e;rw[(Ye hm).2] at hh;cases hh
  have j:NS l c nx=(l.take (idxOf l c)++if nx=0 then [] else [(c,nx)])++l.drop (idxOf l c+1):=by unfold NS;rw[if_neg i,Db,hh];rfl
  rw[hh] at z;by_cases a:nx=0
  ·rw[if_pos a,bB] at j
   exact NM A n cap _ l _ c nx w (ac hv) (ac hn) f H I (by simpa using i) (by simpa using a) (ac z) (ac j)
  ·rw[if_neg a] at j
   exact NK A n cap _ l _ c nx w (ac hv) (ac hn) f H I (by simpa using i) (by simpa using a) (ac z) (ac j)
 ·have J:nP l c=false:=by simpa using hh
  rw[J] at z;by_cases i:c=0
  ·subst i
   have j:NS l 0 nx=l.take (idxOf l 0)++l.drop (idxOf l 0):=by unfold NS;rw[if_pos rfl,List.take_append_drop]
   exact KW A n cap _ l _ 0 nx w (ac hv) (ac hn) f H u ι (ac z) (ac j)
  ·have j:NS l c nx=(l.take (idxOf l c)++if nx=0 then [] else [(c,nx)])++l.drop (idxOf l c):=by unfold NS;rw[if_neg i,Db,J];rfl
   by_cases a:nx=0
   ·rw[if_pos a,bB] at j
    exact NJ A n cap _ l _ c nx w (ac hv) (ac hn) f H u (by simpa using i) (by simpa using a) (ac z) (ac j)
   ·rw[if_neg a] at j
    exact NI A n cap _ l _ c nx w (ac hv) (ac hn) f H u (by simpa using i) (by simpa using a) (ac z) (ac j)
end
def IG (w W:ae) (v:au) (l:List (Int×Int)):Prop:=W.ownsRow w.heap.size 79 2 v l.length (flat DX l)
theorem IG.nil (w W:ae):IG w W (.slice none 0 0) []:=World.ownsRow_nil W _ _ _
section
theorem IG.ext {w W W':ae} {v:au} {l:List (Int×Int)} (h:IG w W v l) (a:Ext W W'):IG w W' v l:=by
 unfold IG at h⊢;rcases h with⟨h1,h2|⟨g,cap,cur,h2,h3,h4,h5⟩⟩
 ·exact⟨h1,.inl h2⟩
 ·refine⟨h1,.inr ⟨g,cap,cur,h2,h3,?_,h5⟩⟩
  have e:g<W.heap.size:=by
   rcases bL g W.heap.size with k|k
   ·exact k
   ·rw[Array.getElem?_eq_none k] at h4;cases h4
  rw[av a g e];exact h4
attribute [local go_sem] World.cell?_alloc_some
def acM (w:ae) (N:Nat) (L:List (Int×Int)) (f:Nat) (e s1 a:au) (W:ae):Prop:=
 ∃(la lb lo:List (Int×Int)) (A B:Option Addr) (n m ca cb:Nat),e= .slice A n ca/\s1= .slice B m cb/\Hid (la.length=n)/\Hid (lb.length=m)/\n<=ca/\m<=cb/\Hid (Vec w A la)/\Hid (Vec w B lb)/\
  IG w W a lo/\Ext w W/\Hid (lo++kM la lb=L)/\lo.length+n+m<=N/\n+m<=f
def ah5 (f:ae) (x y e a:Int) (p q:au) (W:ae):Prop:=
 ∃g h:Nat,p= .pointer (some ⟨g,0,none⟩)/\q= .pointer (some ⟨h,0,none⟩)/\W.cell? ⟨g,0,none⟩=some (Vu x)/\W.cell? ⟨g,1,none⟩=some (Vu y)/\W.cell? ⟨h,0,none⟩=some (Vu e)/\W.cell? ⟨h,1,none⟩=some (Vu a)/\Ext f W
theorem Vec.adI {w:ae} {base:Nat} {v:au} {l:List (Int×Int)} (h:w.ownsRow base 79 2 v l.length (flat DX l)):∃A c,v= .slice A l.length c/\Vec w A l/\l.length<=c:=by
 obtain⟨A,c,rfl⟩:=Gq h;refine⟨A,c,rfl,Row.own h,?_⟩;rcases h.2 with⟨e,_⟩|⟨g,cap,cur,e,_,_,hnc,_⟩
 ·injection e with e1 e2 e3
  omega
 ·injection e with e1 e2 e3
  omega
def Ut (w:ae) (l:List (Int×Int)) (e:Ending) (w':ae):Prop:=∃A n c,e= .returned (.slice A n c)/\l.length=n/\Vec w' A l/\Ext w w'/\n<=c/\rZ w.heap.size A
theorem QI (A B:Option Addr) (n m cap J:Nat) (l r:List (Int×Int)) (w:ae) (hv:Vec w A l) (hu:Vec w B r) (hn:l.length=n) (hm:r.length=m) (a6:n<=cap) (a8:m<=J) (hb:n+m<=360000):
  aO pg 108 #[.slice A n cap,.slice B m J] w (Ut w (kM l r)):=by
 obtain⟨L,hL⟩:∃L,kM l r=L:=⟨_,rfl⟩;rw[hL];replace hL:=ac hL;replace hv:=ac hv;replace hu:=ac hu;replace hn:=ac hn;replace hm:=ac hm;have a7:=vN (n+m) ω ((n:Int)+(m:Int)) ω;go_enter func108,ntmps108;go_wp2
 go_loopg [0,1,5] (n+m) (acM w (n+m) L)
 case atStart=>exact⟨l,r,[],A,B,n,m,cap,J,rfl,rfl,hn,hm,a6,a8,hv,hu,vO (Ext.refl w) _ ω,(Ext.refl w).alloc _,ac (by rw[aR];exact hL.out),ι,am _⟩
 case round=>
  clear hL hv hu a7;obtain⟨la,lb,lo,A,B,i,j,ca,cb,rfl,rfl,a,f,a2,a1,N,M,X,u,hrel,hN,b3⟩:=hrel;by_cases h0:0<i
  ·by_cases h1:0<j
   ·obtain⟨b,o,x,y,rfl,hp,d0,d1⟩:=N.out.at (k:=0) (by rw[a.out];exact h0)
    obtain⟨b',o',Q,O,rfl,a0,Z,Y⟩:=M.out.at (k:=0) (by rw[f.out];exact h1);simp only[Nat.zero_mul,Nat.add_zero] at d0 d1 Z Y;have c0:=u.keep d0;have c1:=u.keep d1;have a3:=u.keep Z;have b0:=u.keep Y
    go_wp2_with fail
    go_cut [6,7] (ah5 wr x y Q O)
    case first=>
     have b1:=cK wr _ c0;have b2:=cK wr _ a3;simp only at b1 b2
     go_region
     all_goals
      go_wp2_with fail
      go_meet;exact⟨_,_,rfl,rfl,σ,σ,σ,σ,(((Ext.refl _).alloc _).alloc _).drew⟩
    case rest=>
     obtain⟨g,h,rfl,rfl,g0,g1,i0,i1,x1⟩:=hcut;replace X:=X.ext x1;replace u:=u.trans x1;clear c0 c1 a3 b0 d0 d1 Z Y x1;have ea:la=(x,y)::la.drop 1:=by
      obtain⟨hk,e⟩:=aq.1 hp;have:=dJ hk;rw[e,cH] at this;exact this
     have eb:lb=(Q,O)::lb.drop 1:=by
      obtain⟨hk,e⟩:=aq.1 a0;have:=dJ hk;rw[e,cH] at this;exact this
     replace ea:=ac ea;replace eb:=ac eb;clear hp a0;have b5:=JU (some ⟨b,o,none⟩) i ca 1 ω 1 rfl;have b4:=JU (some ⟨b',o',none⟩) j cb 1 ω 1 rfl;have a4:=ac (N.out.cut a.out a2 (show 1<=i by omega));have a5:=ac (M.out.cut f.out a1 (show 1<=j by omega));have W:=ac (show(la.drop 1).length=i-1 by rw[bk,a.out]);have U:=ac (show(lb.drop 1).length=j-1 by rw[bk,f.out]);rcases Int.lt_trichotomy x Q with H|H|H
     ·have I:=ac (show lo++[(x,y)]++kM (la.drop 1) lb=L by
       rw[<-hrel.out]
       conv=>rhs;rw[ea.out,eb.out,merge_lt _ _ H,<-eb.out]
       simp)
      go_wp2_with(first
       |(at_builtin
         refine jI (w0:=w) rfl (.tmp 33) (.tmp 35) rfl _ lo rfl (fl X _) (u.alloc _) _ 1 1 [(x,y)] rfl rfl (Vec.new wc x y) (by simp only[ar,aG];omega) ?_;intro v2 w2 K x2))
      go_roundg (i-1+j)
      case measure=>omega
      case rel=>exact⟨la.drop 1,lb,lo++[(x,y)],_,_,i-1,j,ca-1,cb,rfl,rfl,W,f,ω,a1,a4,M,K,x2,I,by simp only[ag,ar,aG];omega,am _⟩
     ·subst H
      have I:=ac (show∀z:Int,z=max y O->Hid (lo++[(x,z)]++kM (la.drop 1) (lb.drop 1)=L) from λz hz=>ac (by
       subst hz;rw[<-hrel.out]
       conv=>rhs;rw[ea.out,eb.out,GK (p:=(x,y)) (q:=(x,O)) _ _ rfl]
       simp))
      go_wp2_with(first
       |(at_builtin
         refine jI (w0:=w) rfl (.tmp 50) (.tmp 59) rfl _ lo rfl (fl X _) (u.alloc _) _ 1 1 [(x,_)] rfl rfl (Vec.new wc x _) (by simp only[ar,aG];omega) ?_;intro v2 w2 K x2))
      all_goals
       go_quiet(fail)
       go_wp2
       go_roundg (i-1+(j-1))
       case measure=>omega
       case rel=>exact⟨la.drop 1,lb.drop 1,_,_,_,i-1,j-1,ca-1,cb-1,rfl,rfl,W,U,ω,ω,a4,a5,IG.ext K ((Ext.refl _).drewN _),x2.drewN _,I.out _ ω,by simp only[ag,ar,aG];omega,am _⟩
     ·have I:=ac (show lo++[(Q,O)]++kM la (lb.drop 1)=L by
       rw[<-hrel.out]
       conv=>rhs;rw[ea.out,eb.out,GJ _ _ H,<-ea.out]
       simp)
      have b6:decide (x<Q)=false:=by simp;omega
      go_wp2_with(first
       |(at_builtin
         refine jI (w0:=w) rfl (.tmp 44) (.tmp 46) rfl _ lo rfl (fl X _) (u.alloc _) _ 1 1 [(Q,O)] rfl rfl (Vec.new wc Q O) (by simp only[ar,aG];omega) ?_;intro v2 w2 K x2))
      go_roundg (i+(j-1))
      case measure=>omega
      case rel=>exact⟨la,lb.drop 1,lo++[(Q,O)],_,_,i,j-1,ca,cb-1,rfl,rfl,a,U,a2,ω,N,a5,K,x2,I,by simp only[ag,ar,aG];omega,am _⟩
   ·have em:lb=[]:=bM (by rw[f.out];omega)
    subst em;obtain rfl:j=0:=ω
    have I:=ac (show lo++la++[]=L by rw[<-hrel.out,Dw,bB])
    go_wp2_with(first
     |(at_builtin
       refine jI (w0:=w) rfl (.tmp 65) (.tmp 66) rfl _ lo rfl X u A i ca la rfl a.out (N.out.ext u) (by rw[a.out];omega) ?_;intro v2 w2 K x2)
     |(at_builtin
       refine jI (w0:=w) rfl (.tmp 68) (.tmp 69) rfl v2 (lo++la) rfl K x2 B 0 cb [] rfl rfl (Vec.nil _ _) (by rw[ag,a.out];simp;omega) ?_;intro v3 w3 o3 x3))
    go_ret;obtain⟨A4,c4,e4,h4,a9⟩:=Vec.adI o3;have hf:=oO o3 e4;subst e4;exact⟨A4,_,c4,rfl,by rw[<-I.out],by rw[<-I.out];exact h4,x3,hf⟩
  ·have em:la=[]:=bM (by rw[a.out];omega)
   subst em;obtain rfl:i=0:=ω
   have I:=ac (show lo++[]++lb=L by rw[<-hrel.out,Dv,bB])
   go_wp2_with(first
        |(at_builtin
          refine jI (w0:=w) rfl (.tmp 65) (.tmp 66) rfl _ lo rfl X u A 0 ca [] rfl rfl (Vec.nil _ _) (by simp;omega) ?_;intro v2 w2 K x2)
        |(at_builtin
          refine jI (w0:=w) rfl (.tmp 68) (.tmp 69) rfl v2 (lo++[]) rfl K x2 B j cb lb rfl f.out (M.out.ext x2) (by rw[ag,f.out];simp;omega) ?_;intro v3 w3 o3 x3))
   go_ret;obtain⟨A4,c4,e4,h4,a9⟩:=Vec.adI o3;have hf:=oO o3 e4;subst e4;exact⟨A4,_,c4,rfl,by rw[<-I.out],by rw[<-I.out];exact h4,x3,hf⟩
end
end Go.Proofs.YtncfhbpejchbfaaGreatDoor

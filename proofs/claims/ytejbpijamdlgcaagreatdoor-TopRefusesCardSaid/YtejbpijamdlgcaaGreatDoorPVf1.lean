/-
  Lemmas of this seat; no claim.
-/
import Derived.Deep.DeepCutAuto
import Derived.Test.YtejbpijamdlgcaaGreatDoorPAf1
import Derived.Test.YtejbpijamdlgcaaGreatDoorVMathP
set_option linter.unusedVariables false
set_option linter.unusedSimpArgs false
set_option maxHeartbeats 4000000
open Go renaming Calls→aX,Value→aI,World→aj,info_parts→gJ
open Go.Instr renaming slice→fE
open Go.Lib renaming hid→ah
open Go.RowKit.Below renaming block→aJ
open Go.World renaming block_lt_of_cell?→eO
open Go.World.ownsRow renaming alloc→jw
open List renaming append_nil→bZ,drop_eq_getElem_cons→dY,drop_zero→dX,eq_nil_of_length_eq_zero→dF,getElem?_eq_some_iff→aF,length_append→ay,length_cons→aH,length_drop→bP,length_nil→aR,length_take→bN,nil_append→bB
open Nat renaming le_refl→aD,lt_or_ge→dD,zero_le→cK
namespace Go.Proofs.YtejbpijamdlgcaaGreatDoor
open Go.ChangeShapes Go.WideShapes Go.ChangeAt Go.RowKit Go.Sort
def Gy (p:Int×Int):List aI:=[Vu p.1,Vu p.2]
theorem Cb (p:Int×Int):(Gy p).length=2:=rfl
theorem abA (p:Int×Int):∀u∈Gy p,u.oneCell'=true:=by intro u a;simp[Gy] at a;rcases a with rfl|rfl <;> rfl
def Vec (w:aj) (A:Option Addr) (l:List (Int×Int)):Prop:=Row w A (flat Gy l)
theorem Vec.ext {w w':aj} {A:Option Addr} {l:List (Int×Int)} (h:Vec w A l) (a:Ext w w'):Vec w' A l:=Row.ext h a
theorem Vec.nil (w:aj) (A:Option Addr):Vec w A []:=Row.nil w A
theorem Vec.at {w:aj} {A:Option Addr} {l:List (Int×Int)} (h:Vec w A l) {k:Nat} (i:k<l.length):
  ∃b o x y,A=some ⟨b,o,none⟩/\l[k]? =some (x,y)/\w.cell? ⟨b,o+k*2,none⟩=some (Vu x)/\w.cell? ⟨b,o+k*2+1,none⟩=some (Vu y):=by
 obtain⟨⟨x,y⟩,a⟩:∃p,l[k]? =some p:=⟨l[k],List.getElem?_eq_getElem i⟩;obtain⟨b,o,e,f⟩:=Row.at h Cb a ω;exact⟨b,o,x,y,e,a,f 0 _ rfl,f 1 _ rfl⟩
theorem Me {l:List (Int×Int)} {k:Nat} {x y:Int} (h:l[k]? =some (x,y)) (c:Int):nW (l.drop k) c=if x=c then y else nW (l.drop (k+1)) c:=by
 obtain⟨a,e⟩:=aF.1 h;rw[dY a,e,nW]
theorem aeL (A:Option Addr) (n cap:Nat) (l:List (Int×Int)) (c:Int) (w:aj) (hv:Vec w A l) (q:l.length=n) (K:n<=400000):
  aX Tryz.prog 55 #[.slice A n cap,Vu c] w λe w'=>e= .returned (Vu (nW l c))/\w=w':=by
 replace q:=ah q;replace hv:=ah hv;go_enter Tryz.func55,Tryz.ntmps55;go_wp2
 go_loop [5] (λi=>∃k:Nat,k<=n/\i= .int .i64 k/\Hid (nW l c=nW (l.drop k) c)) (λi=>n-(intOf i).toNat)
 case atStart=>exact⟨0,cK _,rfl,ah ι⟩
 case round=>
  obtain⟨k,J,rfl,hrel⟩:=hrel;by_cases u:k<n
  ·obtain⟨b,o,x,y,rfl,j,c0,c1⟩:=hv.out.at (k:=k) (by rw[q.out];exact u)
   by_cases f:x=c
   ·subst f
    have z:=ah (show nW (l.drop k) x=y by rw[Me j,if_pos rfl]);clear j;go_wp2;go_ret;exact⟨CV (a:=y) (by rw[hrel.out,z.out]),rfl⟩
   ·have I:(x==c)=false:=by simpa using f
    have z:=ah (show nW (l.drop k) c=nW (l.drop (k+1)) c by rw[Me j,if_neg f]);clear j f;go_wp2
    go_round
    case rel=>exact⟨k+1,ω,ν,ah (by rw[hrel.out,z.out])⟩
    case measure=>simp[intOf];omega
  ·have H:=ah (show l.drop k=[] from List.drop_eq_nil_of_le (by rw[q.out];omega))
   go_wp2;go_ret;exact⟨CV (a:=0) (by rw[hrel.out,H.out];rfl),rfl⟩
def ahead (l:List (Int×Int)):Nat->Int
 |0=>0
 |k+1=>((l[k]?).getD (0,0)).1
theorem Yy (a b:Int) (W:aj):(binOp .neq 100 (.agg #[.int .u32 a,.int .u32 b]) (.agg #[.int .u32 a,.int .u32 b])).run Tryz.prog W= .ok (.bool false) W:=by
 simp[go_sem]
theorem ZH (A B:Option Addr) (n cap j:Nat) (l:List (Int×Int)) (w:aj) (hv:Vec w A l) (z:Vec w B l) (u:l.length=n) (U:n<=400000):
  aX Tryz.prog 14 #[.slice A n cap,.slice B n j] w λe w'=>e= .returned (.bool true)/\Ext w w':=by
 replace u:=ah u;replace hv:=ah hv;replace z:=ah z;go_enter Tryz.func14,Tryz.ntmps14;go_wp2
 go_loopw [5] (λi W=>∃(k:Nat),k<=n/\i= .int .i64 k/\Ext w W) (λi _=>n-(intOf i).toNat)
 case atStart=>exact⟨0,cK _,rfl,Ext.refl _⟩
 case round=>
  obtain⟨k,Q,rfl,q⟩:=hrel;by_cases f:k<n
  ·obtain⟨b,o,x,y,rfl,H,c0,c1⟩:=(hv.out.ext q).at (k:=k) (by rw[u.out];exact f)
   obtain⟨X,O,N,M,rfl,a,K,J⟩:=(z.out.ext q).at (k:=k) (by rw[u.out];exact f);rw[H] at a;injection a with a;injection a with e1 e2;subst e1;subst e2;clear H;have I:=Yy x y;go_wp2
   go_quiet(fail)
   go_wp2
   go_roundw
   case rel=>exact⟨k+1,ω,ν,q.drewN _⟩
   case measure=>simp[intOf];omega
  ·go_wp2
   go_ret;exact⟨rfl,q⟩
theorem Am (x y c:Int) (w:aj):aX Tryz.prog 128 #[.agg #[.int .u32 x,.int .u32 y],Vu c] w λe w'=>e= .returned (Vi (wJ x c))/\Ext w w':=by
 go_enter Tryz.func128,Tryz.ntmps128
 go_wp2_with(go_at_call 129;refine(sQ _ _ _).mono ?_;rintro e w' ⟨rfl,rfl⟩)
 go_ret;exact⟨rfl,(Ext.refl _).alloc _⟩
theorem SY (A:Option Addr) (n cap:Nat) (l:List (Int×Int)) (c:Int) (w:aj) (hv:Vec w A l) (K:l.length=n) (Q:oq 0 l=true) (hb:n<=400000):
  aX Tryz.prog 127 #[.slice A n cap,Vu c,.func (.func 128) #[] #[]] w λe w'=>
   e= .returned (.tuple #[.int .i64 (idxOf l c:Nat),.bool (sP l c)])/\Ext w w':=by
 replace K:=ah K;replace hv:=ah hv;replace Q:=ah Q;go_enter Tryz.func127,Tryz.ntmps127;go_wp2
 go_loopg [9,10] n (λkx Z W wr=>∃lo hi:Nat,Z= .int .i64 lo/\W= .int .i64 hi/\lo<=hi/\hi<=n/\hi-lo<=kx/\Ext w wr/\
  Hid ((∀t p,t<lo->l[t]? =some p->p.1<c)/\(∀t p,hi<=t->l[t]? =some p->c<=p.1)))
 case atStart=>exact⟨0,n,rfl,rfl,cK _,aD _,ω,Ext.refl _,ah ⟨λt p X=>absurd X (Nat.not_lt_zero _),λt p h1 Y=>by
  rw[List.getElem?_eq_none (by rw[K.out];exact h1)] at Y;cases Y⟩⟩
 case round=>
  obtain⟨lo,hi,rfl,rfl,a2,hin,hg,J,I⟩:=hrel;by_cases a1:lo<hi
  ·obtain⟨b,o,x,y,rfl,H,c0,c1⟩:=(hv.out.ext J).at (k:=(lo+hi)/2) (by rw[K.out];omega)
   replace H:=ah H;by_cases j:x<c
   ·have f:=Am x y c wr
    rw[show wJ x c= -1 by simp[wJ,j]] at f;replace f:=ah f
    go_wp2_with fail
    refine f.out.mono ?_;rintro e U ⟨rfl,x1⟩;go_wp2
    go_roundg (hi-((lo+hi)/2+1))
    case measure=>omega
    case rel=>
     exact⟨(lo+hi)/2+1,hi,by rw[show((lo:Int)+(hi:Int))/2+1=(((lo+hi)/2+1:Nat):Int) by omega],rfl,ω,hin,aD _,J.trans x1,
      ah ⟨λt p X z=>by
          rcases dD t ((lo+hi)/2) with g|g
          ·have:=DW Q.out g z H.out;simp only at this;omega
          ·have e:t=(lo+hi)/2:=ω
           subst e;rw[H.out] at z;injection z with z;subst z;exact j,I.out.2⟩⟩
   ·have f:=Am x y c wr
    obtain⟨r,N,M⟩:∃r,wJ x c=r/\0<=r:=⟨_,rfl,by unfold wJ;(repeat' split) <;> omega⟩;rw[N] at f;replace f:=ah f;have a0:decide (r<0)=false:=by simpa using M
    clear N
    go_wp2_with fail
    refine f.out.mono ?_;rintro e U ⟨rfl,x1⟩;go_wp2
    go_roundg ((lo+hi)/2-lo)
    case measure=>omega
    case rel=>
     exact⟨lo,(lo+hi)/2,rfl,by rw[show((lo:Int)+(hi:Int))/2=(((lo+hi)/2:Nat):Int) by omega],ω,ω,aD _,J.trans x1,
      ah ⟨I.out.1,λt p X z=>by
          rcases dD ((lo+hi)/2) t with g|g
          ·have:=DW Q.out g H.out z;simp only at this;omega
          ·have e:t=(lo+hi)/2:=ω
           subst e;rw[H.out] at z;injection z with z;subst z;simp only;omega⟩⟩
  ·obtain rfl:hi=lo:=ω
   have q:=ah (aaG (l:=l) (c:=c) (i:=hi) (by rw[K.out];exact hin) I.out.1 (λp H=>I.out.2 hi p (aD _) H));by_cases O:hi<n
   ·obtain⟨b,o,x,y,rfl,H,c0,c1⟩:=(hv.out.ext J).at (k:=hi) (by rw[K.out];exact O)
    have u:=ah (show sP l c=decide (x=c) from aa2 (p:=(x,y)) (by rw[q.out];exact H));clear H;have f:=Am x y c wr;by_cases j:x=c
    ·rw[show wJ x c=0 by simp[wJ,j]] at f
     have hh:=ah (show sP l c=true by rw[u.out];simpa using j);replace f:=ah f;clear j u
     go_wp2_with fail
     refine f.out.mono ?_;rintro e U ⟨rfl,x1⟩;go_wp2
     go_ret2
     exact⟨Jj (a:=hi) (b:=true) (by rw[q.out]) hh.out.symm,J.trans x1⟩
    ·have hh:=ah (show sP l c=false by rw[u.out];simpa using j)
     obtain⟨r,N,M⟩:∃r,wJ x c=r/\(r==0)=false:=⟨_,rfl,by unfold wJ;(repeat' split) <;> first|rfl|omega⟩;rw[N] at f;replace f:=ah f;clear j u N
     go_wp2_with fail
     refine f.out.mono ?_;rintro e U ⟨rfl,x1⟩;go_wp2
     go_ret2
     exact⟨Jj (a:=hi) (b:=false) (by rw[q.out]) hh.out.symm,J.trans x1⟩
   ·have hh:=ah (show sP l c=false from VW (by rw[q.out,K.out];omega))
    go_wp2
    go_ret2
    exact⟨Jj (a:=hi) (b:=false) (by rw[q.out]) hh.out.symm,J⟩
theorem M9 (A:Option Addr) (n cap:Nat) (l:List (Int×Int)) (c:Int) (w:aj) (hv:Vec w A l) (a:l.length=n) (f:oq 0 l=true) (q:n<=400000):
  aX Tryz.prog 90 #[.slice A n cap,Vu c] w λe w'=>e= .returned (.tuple #[.int .i64 (idxOf l c:Nat),.bool (sP l c)])/\Ext w w':=by
 have j:=ah (SY A n cap l c w hv a f q);clear hv a f;generalize idxOf l c=i at*;generalize sP l c=h at*;go_enter Tryz.func90,Tryz.ntmps90
 go_wp2_with fail
 refine j.out.mono ?_;rintro e u ⟨rfl,x1⟩;go_wp2
 go_ret2
 exact⟨rfl,x1⟩
theorem JC (A:Option Addr) (n cap:Nat) (l:List (Int×Int)) (c:Int) (w:aj) (hv:Vec w A l) (j:l.length=n) (u:oq 0 l=true) (O:n<=400000):
  aX Tryz.prog 52 #[.slice A n cap,Vu c] w λe w'=>e= .returned (Vu (nW l c))/\Ext w w':=by
 have I:=ah (M9 A n cap l c w hv j u O);by_cases hh:sP l c=true
 ·obtain⟨q,z⟩:=OI hh
  have J:=ah (Q7 u z);have K:idxOf l c<n:=by
   rw[<-j];exact(aF.1 z).1
  obtain⟨b,o,x,y,rfl,H,c0,c1⟩:=hv.at (k:=idxOf l c) (by rw[j];exact K);rw[z] at H;injection H with H;injection H with e1 e2;subst e1;subst e2;rw[hh] at I;clear hv j u hh z;generalize idxOf l c=i at*;go_enter Tryz.func52,Tryz.ntmps52
  go_wp2_with fail
  refine I.out.mono ?_;rintro e M ⟨rfl,x1⟩;replace c0:=x1.keep c0;replace c1:=x1.keep c1;go_wp2;go_ret;exact⟨CV (a:=q) J.out.symm,x1⟩
 ·have f:sP l c=false:=by simpa using hh
  have N:=ah (VU u f);rw[f] at I;clear hv j u hh f;generalize idxOf l c=i at*;go_enter Tryz.func52,Tryz.ntmps52
  go_wp2_with fail
  refine I.out.mono ?_;rintro e M ⟨rfl,x1⟩;go_wp2;go_ret;exact⟨CV (a:=0) N.out.symm,x1⟩
section
variable {w:aj}
theorem VN:(Tryz.prog.info? 100).map (λi=>(i.zero,i.size,i.bytes))=some (some (.agg #[.int .u32 0,.int .u32 0]),2,8):=κ
theorem ahW (A:Option Addr) (n cap:Nat) (k:Int) (W:aj) (q:0<=k) (j:k<=n):
  (fE 47 (.slice A n cap) (some (.int .i64 k)) none none).run Tryz.prog W= .ok (.slice (tX A cap k.toNat 2) (n-k.toNat) (cap-k.toNat)) W:=by
 obtain⟨i,hi,f,a,e⟩:=gJ VN;have:=Bo Tryz.underlying47 hi A n cap k W q j;rw[a] at this;exact this
theorem ag4 (A:Option Addr) (n cap:Nat) (k:Int) (W:aj) (q:0<=k) (j:k<=cap):
  (fE 47 (.slice A n cap) none (some (.int .i64 k)) none).run Tryz.prog W= .ok (.slice A k.toNat cap) W:=by
 obtain⟨i,hi,f,e,a⟩:=gJ VN;exact Bl Tryz.underlying47 hi A n cap k W q j
def aeJ (c:Nat):Array aI:=Br (.agg #[.int .u32 0,.int .u32 0]) (c*2)
theorem zo (c:Nat) (q:c<=1200000) (k:Int) (j:k=c) (W:aj):
  (Instr.makeSlice 47 (.int .i64 0) (.int .i64 k)).run Tryz.prog W= .ok (.slice (some ⟨W.heap.size,0,none⟩) 0 c) (W.alloc (.cells (aeJ c) 100)):=by
 subst j;obtain⟨i,hi,f,e,a⟩:=gJ VN;have:=Bn Tryz.underlying47 hi f e a (c:Int) W ω ω ω;rwa[Int.toNat_natCast] at this
theorem zu {w0 W:aj} (a:Ext w0 W) (c:Nat) (e:c<=1200000):(W.alloc (.cells (aeJ c) 100)).ownsRow w0.heap.size 100 2 (.slice (some ⟨W.heap.size,0,none⟩) 0 c) ([]:List (Int×Int)).length (flat Gy []):=
 World.ownsRow_made W _ _ a.size (by unfold maxLen;omega) (xJ _ _)
def yP (w:aj) (l:List (Int×Int)) (e:Ending) (w':aj):Prop:=∃A n c,e= .returned (.slice A n c)/\l.length=n/\Vec w' A l/\Ext w w'/\n<=c/\wV w.heap.size A
theorem Js {base:Nat} {v:aI} {n:Nat} {xs:List aI} (h:w.ownsRow base 100 2 v n xs):∃A c,v= .slice A n c:=by
 rcases h.2 with⟨rfl,rfl⟩|⟨g,cap,cur,rfl,_⟩
 ·exact⟨_,_,rfl⟩
 ·exact⟨_,_,rfl⟩
theorem ac2 {base:Nat} {v:aI} {n:Nat} {xs:List aI} (h:w.ownsRow base 100 2 v n xs):∀k,v.ownBlock=some k->base<=k:=λk a=>(h.lt k a).1
theorem oH {w0:aj} {f:Array Oper} {rest:List Oper} {o:Oper} {a:Act} {Q:Exit->Act->aj->Prop} (H:o.guard=none) (s x:Operand)
  (M:o.op= .call { callee:= .builtin .append,args:= #[s,x],argTypes:= #[47,47] })
  (v:aI) (l:List (Int×Int)) (J:a.eval s=v) (e:w.ownsRow w0.heap.size 100 2 v l.length (flat Gy l)) (I:Ext w0 w)
  (A:Option Addr) (m c:Nat) (r:List (Int×Int)) (O:a.eval x= .slice A m c) (N:r.length=m) (K:Vec w A r) (X:l.length+r.length<=1200000)
  (h:∀j w',w'.ownsRow w0.heap.size 100 2 j (l++r).length (flat Gy (l++r))->Ext w0 w'->wpList Tryz.prog f Q rest (a.put o.dst j) w'):wpList Tryz.prog f Q (o::rest) a w:=by
 obtain⟨i,hi,z,u,q⟩:=gJ VN;subst N;refine vg w H s x _ M w0.heap.size 100 i _ 2 8 Tryz.underlying47 hi z u q rfl ω v l.length _ J e A r.length c _ O (oV Cb r) K (qy abA r)
  (by unfold maxLen;omega) ω I.size ?_
 intro j w' W U;refine h j w' ?_ (I.grown U (ac2 e));rw[qp,ay];exact W
theorem M0 (A:Option Addr) (n cap k:Nat) (e:k<=n) (z:Int) (a:z=k) (W:aj):(fE 47 (.slice A n cap) (some (.int .i64 z)) none none).run Tryz.prog W= .ok (.slice (tX A cap k 2) (n-k) (cap-k)) W:=by
 subst a;exact ahW A n cap k W ω ω
theorem NP (A:Option Addr) (n cap k:Nat) (a:k<=cap) (W:aj):(fE 47 (.slice A n cap) none (some (.int .i64 (k:Int))) none).run Tryz.prog W= .ok (.slice A k cap) W:=ag4 A n cap k W ω ω
theorem Vec.take {w:aj} {A:Option Addr} {l:List (Int×Int)} (h:Vec w A l) (k:Nat):Vec w A (l.take k):=by
 unfold Vec;rw[Dh Cb];exact Row.take h _
theorem Vec.cut {w:aj} {A:Option Addr} {l:List (Int×Int)} (h:Vec w A l) {n cap k:Nat} (a:l.length=n) (f:n<=cap) (e:k<=n):Vec w (tX A cap k 2) (l.drop k):=by
 unfold Vec;rw[zN Cb];exact Row.cut h (n:=n) (by rw[oV Cb,a]) f e
theorem Vec.new (w:aj) (x y:Int):Vec (w.alloc (.cells #[.int .u32 x,.int .u32 y] 100)) (some ⟨w.heap.size,0,none⟩) [(x,y)]:=Row.new w #[.int .u32 x,.int .u32 y] 100
theorem Vec.own {w:aj} {base:Nat} {v:aI} {l:List (Int×Int)} (h:w.ownsRow base 100 2 v l.length (flat Gy l)):∃A c,v= .slice A l.length c/\Vec w A l:=by
 obtain⟨A,c,rfl⟩:=Js h;exact⟨A,c,rfl,Row.own h⟩
def Ql (l:List (Int×Int)) (c n:Int):List (Int×Int):=if c=0 then l else setOf l c n
theorem Qg (A:Option Addr) (n cap i:Nat) (l L:List (Int×Int)) (c nx:Int) (w:aj) (hv:Hid (Vec w A l)) (q:Hid (l.length=n)) (j:n<=cap) (hb:n<=400000) (hi:i<n) (Z:(c !=0)=true) (U:(nx !=0)=true)
  (hc:Hid (aX Tryz.prog 90 #[.slice A n cap,Vu c] w λe w'=>e= .returned (.tuple #[.int .i64 (i:Nat),.bool true])/\Ext w w')) (z:Hid (L=l.take i++[(c,nx)]++l.drop (i+1))):
  aX Tryz.prog 82 #[.slice A n cap,Vu c,Vu nx] w (yP w L):=by
 have X:=zo (n+1) ω ((n:Int)+1) ω;have W:=NP A n cap i ω;have Y:=M0 A n cap (i+1) ω ((i:Int)+1) ω;have a:=ah (show(l.take i).length=i by rw[bN,q.out];omega);have f:=ah (show(l.drop (i+1)).length=n-(i+1) by rw[bP,q.out]);go_enter Tryz.func82,Tryz.ntmps82
 go_wp2_with fail
 refine hc.out.mono ?_;rintro e w1 ⟨rfl,x1⟩
 go_wp2_with(first
   |(at_builtin
     refine oH (w0:=w) rfl (.tmp 25) (.tmp 28) rfl _ [] rfl (zu x1 _ ω) (x1.alloc _) A i cap (l.take i) rfl a.out ((hv.out.ext (x1.alloc _)).take i) (by simp only[aR,a.out];omega) ?_;intro N K Q x2)
   |(at_builtin
     refine oH (w0:=w) rfl (.tmp 36) (.tmp 40) rfl N ([]++l.take i) rfl (Q.alloc _) (x2.alloc _) _ 1 1 [(c,nx)] rfl rfl (Vec.new K c nx) (by simp only[bB,a.out,aH,aR];omega) ?_;intro M w3 O x3)
   |(at_builtin
     refine oH (w0:=w) rfl (.tmp 42) (.tmp 45) rfl M ([]++l.take i++[(c,nx)]) rfl O x3 (tX A cap (i+1) 2) (n-(i+1)) (cap-(i+1)) (l.drop (i+1)) rfl f.out ((hv.out.ext x3).cut q.out j ω) (by simp only[bB,ay,a.out,f.out,aH,aR];omega) ?_;intro v4 w4 u x4))
 go_ret;obtain⟨A4,c4,J,I⟩:=Vec.own u;have H:=uy u J;subst J;rw[bB,<-z.out] at I;rw[bB,<-z.out] at H⊢;exact⟨A4,_,c4,rfl,rfl,I,x4,H⟩
theorem Qh (A:Option Addr) (n cap i:Nat) (l L:List (Int×Int)) (c nx:Int) (w:aj) (hv:Hid (Vec w A l)) (q:Hid (l.length=n)) (j:n<=cap) (hb:n<=400000) (hi:i<n) (W:(c !=0)=true) (N:(nx !=0)=false)
  (X:Hid (aX Tryz.prog 90 #[.slice A n cap,Vu c] w λe w'=>e= .returned (.tuple #[.int .i64 (i:Nat),.bool true])/\Ext w w')) (z:Hid (L=l.take i++l.drop (i+1))):
  aX Tryz.prog 82 #[.slice A n cap,Vu c,Vu nx] w (yP w L):=by
 have Q:=zo (n+1) ω ((n:Int)+1) ω;have O:=NP A n cap i ω;have U:=M0 A n cap (i+1) ω ((i:Int)+1) ω;have a:=ah (show(l.take i).length=i by rw[bN,q.out];omega);have f:=ah (show(l.drop (i+1)).length=n-(i+1) by rw[bP,q.out]);go_enter Tryz.func82,Tryz.ntmps82
 go_wp2_with fail
 refine X.out.mono ?_;rintro e w1 ⟨rfl,x1⟩
 go_wp2_with(first
   |(at_builtin
     refine oH (w0:=w) rfl (.tmp 25) (.tmp 28) rfl _ [] rfl (zu x1 _ ω) (x1.alloc _) A i cap (l.take i) rfl a.out ((hv.out.ext (x1.alloc _)).take i) (by simp only[aR,a.out];omega) ?_;intro K w2 M x2)
   |(at_builtin
     refine oH (w0:=w) rfl (.tmp 42) (.tmp 45) rfl K ([]++l.take i) rfl M x2 (tX A cap (i+1) 2) (n-(i+1)) (cap-(i+1)) (l.drop (i+1)) rfl f.out ((hv.out.ext x2).cut q.out j ω) (by simp only[bB,ay,a.out,f.out,aH,aR];omega) ?_;intro v4 Z u x4))
 go_ret;obtain⟨Y,c4,J,I⟩:=Vec.own u;have H:=uy u J;subst J;rw[bB,<-z.out] at I;rw[bB,<-z.out] at H⊢;exact⟨Y,_,c4,rfl,rfl,I,x4,H⟩
theorem Qe (A:Option Addr) (n cap i:Nat) (l L:List (Int×Int)) (c nx:Int) (w:aj) (hv:Hid (Vec w A l)) (q:Hid (l.length=n)) (j:n<=cap) (hb:n<=400000) (hi:i<=n) (Z:(c !=0)=true) (U:(nx !=0)=true)
  (hc:Hid (aX Tryz.prog 90 #[.slice A n cap,Vu c] w λe w'=>e= .returned (.tuple #[.int .i64 (i:Nat),.bool false])/\Ext w w')) (z:Hid (L=l.take i++[(c,nx)]++l.drop (i))):
  aX Tryz.prog 82 #[.slice A n cap,Vu c,Vu nx] w (yP w L):=by
 have X:=zo (n+1) ω ((n:Int)+1) ω;have W:=NP A n cap i ω;have Y:=M0 A n cap (i) ω (i:Int) ω;have a:=ah (show(l.take i).length=i by rw[bN,q.out];omega);have f:=ah (show(l.drop (i)).length=n-(i) by rw[bP,q.out]);go_enter Tryz.func82,Tryz.ntmps82
 go_wp2_with fail
 refine hc.out.mono ?_;rintro e w1 ⟨rfl,x1⟩
 go_wp2_with(first
   |(at_builtin
     refine oH (w0:=w) rfl (.tmp 25) (.tmp 28) rfl _ [] rfl (zu x1 _ ω) (x1.alloc _) A i cap (l.take i) rfl a.out ((hv.out.ext (x1.alloc _)).take i) (by simp only[aR,a.out];omega) ?_;intro N K Q x2)
   |(at_builtin
     refine oH (w0:=w) rfl (.tmp 36) (.tmp 40) rfl N ([]++l.take i) rfl (Q.alloc _) (x2.alloc _) _ 1 1 [(c,nx)] rfl rfl (Vec.new K c nx) (by simp only[bB,a.out,aH,aR];omega) ?_;intro M w3 O x3)
   |(at_builtin
     refine oH (w0:=w) rfl (.tmp 42) (.tmp 45) rfl M ([]++l.take i++[(c,nx)]) rfl O x3 (tX A cap (i) 2) (n-(i)) (cap-(i)) (l.drop (i)) rfl f.out ((hv.out.ext x3).cut q.out j ω) (by simp only[bB,ay,a.out,f.out,aH,aR];omega) ?_;intro v4 w4 u x4))
 go_ret;obtain⟨A4,c4,J,I⟩:=Vec.own u;have H:=uy u J;subst J;rw[bB,<-z.out] at I;rw[bB,<-z.out] at H⊢;exact⟨A4,_,c4,rfl,rfl,I,x4,H⟩
theorem Nj {p:Prop} (h:p:=by
 have hmk:=zo (n+1) ω ((n:Int)+1) ω;have hup:=NP A n cap i ω;have hfr:=M0 A n cap (i) ω (i:Int) ω;have hlt1:=ah (show(l.take i).length=i by rw[bN,hn.out];omega);have hld:=ah (show(l.drop (i)).length=n-(i) by rw[bP,hn.out]);go_enter Tryz.func82,Tryz.ntmps82
 go_wp2_with fail
 refine hc.out.mono ?_;rintro e w1 ⟨rfl,x1⟩
 go_wp2_with(first
   |(at_builtin
     refine oH (w0:=w) rfl (.tmp 25) (.tmp 28) rfl _ [] rfl (zu x1 _ ω) (x1.alloc _) A i cap (l.take i) rfl hlt1.out ((hv.out.ext (x1.alloc _)).take i) (by simp only[aR,hlt1.out];omega) ?_;intro v2 w2 o2 x2)
   |(at_builtin
     refine oH (w0:=w) rfl (.tmp 42) (.tmp 45) rfl v2 ([]++l.take i) rfl o2 x2 (tX A cap (i) 2) (n-(i)) (cap-(i)) (l.drop (i)) rfl hld.out ((hv.out.ext x2).cut hn.out hcap ω) (by simp only[bB,ay,hlt1.out,hld.out,aH,aR];omega) ?_;intro v4 w4 o4 x4))
 go_ret;obtain⟨A4,c4,e4,h4⟩:=Vec.own o4;have hf:=uy o4 e4;subst e4;rw[bB,<-hs.out] at h4;rw[bB,<-hs.out] at hf⊢;exact⟨A4,_,c4,rfl,rfl,h4,x4,hf⟩):p:=h
theorem Qf (A:Option Addr) (n cap i:Nat) (l L:List (Int×Int)) (c nx:Int) (w:aj) (hv:Hid (Vec w A l)) (hn:Hid (l.length=n)) (hcap:n<=cap) (j:n<=400000) (hi:i<=n) (f:(c !=0)=true) (a:(nx !=0)=false)
  (hc:Hid (aX Tryz.prog 90 #[.slice A n cap,Vu c] w λe w'=>e= .returned (.tuple #[.int .i64 (i:Nat),.bool false])/\Ext w w')) (hs:Hid (L=l.take i++l.drop (i))):
  aX Tryz.prog 82 #[.slice A n cap,Vu c,Vu nx] w (yP w L):=by
 exact Nj
theorem N9 (A:Option Addr) (n cap i:Nat) (l L:List (Int×Int)) (c nx:Int) (w:aj) (hv:Hid (Vec w A l)) (hn:Hid (l.length=n)) (hcap:n<=cap) (f:n<=400000) (hi:i<=n) (a:(c !=0)=false)
  (hc:Hid (aX Tryz.prog 90 #[.slice A n cap,Vu c] w λe w'=>e= .returned (.tuple #[.int .i64 (i:Nat),.bool false])/\Ext w w')) (hs:Hid (L=l.take i++l.drop (i))):
  aX Tryz.prog 82 #[.slice A n cap,Vu c,Vu nx] w (yP w L):=by
 exact Nj
theorem acQ (A:Option Addr) (n cap:Nat) (l:List (Int×Int)) (c nx:Int) (w:aj) (hv:Vec w A l) (z:l.length=n) (f:n<=cap) (M:oq 0 l=true) (I:n<=400000):
  aX Tryz.prog 82 #[.slice A n cap,Vu c,Vu nx] w (yP w (Ql l c nx)):=by
 have H:=M9 A n cap l c w hv z M I;have u:idxOf l c<=n:=by have:=aaH l c;omega
 by_cases hh:sP l c=true
 ·have J:idxOf l c<n:=by
   obtain⟨q,N⟩:=OI hh;rw[<-z];exact(aF.1 N).1
  have i:c≠0:=by
   intro e;subst e;rw[(ZC M).2] at hh;cases hh
  have j:Ql l c nx=(l.take (idxOf l c)++if nx=0 then [] else [(c,nx)])++l.drop (idxOf l c+1):=by unfold Ql;rw[if_neg i,FQ,hh];rfl
  rw[hh] at H;by_cases a:nx=0
  ·rw[if_pos a,bZ] at j
   exact Qh A n cap _ l _ c nx w (ah hv) (ah z) f I J (by simpa using i) (by simpa using a) (ah H) (ah j)
  ·rw[if_neg a] at j
   exact Qg A n cap _ l _ c nx w (ah hv) (ah z) f I J (by simpa using i) (by simpa using a) (ah H) (ah j)
 ·have K:sP l c=false:=by simpa using hh
  rw[K] at H;by_cases i:c=0
  ·subst i
   have j:Ql l 0 nx=l.take (idxOf l 0)++l.drop (idxOf l 0):=by unfold Ql;rw[if_pos rfl,List.take_append_drop]
   exact N9 A n cap _ l _ 0 nx w (ah hv) (ah z) f I u ι (ah H) (ah j)
  ·have j:Ql l c nx=(l.take (idxOf l c)++if nx=0 then [] else [(c,nx)])++l.drop (idxOf l c):=by unfold Ql;rw[if_neg i,FQ,K];rfl
   by_cases a:nx=0
   ·rw[if_pos a,bZ] at j
    exact Qf A n cap _ l _ c nx w (ah hv) (ah z) f I u (by simpa using i) (by simpa using a) (ah H) (ah j)
   ·rw[if_neg a] at j
    exact Qe A n cap _ l _ c nx w (ah hv) (ah z) f I u (by simpa using i) (by simpa using a) (ah H) (ah j)
end
def KW (w W:aj) (v:aI) (l:List (Int×Int)):Prop:=W.ownsRow w.heap.size 100 2 v l.length (flat Gy l)
theorem KW.nil (w W:aj):KW w W (.slice none 0 0) []:=World.ownsRow_nil W _ _ _
section
theorem KW.ext {w W W':aj} {v:aI} {l:List (Int×Int)} (h:KW w W v l) (a:Ext W W'):KW w W' v l:=by
 unfold KW at h⊢;rcases h with⟨h1,h2|⟨g,cap,cur,h2,h3,h4,h5⟩⟩
 ·exact⟨h1,.inl h2⟩
 ·refine⟨h1,.inr ⟨g,cap,cur,h2,h3,?_,h5⟩⟩
  have e:g<W.heap.size:=by
   rcases dD g W.heap.size with k|k
   ·exact k
   ·rw[Array.getElem?_eq_none k] at h4;cases h4
  rw[aJ a g e];exact h4
attribute [local go_sem] World.cell?_alloc_some
def aeu (w:aj) (N:Nat) (L:List (Int×Int)) (i:Nat) (f s1 e:aI) (W:aj):Prop:=
 ∃(a lb lo:List (Int×Int)) (A B:Option Addr) (n m ca cb:Nat),f= .slice A n ca/\s1= .slice B m cb/\Hid (a.length=n)/\Hid (lb.length=m)/\n<=ca/\m<=cb/\Hid (Vec w A a)/\Hid (Vec w B lb)/\
  KW w W e lo/\Ext w W/\Hid (lo++qm a lb=L)/\lo.length+n+m<=N/\n+m<=i
def ajF (f:aj) (x y e a:Int) (p q:aI) (W:aj):Prop:=
 ∃g h:Nat,p= .pointer (some ⟨g,0,none⟩)/\q= .pointer (some ⟨h,0,none⟩)/\W.cell? ⟨g,0,none⟩=some (Vu x)/\W.cell? ⟨g,1,none⟩=some (Vu y)/\W.cell? ⟨h,0,none⟩=some (Vu e)/\W.cell? ⟨h,1,none⟩=some (Vu a)/\Ext f W
theorem Vec.afq {w:aj} {base:Nat} {v:aI} {l:List (Int×Int)} (h:w.ownsRow base 100 2 v l.length (flat Gy l)):∃A c,v= .slice A l.length c/\Vec w A l/\l.length<=c:=by
 obtain⟨A,c,rfl⟩:=Js h;refine⟨A,c,rfl,Row.own h,?_⟩;rcases h.2 with⟨e,_⟩|⟨g,cap,cur,e,_,_,hnc,_⟩
 ·injection e with e1 e2 e3
  omega
 ·injection e with e1 e2 e3
  omega
def WK (w:aj) (l:List (Int×Int)) (e:Ending) (w':aj):Prop:=∃A n c,e= .returned (.slice A n c)/\l.length=n/\Vec w' A l/\Ext w w'/\n<=c/\wV w.heap.size A
theorem TI (A B:Option Addr) (n m cap K:Nat) (l r:List (Int×Int)) (w:aj) (hv:Vec w A l) (hu:Vec w B r) (hn:l.length=n) (hm:r.length=m) (a7:n<=cap) (a9:m<=K) (hb:n+m<=360000):
  aX Tryz.prog 148 #[.slice A n cap,.slice B m K] w (WK w (qm l r)):=by
 obtain⟨L,hL⟩:∃L,qm l r=L:=⟨_,rfl⟩;rw[hL];replace hL:=ah hL;replace hv:=ah hv;replace hu:=ah hu;replace hn:=ah hn;replace hm:=ah hm;have a8:=zo (n+m) ω ((n:Int)+(m:Int)) ω;go_enter Tryz.func148,Tryz.ntmps148;go_wp2
 go_loopg [0,1,5] (n+m) (aeu w (n+m) L)
 case atStart=>exact⟨l,r,[],A,B,n,m,cap,K,rfl,rfl,hn,hm,a7,a9,hv,hu,zu (Ext.refl w) _ ω,(Ext.refl w).alloc _,ah (by rw[bB];exact hL.out),ι,aD _⟩
 case round=>
  clear hL hv hu a8;obtain⟨i,lb,lo,A,B,j,u,ca,cb,rfl,rfl,a,f,a3,a2,O,N,Y,H,hrel,hN,b4⟩:=hrel;by_cases h0:0<j
  ·by_cases h1:0<u
   ·obtain⟨b,o,x,y,rfl,hp,d0,d1⟩:=O.out.at (k:=0) (by rw[a.out];exact h0)
    obtain⟨b',o',U,Q,rfl,a1,a0,Z⟩:=N.out.at (k:=0) (by rw[f.out];exact h1);simp only[Nat.zero_mul,Nat.add_zero] at d0 d1 a0 Z;have c0:=H.keep d0;have c1:=H.keep d1;have a4:=H.keep a0;have b3:=H.keep Z
    go_wp2_with fail
    go_cut [6,7] (ajF wr x y U Q)
    case first=>
     have b1:=eO wr _ c0;have b2:=eO wr _ a4;simp only at b1 b2
     go_region
     all_goals
      go_wp2_with fail
      go_meet;exact⟨_,_,rfl,rfl,σ,σ,σ,σ,(((Ext.refl _).alloc _).alloc _).drew⟩
    case rest=>
     obtain⟨g,h,rfl,rfl,g0,g1,i0,i1,x1⟩:=hcut;replace Y:=Y.ext x1;replace H:=H.trans x1;clear c0 c1 a4 b3 d0 d1 a0 Z x1;have ea:i=(x,y)::i.drop 1:=by
      obtain⟨hk,e⟩:=aF.1 hp;have:=dY hk;rw[e,dX] at this;exact this
     have eb:lb=(U,Q)::lb.drop 1:=by
      obtain⟨hk,e⟩:=aF.1 a1;have:=dY hk;rw[e,dX] at this;exact this
     replace ea:=ah ea;replace eb:=ah eb;clear hp a1;have b6:=M0 (some ⟨b,o,none⟩) j ca 1 ω 1 rfl;have b5:=M0 (some ⟨b',o',none⟩) u cb 1 ω 1 rfl;have a5:=ah (O.out.cut a.out a3 (show 1<=j by omega));have a6:=ah (N.out.cut f.out a2 (show 1<=u by omega));have X:=ah (show(i.drop 1).length=j-1 by rw[bP,a.out]);have W:=ah (show(lb.drop 1).length=u-1 by rw[bP,f.out]);rcases Int.lt_trichotomy x U with I|I|I
     ·have J:=ah (show lo++[(x,y)]++qm (i.drop 1) lb=L by
       rw[<-hrel.out]
       conv=>rhs;rw[ea.out,eb.out,merge_lt _ _ I,<-eb.out]
       simp)
      go_wp2_with(first
       |(at_builtin
         refine oH (w0:=w) rfl (.tmp 33) (.tmp 35) rfl _ lo rfl (jw Y _) (H.alloc _) _ 1 1 [(x,y)] rfl rfl (Vec.new wc x y) (by simp only[aH,aR];omega) ?_;intro v2 w2 M x2))
      go_roundg (j-1+u)
      case measure=>omega
      case rel=>exact⟨i.drop 1,lb,lo++[(x,y)],_,_,j-1,u,ca-1,cb,rfl,rfl,X,f,ω,a2,a5,N,M,x2,J,by simp only[ay,aH,aR];omega,aD _⟩
     ·subst I
      have J:=ah (show∀z:Int,z=max y Q->Hid (lo++[(x,z)]++qm (i.drop 1) (lb.drop 1)=L) from λz hz=>ah (by
       subst hz;rw[<-hrel.out]
       conv=>rhs;rw[ea.out,eb.out,JH (p:=(x,y)) (q:=(x,Q)) _ _ rfl]
       simp))
      go_wp2_with(first
       |(at_builtin
         refine oH (w0:=w) rfl (.tmp 50) (.tmp 59) rfl _ lo rfl (jw Y _) (H.alloc _) _ 1 1 [(x,_)] rfl rfl (Vec.new wc x _) (by simp only[aH,aR];omega) ?_;intro v2 w2 M x2))
      all_goals
       go_quiet(fail)
       go_wp2
       go_roundg (j-1+(u-1))
       case measure=>omega
       case rel=>exact⟨i.drop 1,lb.drop 1,_,_,_,j-1,u-1,ca-1,cb-1,rfl,rfl,X,W,ω,ω,a5,a6,KW.ext M ((Ext.refl _).drewN _),x2.drewN _,J.out _ ω,by simp only[ay,aH,aR];omega,aD _⟩
     ·have J:=ah (show lo++[(U,Q)]++qm i (lb.drop 1)=L by
       rw[<-hrel.out]
       conv=>rhs;rw[ea.out,eb.out,JG _ _ I,<-ea.out]
       simp)
      have b7:decide (x<U)=false:=by simp;omega
      go_wp2_with(first
       |(at_builtin
         refine oH (w0:=w) rfl (.tmp 44) (.tmp 46) rfl _ lo rfl (jw Y _) (H.alloc _) _ 1 1 [(U,Q)] rfl rfl (Vec.new wc U Q) (by simp only[aH,aR];omega) ?_;intro v2 w2 M x2))
      go_roundg (j+(u-1))
      case measure=>omega
      case rel=>exact⟨i,lb.drop 1,lo++[(U,Q)],_,_,j,u-1,ca,cb-1,rfl,rfl,a,W,a3,ω,O,a6,M,x2,J,by simp only[ay,aH,aR];omega,aD _⟩
   ·have em:lb=[]:=dF (by rw[f.out];omega)
    subst em;obtain rfl:u=0:=ω
    have J:=ah (show lo++i++[]=L by rw[<-hrel.out,Gf,bZ])
    go_wp2_with(first
     |(at_builtin
       refine oH (w0:=w) rfl (.tmp 65) (.tmp 66) rfl _ lo rfl Y H A j ca i rfl a.out (O.out.ext H) (by rw[a.out];omega) ?_;intro v2 w2 M x2)
     |(at_builtin
       refine oH (w0:=w) rfl (.tmp 68) (.tmp 69) rfl v2 (lo++i) rfl M x2 B 0 cb [] rfl rfl (Vec.nil _ _) (by rw[ay,a.out];simp;omega) ?_;intro v3 w3 o3 x3))
    go_ret;obtain⟨A4,c4,e4,h4,b0⟩:=Vec.afq o3;have hf:=uy o3 e4;subst e4;exact⟨A4,_,c4,rfl,by rw[<-J.out],by rw[<-J.out];exact h4,x3,hf⟩
  ·have em:i=[]:=dF (by rw[a.out];omega)
   subst em;obtain rfl:j=0:=ω
   have J:=ah (show lo++[]++lb=L by rw[<-hrel.out,F9,bZ])
   go_wp2_with(first
        |(at_builtin
          refine oH (w0:=w) rfl (.tmp 65) (.tmp 66) rfl _ lo rfl Y H A 0 ca [] rfl rfl (Vec.nil _ _) (by simp;omega) ?_;intro v2 w2 M x2)
        |(at_builtin
          refine oH (w0:=w) rfl (.tmp 68) (.tmp 69) rfl v2 (lo++[]) rfl M x2 B u cb lb rfl f.out (N.out.ext x2) (by rw[ay,f.out];simp;omega) ?_;intro v3 w3 o3 x3))
   go_ret;obtain⟨A4,c4,e4,h4,b0⟩:=Vec.afq o3;have hf:=uy o3 e4;subst e4;exact⟨A4,_,c4,rfl,by rw[<-J.out],by rw[<-J.out];exact h4,x3,hf⟩
end
end Go.Proofs.YtejbpijamdlgcaaGreatDoor

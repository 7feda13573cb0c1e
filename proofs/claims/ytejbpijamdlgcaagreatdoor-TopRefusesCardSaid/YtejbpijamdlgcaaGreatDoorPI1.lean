/-
  Lemmas of this seat; no claim.
-/
import Derived.Test.YtejbpijamdlgcaaGreatDoorPIf1
import Derived.Test.YtejbpijamdlgcaaGreatDoorLayGr
set_option linter.unusedVariables false
set_option linter.unusedSimpArgs false
set_option maxRecDepth 100000
set_option maxHeartbeats 16000000
open Array renaming getElem?_eq_some_iff→aC
open Go renaming Calls→aX,Value→aI,World→aj,bodyPost_ret→aN,cell_of_row→ak,frozen_of_row→aK,heap_alloc_new→aT,heap_setCell_other→bA,heap_setCell_same→aB,results→dK
open Go.IntKind renaming i64→dO,u32→aA
open Go.IntWalk renaming i64_in→cO
open Go.Lib renaming hid→ah
open Go.RowKit.Below renaming block→aJ
open Go.Value renaming int→aG
open Go.World renaming cell?_alloc_some→au
open List renaming getElem?_cons_succ→ni,getElem?_cons_zero→jK,getElem?_eq_getElem→aO,getElem?_eq_some_iff→aF,length_drop→bP,length_nil→aR,length_take→bN,length→jI,take_add_one→cZ,take_of_length_le→bI
open Nat renaming le_refl→aD,zero_le→cK
open Option.some renaming injEq→bJ
namespace Go.Proofs.YtejbpijamdlgcaaGreatDoor
open Go.ChangeShapes Go.WideShapes Go.ChangeAt Go.RowKit Go.Sort
section
attribute [local go_sem] au
theorem GA (A:Option Addr) (n cap:Nat) (l:List En) (w:aj) (hv:EnS w A l) (I:l.length=n) (N:n<=40000000):
  aX Tryz.prog 216 #[.slice A n cap] w λe w'=>∃v,e= .returned v/\qI w w' v l/\Ext w w':=by
 have M:∀(W:aj) (a:Option Addr) (n c f j:Nat),(binOp .eql 76 (.slice a n c) (.slice none f j)).run Tryz.prog W= .ok (.bool a.isNone) W:=λW a n c f j=>Lib.run_eql_slice_nil W _ _ a n c f j Tryz.underlying76
 cases A with
 |none=>
  have J:l=[]:=by
   cases l with
   |nil=>rfl
   |cons x l=>obtain⟨b,o,K,e,_⟩:=hv.at (k:=0) ι;cases e
  subst J;go_enter Tryz.func216,Tryz.ntmps216;go_wp2;go_ret;exact⟨_,rfl,qI.nil _ _,Ext.refl _⟩
 |some a=>
  have i:=hv.ext ((Ext.refl w).alloc (.cells #[] 147));have H:=qI.empty (Ext.refl w);have z:=(Ext.refl w).alloc (.cells #[] 147);go_enter Tryz.func216,Tryz.ntmps216
  go_wp2_with(at_builtin;refine wL (w0:=w) rfl (.tmp 5) (.tmp 6) rfl _ [] rfl H z (some a) n cap l rfl I i (by simp only[aR];omega) ?_)
  intro q w3 u x3 _ _;go_wp2;go_ret;exact⟨q,rfl,u,x3⟩
theorem Ye (n:Nat) (w:aj) (I:n<=40000000):
  aX Tryz.prog 262 #[.slice none 0 0,Vi (n:Int)] w λe w'=>∃v,e= .returned v/\qI w w' v []/\Ext w w':=by
 rcases Nat.eq_zero_or_pos n with q|q
 ·subst q
  refine(Any8.slices_Grow_room Tryz.growE none 0 0 0 w (aD _) ω ω (aD _)).mono ?_;rintro e w' ⟨rfl,rfl⟩;exact⟨_,rfl,qI.nil _ _,Ext.refl _⟩
 ·obtain⟨i,hi,j,u,f⟩:=info_parts Q5
  refine(Any8.slices_Grow_grow Tryz.growE i _ hi j ω none 0 0 n [] w (aD _) ω (by rw[f];omega) ω ι (λ_=>rfl) (λa e=>by cases e)).mono ?_;rintro e w' ⟨rfl,rfl⟩;refine⟨_,rfl,⟨by simp[flat],.inr ⟨w.heap.size,_,_,rfl,aD _,aT (w.drew) _,cK _,grownCap_le_maxLen _ _ _ _ (by unfold maxLen;omega),?_,by simp[flat]⟩⟩,((Ext.refl w).drew).alloc _⟩;have z:=grownCap_ge w (0+n) 0 (Tryz.growE_ren.t 25);simp only[Array.size_append,size_zeroCells,List.size_toArray,aR];have H:(Value.agg #[aG aA 0,aG aA 0,aG IntKind.i32 0,Value.bool false]).cells.size=4:=rfl;rw[H];omega
structure SlE where
 A:Option Addr
 c:Nat
 l:List En
def yt (ls:List SlE):Nat:=(ls.map λx=>x.l.length).sum
def Ie (ls:List SlE):List En:=ls.flatMap λx=>x.l
theorem Wu:∀ls:List SlE,(Ie ls).length=yt ls
 |[]=>rfl
 |x::ls=>by
  have:=Wu ls;unfold Ie yt at*;simp[this]
theorem PZ {ls:List SlE} {j:Nat} {x:SlE} (h:ls[j]? =some x):yt (ls.take (j+1))=yt (ls.take j)+x.l.length:=by
 rw[cZ,h];simp[yt]
theorem ab3 {ls:List SlE} {j:Nat} {x:SlE} (h:ls[j]? =some x):Ie (ls.take (j+1))=Ie (ls.take j)++x.l:=by
 rw[cZ,h];simp[Ie]
theorem NT:∀(ls:List SlE) (j:Nat),yt (ls.take j)<=yt ls
 |[],j=>by simp[yt]
 |x::ls,0=>by simp[yt]
 |x::ls,j+1=>by
  have h:=NT ls j;have e:yt ((x::ls).take (j+1))=x.l.length+yt (ls.take j):=by simp[yt]
  have a:yt (x::ls)=x.l.length+yt ls:=by simp[yt]
  omega
theorem UD (b n cap:Nat) (ls:List SlE) (w:aj) (H:∀(j:Nat) (x:SlE),ls[j]? =some x->w.cell? ⟨b,j,none⟩=some (.slice x.A x.l.length x.c)/\EnS w x.A x.l) (q:ls.length=n) (a1:n<=400000) (hb:yt ls<=40000000):
  aX Tryz.prog 222 #[.slice (some ⟨b,0,none⟩) n cap] w λe w'=>∃v,e= .returned v/\qI w w' v (Ie ls)/\Ext w w':=by
 have Q:=ah (λW=>Ye (yt ls) W hb);replace H:=ah H;replace q:=ah q;go_enter Tryz.func222,Tryz.ntmps222;go_wp2
 go_loopw [3,11] (λs i W=>∃(j:Nat),j<=n/\i=Vi j/\s=Vi (yt (ls.take j))/\w=W) (λ_ i _=>n-(intOf i).toNat)
 case atStart=>exact⟨0,cK _,rfl,rfl,rfl⟩
 case round=>
  obtain⟨j,hj,rfl,rfl,rfl⟩:=hrel;have a0:=NT ls j;by_cases M:j<n
  ·obtain⟨x,a⟩:∃x,ls[j]? =some x:=⟨ls[j]'(by rw[q.out];exact M),aO _⟩
   obtain⟨c0,_⟩:=H.out j x a;have u:=PZ a;have f:=NT ls (j+1);have O:(0:Int)<=(j:Int):=ω
   have N:(j:Int)<(n:Int):=ω
   have J:=ah u;rw[u] at f;clear u a;generalize yt (ls.take j)=sj at*;generalize x.l.length=xl at*;go_wp2
   go_roundw
   case rel=>exact⟨j+1,ω,ν,by rw[J.out];go_num,trivial⟩
   case measure=>simp[intOf];omega
  ·obtain rfl:j=n:=ω
   have e:yt (ls.take j)=yt ls:=by rw[bI (by rw[q.out];omega)]
   rw[e]
   go_wp2_with fail
   refine(Q.out _).mono ?_;rintro e w1 ⟨v1,rfl,o1,x1⟩;go_wp2
   go_loopw [6,27] (λv i W=>∃(k:Nat),k<=j/\i=Vi k/\qI w W v (Ie (ls.take k))/\Ext w W) (λ_ i _=>j-(intOf i).toNat)
   case atStart=>exact⟨0,cK _,rfl,o1,x1⟩
   case round=>
        clear o1 x1;obtain⟨k,hk,rfl,K,I⟩:=hrel;by_cases z:k<j
        ·obtain⟨x,a⟩:∃x,ls[k]? =some x:=⟨ls[k]'(by rw[q.out];exact z),aO _⟩
         obtain⟨c0,Z⟩:=H.out k x a;have c1:=I.keep c0;have Y:=Z.ext I;have u:=PZ a;have f:=NT ls (k+1);have U:=Wu (ls.take k);have O:(0:Int)<=(k:Int):=ω
         have N:(k:Int)<(j:Int):=ω
         have J:=ah (ab3 a);have X:(Ie (ls.take k)).length+x.l.length<=40000000:=ω
         clear u f U a c0 Z
         go_wp2_with(at_builtin;refine wL (w0:=w) rfl (.tmp 31) (.tmp 32) rfl _ _ rfl K I x.A x.l.length x.c x.l rfl rfl Y X ?_;intro v3 w3 o3 x3 _ _)
         go_roundw
         case rel=>exact⟨k+1,ω,ν,by rw[J.out];exact o3,x3⟩
         case measure=>simp[intOf];omega
        ·obtain rfl:k=j:=ω
         have e2:Ie (ls.take k)=Ie ls:=by rw[bI (by rw[q.out];omega)]
         rw[e2] at K;go_wp2;go_ret;exact⟨_,rfl,K,I⟩
end
section
attribute [local go_sem] au calm oK oG
variable {G:Nat->Prop}
theorem Aj {w a:aj} {v:aI} {l:List En} (f:qI w a v l) (z:l.length<=40000000) (i:Up G w) (j:Ext w a):
  aX Tryz.prog 217 #[v] a (GL G a (.leaf l)):=by
 obtain⟨A,c,rfl,u,H⟩:=qI.open f;refine R7 A l.length c l a H rfl u z (i.ext j) λI=>?_
 obtain⟨g,J,e,q,_⟩:=qI.block f I;injection e with e1;exact⟨g,0,e1,i g q⟩
theorem Tt:∀(k:Nat) (l:List En) (A:Option Addr) (n cap:Nat) (w:aj),l.length<=k->EnS w A l->l.length=n->n<=cap->n<=40000000->Up G w->
  aX Tryz.prog 221 #[.slice A n cap] w (GL G w (rT l)):=by
 intro k
 induction k with
 |zero=>
  intro l A n cap w hk hv I a hb j;obtain rfl:l=[]:=List.length_eq_zero_iff.1 ω;subst I;have i:=ah (GA A 0 cap [] w hv rfl ω);rw[Jq ι];go_enter Tryz.func221,Tryz.ntmps221
  go_wp2_with fail
  refine i.out.mono ?_;rintro e w2 ⟨v2,rfl,M,x2⟩
  go_wp2_with fail
  refine(Aj M ι j x2).mono ?_;rintro e Z ⟨q,rfl,u,x4⟩;go_wp2;go_ret;exact⟨q,rfl,u,x2.trans x4⟩
 |succ k ih=>
  intro l A n cap w hk hv I a hb j;by_cases hs:n<=16
  ·have i:=ah (GA A n cap l w hv I hb)
   have hd:decide ((n:Int)<=16)=true:=by rw[decide_eq_true_eq];omega
   rw[Jq ω];go_enter Tryz.func221,Tryz.ntmps221
   go_wp2_with fail
   refine i.out.mono ?_;rintro e w2 ⟨v2,rfl,M,x2⟩
   go_wp2_with fail
   refine(Aj M ω j x2).mono ?_;rintro e Z ⟨q,rfl,u,x4⟩;go_wp2;go_ret;exact⟨q,rfl,u,x2.trans x4⟩
  ·have hd:decide ((n:Int)<=16)=false:=by rw[decide_eq_false_iff_not];omega
   rw[ZX ω];obtain⟨h,hh⟩:∃h,l.length/2=h:=⟨_,rfl⟩;rw[hh];have Q:(n:Int)/2=(h:Int):=ω
   have a0:=aeC A n cap h ω (h:Int) rfl;have a1:=aeZ A n cap h ω (h:Int) rfl;have O:=ah (λW (f:Ext w W)=>ih (l.take h) A h cap W (by rw[bN];omega) ((hv.take h).ext f) (by rw[bN];omega) ω ω (j.ext f));have N:=ah (λW (f:Ext w W)=>ih (l.drop h) (tX A cap h 4) (n-h) (cap-h) W (by rw[bP];omega) ((hv.cut I a ω).ext f) (by rw[bP];omega) ω ω (j.ext f));have H:okR (rT (l.take h)):=Oq (λe=>by have:=congrArg jI e;rw[bN,aR] at this;omega);have z:okR (rT (l.drop h)):=Oq (λe=>by have:=congrArg jI e;rw[bP,aR] at this;omega);clear ih hv;go_enter Tryz.func221,Tryz.ntmps221
   go_wp2_with fail
   try rw[Q]
   refine qX 8 [rw1 3 λJ W=>vL G W J (rT (l.take h)),rw1 7 λJ W=>vL G W J (rT (l.drop h))] ⟨λ_ _ _ _ h e=>vL.ext h e,λ_ _ _ _ h e=>vL.ext h e,trivial⟩ λY _=>?_
   refine .s 3 (λW f y=>oz) ?_;refine .k 0 O.out ?_;refine .s 3 (λW f y=>oz) ?_;refine .k 1 N.out ?_;refine .fin λW hR ⟨X,U,_⟩=>?_
   obtain⟨q3,e3,X⟩:=X;rw[show Y 3=_ from e3];obtain⟨q7,e7,U⟩:=U;rw[show Y 7=_ from e7]
   go_wp2_with fail
   refine(qP X U (j.ext hR) H z (by unfold cnt;rw[Gx,Gx,bN,bP];omega)).mono ?_;rintro e Z ⟨q,rfl,u,x4⟩;go_wp2;go_ret;exact⟨q,rfl,u,hR.trans x4⟩
theorem ZP (x:En):∀(t:Tr) (b p:Nat) (w:aj),AtP G w b t->Up G w->(t= .leaf []\/okR t)->p<=cnt t->cnt t<=20000000->
  aX Tryz.prog 184 #[Vp b,Vi (p:Int),env x] w (GL G w (tQ t p x)):=by
 intro t
 induction t with
 |leaf l=>
  rintro b p w ⟨_,ch,lf,rt,⟨c0,c1,c2,c3,c4,c5,c6,c7⟩,rfl,rfl,A,cap,rfl,Z,hE,_⟩ hG i Y hb;have Y:p<=l.length:=Y;have hb:l.length<=20000000:=hb;obtain⟨n,hn⟩:∃n,l.length=n:=⟨_,rfl⟩;rw[hn] at Y hb Z c0;have x0:Ext w (w.alloc (.cells #[.int .u32 x.c,.int .u32 x.k,.int .i32 x.ch,.bool x.g] 147)):=(Ext.refl _).alloc _;obtain⟨I,f⟩:∃I,w.heap.size=I:=⟨_,rfl⟩;obtain⟨H,a⟩:∃W,w.alloc (.cells #[.int .u32 x.c,.int .u32 x.k,.int .i32 x.ch,.bool x.g] 147)=W:=⟨_,rfl⟩;have e0:H.cell? ⟨I,0,none⟩=some (Vu x.c):=by rw[<-a,<-f];simp[go_sem]
  have e1:H.cell? ⟨I,1,none⟩=some (Vu x.k):=by rw[<-a,<-f];simp[go_sem]
  have e2:H.cell? ⟨I,2,none⟩=some (.int .i32 x.ch):=by rw[<-a,<-f];simp[go_sem]
  have e3:H.cell? ⟨I,3,none⟩=some (.bool x.g):=by rw[<-a,<-f];simp[go_sem]
  rw[a] at x0;have c0:=x0.keep c0;have hl:=ah (zG b H (x0.keep c1));have b7:=ah (hE.ext x0);have d2:=aeC A n cap p ω (p:Int) rfl;have d3:=aeZ A n cap p Y (p:Int) rfl;replace a:=ah a;replace f:=ah f;clear hE c1 c2 c3 c4 c5 c6 c7;go_enter Tryz.func184,Tryz.ntmps184
  go_wp2_with fail
  rw[a.out,f.out];refine hl.out.mono ?_;rintro e a4 ⟨rfl,XZ⟩;subst XZ
  go_wp2_with fail
  refine qX 14 [rw1 7 λz9 W=>∃q,z9= .slice (some ⟨q,0,none⟩) 1 1/\agW W q x] ⟨by rintro _ _ _ _ ⟨q,h0,h1⟩ e;exact⟨q,h0,e.blk h1⟩,trivial⟩ λρ _=>?_
  refine .s 7 (λW M y=>oz) ?_;refine .o 0 [] (λW M y _ N hN=>?_) ?_
  ·go_simp
   exact hN _ _ (λ_ e=>by cases e) ⟨_,rfl,aT W _⟩ ((Ext.refl W).alloc _)
  refine .s 6 (λW M y=>oz) ?_;refine .fin λW U ⟨h7,_⟩=>?_
  obtain⟨X,e7,h7⟩:=h7;rw[show ρ 7=_ from e7];have y1:Ext W (W.alloc (.cells #[.slice A p cap,.slice (some ⟨X,0,none⟩) 1 1,.slice (tX A cap p 4) (n-p) (cap-p)] 76)):=(Ext.refl W).alloc _;have k0:(W.alloc (.cells #[.slice A p cap,.slice (some ⟨X,0,none⟩) 1 1,.slice (tX A cap p 4) (n-p) (cap-p)] 76)).cell? ⟨W.heap.size,0,none⟩=some (.slice A p cap):=σ
  have k1:(W.alloc (.cells #[.slice A p cap,.slice (some ⟨X,0,none⟩) 1 1,.slice (tX A cap p 4) (n-p) (cap-p)] 76)).cell? ⟨W.heap.size,1,none⟩=some (.slice (some ⟨X,0,none⟩) 1 1):=σ
  have k2:(W.alloc (.cells #[.slice A p cap,.slice (some ⟨X,0,none⟩) 1 1,.slice (tX A cap p 4) (n-p) (cap-p)] 76)).cell? ⟨W.heap.size,2,none⟩=some (.slice (tX A cap p 4) (n-p) (cap-p)):=σ
  go_wp2_with fail
  generalize W.alloc (.cells #[.slice A p cap,.slice (some ⟨X,0,none⟩) 1 1,.slice (tX A cap p 4) (n-p) (cap-p)] 76)=W2 at*;have a7:Ext w W2:=(x0.trans U).trans y1;have a9:=b7.out.ext (U.trans y1);have b1:(l.take p).length=p:=by rw[bN];omega
  have b2:(l.drop p).length=n-p:=by rw[bP];omega
  have J7:Ie [⟨A,cap,l.take p⟩,⟨some ⟨X,0,none⟩,1,[x]⟩,⟨tX A cap p 4,cap-p,l.drop p⟩]=DR l p x:=by simp[Ie,DR]
  have a6:=UD W.heap.size 3 3 [⟨A,cap,l.take p⟩,⟨some ⟨X,0,none⟩,1,[x]⟩,⟨tX A cap p 4,cap-p,l.drop p⟩] W2 (λj y J=>by
   match j,J with
   |0,J=>
    simp only[jK,bJ] at J;subst J;exact⟨by rw[k0,b1],a9.take p⟩
   |1,J=>
    simp only[ni,jK,bJ] at J;subst J;exact⟨k1,(h7.row).ext y1⟩
   |2,J=>
    simp only[ni,jK,bJ] at J;subst J;exact⟨by rw[k2,b2],a9.cut hn Z Y⟩
   |j+3,J=>simp at J) rfl ω (by simp[yt];omega)
  rw[J7] at a6;refine a6.mono ?_;rintro e w4 ⟨v4,rfl,o4,x4⟩;obtain⟨A4,c4,rfl,b5,b6⟩:=qI.open o4
  go_wp2_with fail
  refine(Tt _ (DR l p x) A4 _ c4 w4 (aD _) b6 rfl b5 (by rw[Vm ω];omega) (hG.ext (a7.trans x4))).mono ?_;rintro e w5 ⟨v5,rfl,o5,x5⟩;go_wp2;go_ret;exact⟨v5,rfl,o5,(a7.trans x4).trans x5⟩
 |node u tb a1 a0=>
  rintro b p w ⟨_,ch,lf,rt,⟨c0,c1,c2,c3,c4,c5,c6,c7⟩,a8⟩ hG i Y hb;obtain⟨rfl,lp,rp,rfl,rfl,hA,hB⟩:=a8.node;have i:okR (.node u tb):=by
   rcases i with h|h
   ·cases h
   ·exact h
  rw[qz] at Y hb;have b8:=hA;obtain⟨_,_,_,_,⟨_,_,_,_,l4,_,_,_⟩,_⟩:=b8;have x0:Ext w (w.alloc (.cells #[.int .u32 x.c,.int .u32 x.k,.int .i32 x.ch,.bool x.g] 147)):=(Ext.refl _).alloc _;obtain⟨I,f⟩:∃I,w.heap.size=I:=⟨_,rfl⟩;obtain⟨H,a⟩:∃W,w.alloc (.cells #[.int .u32 x.c,.int .u32 x.k,.int .i32 x.ch,.bool x.g] 147)=W:=⟨_,rfl⟩;have e0:H.cell? ⟨I,0,none⟩=some (Vu x.c):=by rw[<-a,<-f];simp[go_sem]
  have e1:H.cell? ⟨I,1,none⟩=some (Vu x.k):=by rw[<-a,<-f];simp[go_sem]
  have e2:H.cell? ⟨I,2,none⟩=some (.int .i32 x.ch):=by rw[<-a,<-f];simp[go_sem]
  have e3:H.cell? ⟨I,3,none⟩=some (.bool x.g):=by rw[<-a,<-f];simp[go_sem]
  rw[a] at x0;have c1:=x0.keep c1;have c2:=x0.keep c2;have l4:=x0.keep l4;have hl:=ah (zB b lp H c1);replace a:=ah a;replace f:=ah f;clear c0 c3 c4 c5 c6 c7 a8;by_cases Q:p<=cnt u
  ·have b4:=ah (λW (M:Ext H W)=>a1 lp p W (hA.ext (x0.trans M)) (hG.ext (x0.trans M)) (.inr i.1) Q ω)
   have hd:decide ((p:Int)<=(cnt u:Int))=true:=by rw[decide_eq_true_eq];omega
   have O:okR (tQ u p x):=Bv u p x (.inr i.1);have a2:cnt (tQ u p x)=cnt u+1:=LZ u p x Q;have z:tQ (.node u tb) p x=xX (tQ u p x) tb:=by rw[tQ,if_pos Q]
   rw[z];clear a1 a0 z;go_enter Tryz.func184,Tryz.ntmps184
   go_wp2_with fail
   rw[a.out,f.out];refine hl.out.mono ?_;rintro e a4 ⟨rfl,XZ⟩;subst XZ
   go_wp2_with fail
   refine qX 11 [rw1 6 λz9 W=>vL G W z9 (tQ u p x)] ⟨λ_ _ _ _ h e=>vL.ext h e,trivial⟩ λρ _=>?_
   refine .s 6 (λW M y=>oz) ?_;refine .k 0 b4.out ?_;refine .s 4 (λW M y=>oz) ?_;refine .fin λW U ⟨h6,_⟩=>?_
   obtain⟨q6,e6,h6⟩:=h6;rw[show ρ 6=_ from e6]
   go_wp2_with fail
   refine(Wz h6 (hB.ext (x0.trans U)) (hG.ext (x0.trans U)) O i.2 (by rw[a2];omega)).mono ?_;rintro e w4 ⟨v4,rfl,o4,x4⟩;go_wp2;go_ret;exact⟨v4,rfl,o4,(x0.trans U).trans x4⟩
  ·obtain⟨m,hm⟩:∃m,p-cnt u=m:=⟨_,rfl⟩
   have b3:=ah (λW (M:Ext H W)=>a0 rp m W (hB.ext (x0.trans M)) (hG.ext (x0.trans M)) (.inr i.2) ω ω);have hd:decide ((p:Int)<=(cnt u:Int))=false:=by rw[decide_eq_false_iff_not];omega
   have a5:dO.wrap ((p:Int)-(cnt u:Int))=(m:Int):=by rw[show((p:Int)-(cnt u:Int))=(m:Int) by omega];exact cO _ ω
   have O:okR (tQ tb m x):=Bv tb m x (.inr i.2);have a2:cnt (tQ tb m x)=cnt tb+1:=LZ tb m x ω;have z:tQ (.node u tb) p x=xX u (tQ tb m x):=by rw[tQ,if_neg Q,hm]
   rw[z];clear a1 a0 z;obtain⟨na,b0⟩:∃na,cnt u=na:=⟨_,rfl⟩;rw[b0] at a5 hd l4 Q hm Y hb;go_enter Tryz.func184,Tryz.ntmps184
   go_wp2_with fail
   rw[a.out,f.out];refine hl.out.mono ?_;rintro e a4 ⟨rfl,XZ⟩;subst XZ
   go_wp2_with fail
   refine qX 19 [rw1 18 λz9 W=>vL G W z9 (tQ tb m x)] ⟨λ_ _ _ _ h e=>vL.ext h e,trivial⟩ λρ _=>?_
   refine .s 18 (λW M y=>oz) ?_;refine .k 0 b3.out ?_;refine .fin λW U ⟨a3,_⟩=>?_
   obtain⟨d1,b9,a3⟩:=a3;rw[show ρ 18=_ from b9]
   go_wp2_with fail
   refine(Wz (hA.ext (x0.trans U)) a3 (hG.ext (x0.trans U)) i.1 O (by rw[a2];omega)).mono ?_;rintro e w4 ⟨v4,rfl,o4,x4⟩;go_wp2;go_ret;exact⟨v4,rfl,o4,(x0.trans U).trans x4⟩
theorem aaS:∀(t:Tr) (b p:Nat) (w:aj),AtP G w b t->Up G w->(t= .leaf []\/okR t)->p<cnt t->cnt t<=20000000->
  aX Tryz.prog 179 #[Vp b,Vi (p:Int)] w (GL G w (rH t p)):=by
 intro t
 induction t with
 |leaf l=>
  rintro b p w ⟨_,ch,lf,rt,⟨c0,c1,c2,c3,c4,c5,c6,c7⟩,rfl,rfl,A,cap,rfl,a8,hE,_⟩ O f J X;have J:p<l.length:=J;have X:l.length<=20000000:=X;obtain⟨x,j⟩:∃x,l[p]? =some x:=⟨l[p],aO J⟩;have a1:=ah (GA A l.length cap l w hE rfl ω);have hl:=ah (zG b w c1);have a:rH (.leaf l) p= .leaf (l.set p { x with g:=true }):=by rw[rH,Rw j]
  rw[a];clear hE c1 c2 c3 c4 c5 c6 c7 a;go_enter Tryz.func179,Tryz.ntmps179
  go_wp2_with fail
  refine hl.out.mono ?_;rintro e w1 ⟨rfl,q⟩;subst q
  go_wp2_with fail
  refine a1.out.mono ?_;rintro e w2 ⟨v2,rfl,Z,x2⟩;obtain⟨g,cc,rfl,hg,b2⟩:=qI.block Z ω;obtain⟨o3,g3,f3⟩:=qI.hide Z j;have k3:w2.cell? ⟨g,p*4+3,none⟩=some (.bool x.g):=by
   obtain⟨A',c',e,_,a5⟩:=qI.open Z;injection e with e1;subst e1;obtain⟨b',o',x',e,u,hc⟩:=a5.at J;injection e with e;injection e with e1 e2;subst e1;subst e2;rw[j] at u;injection u with u;subst u;have:=hc.c3;rwa[Nat.zero_add] at this
  have x3:Ext w (w2.setCell ⟨g,p*4+3,none⟩ (.bool true)):=Ext.setCell x2 hg _;have U:(l.set p { x with g:=true }).length<=40000000:=by rw[List.length_set];omega
  have b1:(0:Int)<=(p:Int):=ω
  have b0:(p:Int)<(l.length:Int):=ω
  have a2:=ah (Aj o3 U O x3);clear Z o3 g3
  go_wp2_with fail
  refine a2.out.mono ?_;rintro e w5 ⟨v5,rfl,o5,x5⟩;go_wp2;go_ret;exact⟨v5,rfl,o5,x3.trans x5⟩
 |node i tb I H=>
  rintro b p w ⟨_,ch,lf,rt,⟨c0,c1,c2,c3,c4,c5,c6,c7⟩,Y⟩ O f J X;obtain⟨rfl,lp,rp,rfl,rfl,hA,hB⟩:=Y.node;have f:okR (.node i tb):=by
   rcases f with h|h
   ·cases h
   ·exact h
  rw[qz] at J X;have a6:=hA;obtain⟨_,_,_,_,⟨_,_,_,_,l4,_,_,_⟩,_⟩:=a6;have hl:=ah (zB b lp w c1);clear c0 c3 c4 c5 c6 c7 Y;by_cases z:p<cnt i
  ·have a4:=ah (λW (j:Ext w W)=>I lp p W (hA.ext j) (O.ext j) (.inr f.1) z ω)
   have hd:decide ((p:Int)<(cnt i:Int))=true:=by rw[decide_eq_true_eq];omega
   have a:rH (.node i tb) p= .node (rH i p) tb:=by rw[rH,if_pos z]
   rw[a];clear I H a;go_enter Tryz.func179,Tryz.ntmps179
   go_wp2_with fail
   refine hl.out.mono ?_;rintro e w1 ⟨rfl,q⟩;subst q
   go_wp2_with fail
   refine qX 10 [rw1 5 λz9 W=>vL G W z9 (rH i p)] ⟨λ_ _ _ _ h e=>vL.ext h e,trivial⟩ λρ _=>?_
   refine .s 5 (λW j y=>oz) ?_;refine .k 0 a4.out ?_;refine .s 4 (λW j y=>oz) ?_;refine .fin λW M ⟨h5,_⟩=>?_
   obtain⟨q5,e5,h5⟩:=h5;rw[show ρ 5=_ from e5]
   go_wp2_with fail
   refine(qP h5 (hB.ext M) (O.ext M) (zK _ _ f.1) f.2 (by rw[J5];omega)).mono ?_;rintro e w4 ⟨v4,rfl,o4,x4⟩;go_wp2;go_ret;exact⟨v4,rfl,o4,M.trans x4⟩
  ·obtain⟨m,hm⟩:∃m,p-cnt i=m:=⟨_,rfl⟩
   have a3:=ah (λW (j:Ext w W)=>H rp m W (hB.ext j) (O.ext j) (.inr f.2) ω ω);have hd:decide ((p:Int)<(cnt i:Int))=false:=by rw[decide_eq_false_iff_not];omega
   have Q:dO.wrap ((p:Int)-(cnt i:Int))=(m:Int):=by rw[show((p:Int)-(cnt i:Int))=(m:Int) by omega];exact cO _ ω
   have a:rH (.node i tb) p= .node i (rH tb m):=by rw[rH,if_neg z,hm]
   rw[a];clear I H a;obtain⟨na,a0⟩:∃na,cnt i=na:=⟨_,rfl⟩;rw[a0] at Q hd l4 z hm J X;go_enter Tryz.func179,Tryz.ntmps179
   go_wp2_with fail
   refine hl.out.mono ?_;rintro e w1 ⟨rfl,q⟩;subst q
   go_wp2_with fail
   refine qX 18 [rw1 17 λz9 W=>vL G W z9 (rH tb m)] ⟨λ_ _ _ _ h e=>vL.ext h e,trivial⟩ λρ _=>?_
   refine .s 17 (λW j y=>oz) ?_;refine .k 0 a3.out ?_;refine .fin λW M ⟨N,_⟩=>?_
   obtain⟨a9,a7,N⟩:=N;rw[show ρ 17=_ from a7]
   go_wp2_with fail
   refine(qP (hA.ext M) N (O.ext M) f.1 (zK _ _ f.2) (by rw[J5];omega)).mono ?_;rintro e w4 ⟨v4,rfl,o4,x4⟩;go_wp2;go_ret;exact⟨v4,rfl,o4,M.trans x4⟩
end
section
attribute [local go_sem] au
section
def Ix (F:Nat->Prop) (W:aj) (v:aI) (l:List En):Prop:=
 ∃(t:Tr) (x:Xv),v=ixv x/\ents t=l/\(t= .leaf []\/okR t)/\x.h=htT t/\x.m=cnt t/\x.s=shw t/\x.lo=loT t/\x.hi=hiT t/\PV F W t (.slice x.A x.n x.c) (.pointer x.l) (.pointer x.r)/\(∀b,F b->b<W.heap.size)
theorem Ix.ext {F:Nat->Prop} {W W':aj} {v:aI} {l:List En} (h:Ix F W v l) (e:Ext W W'):Ix F W' v l:=by
 obtain⟨t,x,K,J,I,H,z,u,q,j,i,a⟩:=h;exact⟨t,x,K,J,I,H,z,u,q,j,i.ext e,λb f=>e.lt (a b f)⟩
abbrev Gb (F:Nat->Prop) (W:aj) (b:Nat):Prop:=F b\/W.heap.size<=b
variable {F:Nat->Prop} {w:aj}
theorem Ix.box {W:aj} {v:aI} {l:List En} (h:Ix F W v l):∃(t:Tr) (A:Option Addr) (n c:Nat) (e a:Option Addr),v= .agg #[.slice A n c,.pointer e,.pointer a,Vi (htT t),Vi (cnt t),Vi (shw t),Vq (loT t),Vq (hiT t)]/\ents t=l/\(t= .leaf []\/okR t)/\
  (∀b,F b->b<W.heap.size)/\∀(G:Nat->Prop) W',(∀b,F b->G b)->G W.heap.size->Ext (W.alloc (.cells #[.slice A n c,.pointer e,.pointer a,Vi (htT t),Vi (cnt t),Vi (shw t),Vq (loT t),Vq (hiT t)] 82)) W'->AtP G W' W.heap.size t:=by
 obtain⟨t,⟨A,n,c,e,a,Z,Y,X,J,K⟩,U,Q,O,I,H,z,u,q,j,f⟩:=h;simp only at I H z u q j;subst I;subst H;subst z;subst u;subst q;refine⟨t,A,n,c,e,a,U,Q,O,f,λG W' N M i=>?_⟩;exact⟨M,_,_,_,(PtC.new W _ _ _ _ _ _ _ _ 82).ext i,((j.ext (((Ext.refl W).alloc _).trans i))).mono N⟩
theorem Xd (c:Int) (W:aj) (j:0<=c) (q:c<=40000000):(Instr.makeSlice 76 (.int .i64 0) (.int .i64 c)).run Tryz.prog W= .ok (.slice (some ⟨W.heap.size,0,none⟩) 0 c.toNat) (W.alloc (.cells (Br (.agg #[.int .u32 0,.int .u32 0,.int .i32 0,.bool false]) (c.toNat*4)) 147)):=by
 obtain⟨i,hi,f,e,a⟩:=info_parts Q5;exact Bn Tryz.underlying76 hi f e a c W j ω ω
theorem qI.room {W:aj} (c:Nat) (e:c<=40000000) (a:Ext w W):qI w (W.alloc (.cells (Br (.agg #[.int .u32 0,.int .u32 0,.int .i32 0,.bool false]) (c*4)) 147)) (.slice (some ⟨W.heap.size,0,none⟩) 0 c) []:=
 ⟨by simp[flat],.inr ⟨W.heap.size,c,_,rfl,a.size,aT W _,cK _,by unfold maxLen;omega,xJ _ _,by simp[flat]⟩⟩
theorem acJ {b:Nat} {z u q j:aI} {T:TypeId} (h:w.heap[b]? =some (.cells #[z,u,q,j] T (0,0))) (i f e a:aI):
  ((((w.setCell ⟨b,0,none⟩ i).setCell ⟨b,1,none⟩ f).setCell ⟨b,2,none⟩ e).setCell ⟨b,3,none⟩ a).heap[b]? =some (.cells #[i,f,e,a] T (0,0)):=
 aB _ _ 3 _ _ _ (aB _ _ 2 _ _ _ (aB _ _ 1 _ _ _ (aB _ _ 0 _ _ _ h)))
theorem Ext.st4 {w0:aj} {b:Nat} (h:Ext w0 w) (a:w0.heap.size<=b) (j i f e:aI):
  Ext w0 ((((w.setCell ⟨b,0,none⟩ j).setCell ⟨b,1,none⟩ i).setCell ⟨b,2,none⟩ f).setCell ⟨b,3,none⟩ e):=
 (((h.setCell (p:=⟨b,0,none⟩) a j).setCell (p:=⟨b,1,none⟩) a i).setCell (p:=⟨b,2,none⟩) a f).setCell (p:=⟨b,3,none⟩) a e
theorem aem (W:aj) (v:aI) (l:List En) (h:Ix F W v l) (hl:l.length<=400000):aX Tryz.prog 61 #[v] W λe w'=>∃v,e= .returned v/\qI W w' v l/\Ext W w':=by
 obtain⟨t,A,n,c,Y,X,rfl,Q,a1,a3,U⟩:=h.box;have u:cnt t=l.length:=by rw[<-Q];rfl
 have q:shw t=(om l).length:=by rw[<-Q];rfl
 have H:cnt t<=40000000:=ω
 have N:Ext W (W.alloc (.cells #[.slice A n c,.pointer Y,.pointer X,Vi (htT t),Vi (cnt t),Vi (shw t),Vq (loT t),Vq (hiT t)] 82)):=(Ext.refl W).alloc _;have I:=U (Gb F W) _ (λb hb=> .inl hb) (.inr (aD _)) (Ext.refl _);obtain⟨J,i⟩:∃Z,W.alloc (.cells #[.slice A n c,.pointer Y,.pointer X,Vi (htT t),Vi (cnt t),Vi (shw t),Vq (loT t),Vq (hiT t)] 82)=Z:=⟨_,rfl⟩;obtain⟨K,f⟩:∃z,W.heap.size=z:=⟨_,rfl⟩;have M:J.heap.size=K+1:=by rw[<-i,<-f];simp
 rw[i] at I N;rw[f] at I;clear U h;have a0:=λW=>Xd (cnt t:Int) W ω ω
 have a4:J.cell? ⟨K,4,none⟩=some (Vi (cnt t)):=by obtain⟨_,_,_,_,z,_⟩:=I;exact z.c4
 rw[<-i,<-f] at a4;have a:=YM t K (J.alloc (.cells (Br (.agg #[.int .u32 0,.int .u32 0,.int .i32 0,.bool false]) (cnt t*4)) 147)) _ [] I ((Ext.refl J).alloc _) (qI.room (cnt t) H (Ext.refl J)) (by simpa using H);rw[M] at a;replace a:=ah a;clear I;replace i:=ah i;replace f:=ah f;replace u:=ah u;replace q:=ah q;go_enter Tryz.func61,Tryz.ntmps61
 go_wp2_with fail
 rw[i.out,f.out];refine a.out.mono ?_;rintro e w3 ⟨v3,rfl,j,x3⟩;rw[List.nil_append,Q] at j;obtain⟨A3,c3,rfl,a2,O⟩:=qI.open j;replace j:=ah (qI.down j N);clear O;go_wp2;go_ret;exact⟨_,rfl,j.out,N.trans x3⟩
theorem afE (W:aj) (v:aI) (l:List En) (h:Ix F W v l) (hl:l.length<=400000):aX Tryz.prog 225 #[v] W λe w'=>e= .returned (Vi (l.length:Int))/\Ext W w':=by
 obtain⟨t,A,n,c,J,H,rfl,M,Q,Y,u⟩:=h.box;have j:cnt t=l.length:=by rw[<-M];rfl
 have f:shw t=(om l).length:=by rw[<-M];rfl
 have U:cnt t<=40000000:=ω
 have K:Ext W (W.alloc (.cells #[.slice A n c,.pointer J,.pointer H,Vi (htT t),Vi (cnt t),Vi (shw t),Vq (loT t),Vq (hiT t)] 82)):=(Ext.refl W).alloc _;have q:=u (Gb F W) _ (λb X=> .inl X) (.inr (aD _)) (Ext.refl _);obtain⟨N,a⟩:∃Z,W.alloc (.cells #[.slice A n c,.pointer J,.pointer H,Vi (htT t),Vi (cnt t),Vi (shw t),Vq (loT t),Vq (hiT t)] 82)=Z:=⟨_,rfl⟩;obtain⟨I,i⟩:∃z,W.heap.size=z:=⟨_,rfl⟩;have O:N.heap.size=I+1:=by rw[<-a,<-i];simp
 rw[a] at q K;rw[i] at q;clear u h;have a4:N.cell? ⟨I,4,none⟩=some (Vi (cnt t)):=by obtain⟨_,_,_,_,z,_⟩:=q;exact z.c4
 rw[<-a,<-i] at a4;clear a K q;replace j:=ah j;replace f:=ah f;go_enter Tryz.func225,Tryz.ntmps225;go_wp2;go_ret;exact⟨qW (by have:=j.out;have:=f.out;omega),(Ext.refl W).alloc _⟩
theorem ZB (W:aj) (v:aI) (l:List En) (h:Ix F W v l) (hl:l.length<=400000):aX Tryz.prog 120 #[v] W λe w'=>e= .returned (Vi ((om l).length:Int))/\Ext W w':=by
 obtain⟨t,A,n,c,J,H,rfl,M,Q,Y,u⟩:=h.box;have j:cnt t=l.length:=by rw[<-M];rfl
 have f:shw t=(om l).length:=by rw[<-M];rfl
 have U:cnt t<=40000000:=ω
 have K:Ext W (W.alloc (.cells #[.slice A n c,.pointer J,.pointer H,Vi (htT t),Vi (cnt t),Vi (shw t),Vq (loT t),Vq (hiT t)] 82)):=(Ext.refl W).alloc _;have q:=u (Gb F W) _ (λb X=> .inl X) (.inr (aD _)) (Ext.refl _);obtain⟨N,a⟩:∃Z,W.alloc (.cells #[.slice A n c,.pointer J,.pointer H,Vi (htT t),Vi (cnt t),Vi (shw t),Vq (loT t),Vq (hiT t)] 82)=Z:=⟨_,rfl⟩;obtain⟨I,i⟩:∃z,W.heap.size=z:=⟨_,rfl⟩;have O:N.heap.size=I+1:=by rw[<-a,<-i];simp
 rw[a] at q K;rw[i] at q;clear u h;have a5:N.cell? ⟨I,5,none⟩=some (Vi (shw t)):=by obtain⟨_,_,_,_,z,_⟩:=q;exact z.c5
 rw[<-a,<-i] at a5;clear a K q;replace j:=ah j;replace f:=ah f;go_enter Tryz.func120,Tryz.ntmps120;go_wp2;go_ret;exact⟨qW (by have:=j.out;have:=f.out;omega),(Ext.refl W).alloc _⟩
theorem abo (W:aj) (v:aI) (l:List En) (q:Nat) (x:En) (h:Ix F W v l) (hl:l.length<=400000) (hq:l[q]? =some x):aX Tryz.prog 160 #[v,Vi (q:Int)] W λe w'=>e= .returned (.tuple #[env x,.nilIface])/\Ext W w':=by
 obtain⟨t,A,n,c,lp,rp,rfl,hE,a1,a3,tu⟩:=h.box;have M:cnt t=l.length:=by rw[<-hE];rfl
 have J:shw t=(om l).length:=by rw[<-hE];rfl
 have Y:cnt t<=40000000:=ω
 have hX:Ext W (W.alloc (.cells #[.slice A n c,.pointer lp,.pointer rp,Vi (htT t),Vi (cnt t),Vi (shw t),Vq (loT t),Vq (hiT t)] 82)):=(Ext.refl W).alloc _;have N:=tu (Gb F W) _ (λb hb=> .inl hb) (.inr (aD _)) (Ext.refl _);obtain⟨H,j⟩:∃Z,W.alloc (.cells #[.slice A n c,.pointer lp,.pointer rp,Vi (htT t),Vi (cnt t),Vi (shw t),Vq (loT t),Vq (hiT t)] 82)=Z:=⟨_,rfl⟩;obtain⟨f,i⟩:∃z,W.heap.size=z:=⟨_,rfl⟩;have U:H.heap.size=f+1:=by rw[<-j,<-i];simp
 rw[j] at N hX;rw[i] at N;clear tu h;have a2:q<l.length:=(aF.1 hq).1;have g1:decide ((q:Int)<0)=false:=by rw[decide_eq_false_iff_not];omega
 have g2:decide ((cnt t:Int)<=(q:Int))=false:=by rw[decide_eq_false_iff_not];omega
 have g3:decide (cnt t<=q)=false:=by rw[decide_eq_false_iff_not];omega
 have a4:H.cell? ⟨f,4,none⟩=some (Vi (cnt t)):=by obtain⟨_,_,_,_,z,_⟩:=N;exact z.c4
 rw[<-j,<-i] at a4;have x2:Ext H (H.alloc (.cells #[.int .u32 0,.int .u32 0,.int .i32 0,.bool false] 147)):=(Ext.refl H).alloc _;have I:(H.alloc (.cells #[.int .u32 0,.int .u32 0,.int .i32 0,.bool false] 147)).heap[f+1]? =some (.cells #[.int .u32 0,.int .u32 0,.int .i32 0,.bool false] 147 (0,0)):=by rw[<-U];exact aT H _
 obtain⟨W2,u⟩:∃Z,H.alloc (.cells #[.int .u32 0,.int .u32 0,.int .i32 0,.bool false] 147)=Z:=⟨_,rfl⟩;rw[u] at I x2;have K:=ah (Yp t f W2 q x (N.ext x2) Y (by rw[hE];exact hq));clear N;replace u:=ah u;replace j:=ah j;replace i:=ah i;replace M:=ah M;replace J:=ah J;go_enter Tryz.func160,Tryz.ntmps160
 go_wp2_with fail
 rw[j.out,u.out,i.out];refine K.out.mono ?_;rintro e w3 ⟨rfl,x3⟩;have a:=(aJ x3 (f+1) (aC.1 I).1).trans I;have k0:=ak w3 (f+1) 0 _ _ _ a;have k1:=ak w3 (f+1) 1 _ _ _ a;have k2:=ak w3 (f+1) 2 _ _ _ a;have k3:=ak w3 (f+1) 3 _ _ _ a;have f0:=aK w3 (f+1) 0 _ _ a;have f1:=aK w3 (f+1) 1 _ _ a;have f2:=aK w3 (f+1) 2 _ _ a;have f3:=aK w3 (f+1) 3 _ _ a;have a0:=(hX.trans x2).trans x3;have X:W.heap.size<=f+1:=by rw[i.out];omega
 have Q:=Ext.st4 a0 X (.int .u32 x.c) (.int .u32 x.k) (.int .i32 x.ch) (.bool x.g);have O:=acJ a (.int .u32 x.c) (.int .u32 x.k) (.int .i32 x.ch) (.bool x.g);go_wp2;have z0:=ak _ (f+1) 0 _ _ _ O;have z1:=ak _ (f+1) 1 _ _ _ O;have z2:=ak _ (f+1) 2 _ _ _ O;have z3:=ak _ (f+1) 3 _ _ _ O;exact aN (v:= .tuple #[env x,.nilIface]) (by simp[dK,Tryz.results160,go_sem,z0,z1,z2,z3]) rfl ⟨rfl,Q⟩
theorem abQ {p:Prop} (h:p:=by
 replace hcn:=ah hcn;replace hsn:=ah hsn;go_enter Tryz.func160,Tryz.ntmps160;go_wp2;exact aN (v:= .tuple #[env zE,qD 3]) (by simp[dK,Tryz.results160,go_sem,qD]) rfl ⟨rfl,hX2⟩):p:=h
theorem Uz (W:aj) (v:aI) (l:List En) (z:Int) (h:Ix F W v l) (hl:l.length<=400000) (hz: -2<=z/\z<=800000) (M:z<0\/(l.length:Int)<=z):aX Tryz.prog 160 #[v,Vi z] W λe w'=>e= .returned (.tuple #[env zE,qD 3])/\Ext W w':=by
 obtain⟨t,A,n,c,K,I,rfl,N,Q,Y,H⟩:=h.box;have hcn:cnt t=l.length:=by rw[<-N];rfl
 have hsn:shw t=(om l).length:=by rw[<-N];rfl
 have U:cnt t<=40000000:=ω
 have u:Ext W (W.alloc (.cells #[.slice A n c,.pointer K,.pointer I,Vi (htT t),Vi (cnt t),Vi (shw t),Vq (loT t),Vq (hiT t)] 82)):=(Ext.refl W).alloc _;have j:=H (Gb F W) _ (λb X=> .inl X) (.inr (aD _)) (Ext.refl _);obtain⟨i,a⟩:∃Z,W.alloc (.cells #[.slice A n c,.pointer K,.pointer I,Vi (htT t),Vi (cnt t),Vi (shw t),Vq (loT t),Vq (hiT t)] 82)=Z:=⟨_,rfl⟩;obtain⟨J,f⟩:∃z,W.heap.size=z:=⟨_,rfl⟩;have q:i.heap.size=J+1:=by rw[<-a,<-f];simp
 rw[a] at j u;rw[f] at j;clear H h;have a4:i.cell? ⟨J,4,none⟩=some (Vi (cnt t)):=by obtain⟨_,_,_,_,z,_⟩:=j;exact z.c4
 rw[<-a,<-f] at a4;have x2:Ext i (i.alloc (.cells #[.int .u32 0,.int .u32 0,.int .i32 0,.bool false] 147)):=(Ext.refl i).alloc _;have hX2:=u.trans x2;rw[<-a] at hX2;have g:(decide (z<0)=true)\/(decide (z<0)=false/\decide ((cnt t:Int)<=z)=true):=by
  by_cases O:z<0
  ·exact .inl (decide_eq_true O)
  ·exact .inr ⟨decide_eq_false O,decide_eq_true ω⟩
 clear j u a q x2 f;rcases g with g1|⟨g1,g2⟩
 ·clear M
  exact abQ
 ·clear M
  exact abQ
theorem aib (W:aj) (v:aI) (l:List En) (q p:Nat) (h:Ix F W v l) (hl:l.length<=400000) (Y:(om l)[q]? =some p):aX Tryz.prog 161 #[v,Vi (q:Int)] W λe w'=>e= .returned (.tuple #[Vi (p:Int),.nilIface])/\Ext W w':=by
 obtain⟨t,A,n,c,X,U,rfl,N,a1,a3,Q⟩:=h.box;have j:cnt t=l.length:=by rw[<-N];rfl
 have i:shw t=(om l).length:=by rw[<-N];rfl
 have K:cnt t<=40000000:=ω
 have hX:Ext W (W.alloc (.cells #[.slice A n c,.pointer X,.pointer U,Vi (htT t),Vi (cnt t),Vi (shw t),Vq (loT t),Vq (hiT t)] 82)):=(Ext.refl W).alloc _;have u:=Q (Gb F W) _ (λb hb=> .inl hb) (.inr (aD _)) (Ext.refl _);obtain⟨O,f⟩:∃Z,W.alloc (.cells #[.slice A n c,.pointer X,.pointer U,Vi (htT t),Vi (cnt t),Vi (shw t),Vq (loT t),Vq (hiT t)] 82)=Z:=⟨_,rfl⟩;obtain⟨H,a⟩:∃z,W.heap.size=z:=⟨_,rfl⟩;have a0:O.heap.size=H+1:=by rw[<-f,<-a];simp
 rw[f] at u hX;rw[a] at u;clear Q h;have a2:q<(om l).length:=(aF.1 Y).1;have J:=rO l 0;have I:(om l).length=(pq 0 l).length:=rfl;have g1:decide ((q:Int)<0)=false:=by rw[decide_eq_false_iff_not];omega
 have g2:decide ((shw t:Int)<=(q:Int))=false:=by rw[decide_eq_false_iff_not];omega
 have g3:decide (shw t<=q)=false:=by rw[decide_eq_false_iff_not];omega
 have a5:O.cell? ⟨H,5,none⟩=some (Vi (shw t)):=by obtain⟨_,_,_,_,z,_⟩:=u;exact z.c5
 rw[<-f,<-a] at a5;have M:=ah (agD t H O q p u K (by rw[N];exact Y));clear u I J;replace f:=ah f;replace a:=ah a;replace j:=ah j;replace i:=ah i;go_enter Tryz.func161,Tryz.ntmps161
 go_wp2_with fail
 rw[f.out,a.out];refine M.out.mono ?_;rintro e w3 ⟨rfl,x3⟩;go_wp2;exact aN (v:= .tuple #[Vi p,.nilIface]) (by simp[dK,Tryz.results161,go_sem]) rfl ⟨rfl,hX.trans x3⟩
theorem IC (W:aj) (v:aI) (l:List En) (c0 k0:Int) (h:Ix F W v l) (hl:l.length<=400000):aX Tryz.prog 178 #[v,idv c0 k0] W λe w'=>e= .returned (.tuple #[Vi (tL l c0 k0),.bool (tC l c0 k0)])/\Ext W w':=by
 obtain⟨t,A,n,c,Q,N,rfl,K,Y,a0,M⟩:=h.box;have q:cnt t=l.length:=by rw[<-K];rfl
 have j:shw t=(om l).length:=by rw[<-K];rfl
 have J:cnt t<=40000000:=ω
 have U:Ext W (W.alloc (.cells #[.slice A n c,.pointer Q,.pointer N,Vi (htT t),Vi (cnt t),Vi (shw t),Vq (loT t),Vq (hiT t)] 82)):=(Ext.refl W).alloc _;have I:=M (Gb F W) _ (λb hb=> .inl hb) (.inr (aD _)) (Ext.refl _);obtain⟨u,f⟩:∃Z,W.alloc (.cells #[.slice A n c,.pointer Q,.pointer N,Vi (htT t),Vi (cnt t),Vi (shw t),Vq (loT t),Vq (hiT t)] 82)=Z:=⟨_,rfl⟩;obtain⟨O,a⟩:∃z,W.heap.size=z:=⟨_,rfl⟩;have X:u.heap.size=O+1:=by rw[<-f,<-a];simp
 rw[f] at I U;rw[a] at I;clear M h;have x2:Ext u (u.alloc (.cells #[.int .u32 c0,.int .u32 k0] 55)):=(Ext.refl u).alloc _;obtain⟨W2,i⟩:∃Z,u.alloc (.cells #[.int .u32 c0,.int .u32 k0] 55)=Z:=⟨_,rfl⟩;rw[i] at x2;have H:=abl c0 k0 t O W2 (I.ext x2) J;rw[K] at H;replace H:=ah H;clear I;replace i:=ah i;replace f:=ah f;replace a:=ah a;replace q:=ah q;replace j:=ah j;go_enter Tryz.func178,Tryz.ntmps178
 go_wp2_with fail
 rw[f.out,i.out,a.out];refine H.out.mono ?_;rintro e w3 ⟨rfl,x3⟩;go_wp2;exact aN (v:= .tuple #[Vi (tL l c0 k0),.bool (tC l c0 k0)]) (by simp[dK,Tryz.results178,go_sem]) rfl ⟨rfl,(U.trans x2).trans x3⟩
end
section
variable {F:Nat->Prop} {b:Nat} {w:aj}
theorem Ip {a0 O N M J I z u:aI} {T:TypeId} (h:w.heap[b]? =some (.cells #[a0,O,N,M,J,I,z,u] T (0,0))) (a e f i j q H K:aI):
  (((((((((w).setCell ⟨b,0,none⟩ a).setCell ⟨b,1,none⟩ e).setCell ⟨b,2,none⟩ f).setCell ⟨b,3,none⟩ i).setCell ⟨b,4,none⟩ j).setCell ⟨b,5,none⟩ q).setCell ⟨b,6,none⟩ H).setCell ⟨b,7,none⟩ K).heap[b]? =some (.cells #[a,e,f,i,j,q,H,K] T (0,0)):=
 by
 have h0:((w).setCell ⟨b,0,none⟩ a).heap[b]? =some (.cells #[a,O,N,M,J,I,z,u] T (0,0)):=aB _ _ 0 _ _ _ h;have h1:(((w).setCell ⟨b,0,none⟩ a).setCell ⟨b,1,none⟩ e).heap[b]? =some (.cells #[a,e,N,M,J,I,z,u] T (0,0)):=aB _ _ 1 _ _ _ h0;have Z:((((w).setCell ⟨b,0,none⟩ a).setCell ⟨b,1,none⟩ e).setCell ⟨b,2,none⟩ f).heap[b]? =some (.cells #[a,e,f,M,J,I,z,u] T (0,0)):=aB _ _ 2 _ _ _ h1;have Y:(((((w).setCell ⟨b,0,none⟩ a).setCell ⟨b,1,none⟩ e).setCell ⟨b,2,none⟩ f).setCell ⟨b,3,none⟩ i).heap[b]? =some (.cells #[a,e,f,i,J,I,z,u] T (0,0)):=aB _ _ 3 _ _ _ Z;have X:((((((w).setCell ⟨b,0,none⟩ a).setCell ⟨b,1,none⟩ e).setCell ⟨b,2,none⟩ f).setCell ⟨b,3,none⟩ i).setCell ⟨b,4,none⟩ j).heap[b]? =some (.cells #[a,e,f,i,j,I,z,u] T (0,0)):=aB _ _ 4 _ _ _ Y;have W:(((((((w).setCell ⟨b,0,none⟩ a).setCell ⟨b,1,none⟩ e).setCell ⟨b,2,none⟩ f).setCell ⟨b,3,none⟩ i).setCell ⟨b,4,none⟩ j).setCell ⟨b,5,none⟩ q).heap[b]? =some (.cells #[a,e,f,i,j,q,z,u] T (0,0)):=aB _ _ 5 _ _ _ X;have U:((((((((w).setCell ⟨b,0,none⟩ a).setCell ⟨b,1,none⟩ e).setCell ⟨b,2,none⟩ f).setCell ⟨b,3,none⟩ i).setCell ⟨b,4,none⟩ j).setCell ⟨b,5,none⟩ q).setCell ⟨b,6,none⟩ H).heap[b]? =some (.cells #[a,e,f,i,j,q,H,u] T (0,0)):=aB _ _ 6 _ _ _ W;have Q:(((((((((w).setCell ⟨b,0,none⟩ a).setCell ⟨b,1,none⟩ e).setCell ⟨b,2,none⟩ f).setCell ⟨b,3,none⟩ i).setCell ⟨b,4,none⟩ j).setCell ⟨b,5,none⟩ q).setCell ⟨b,6,none⟩ H).setCell ⟨b,7,none⟩ K).heap[b]? =some (.cells #[a,e,f,i,j,q,H,K] T (0,0)):=aB _ _ 7 _ _ _ U;exact Q
theorem CP {q:Nat} (a:q≠b) (I H z u j i f e:aI):(((((((((w).setCell ⟨b,0,none⟩ I).setCell ⟨b,1,none⟩ H).setCell ⟨b,2,none⟩ z).setCell ⟨b,3,none⟩ u).setCell ⟨b,4,none⟩ j).setCell ⟨b,5,none⟩ i).setCell ⟨b,6,none⟩ f).setCell ⟨b,7,none⟩ e).heap[q]? =w.heap[q]? :=by
 rw[bA _ _ _ _ a,bA _ _ _ _ a,bA _ _ _ _ a,bA _ _ _ _ a,bA _ _ _ _ a,bA _ _ _ _ a,bA _ _ _ _ a,bA _ _ _ _ a]
theorem Ext.st8 {w0:aj} (h:Ext w0 w) (a:w0.heap.size<=b) (H z u q j i f e:aI):Ext w0 (((((((((w).setCell ⟨b,0,none⟩ H).setCell ⟨b,1,none⟩ z).setCell ⟨b,2,none⟩ u).setCell ⟨b,3,none⟩ q).setCell ⟨b,4,none⟩ j).setCell ⟨b,5,none⟩ i).setCell ⟨b,6,none⟩ f).setCell ⟨b,7,none⟩ e):=
 ((((((((h.setCell (p:=⟨b,0,none⟩) a H).setCell (p:=⟨b,1,none⟩) a z).setCell (p:=⟨b,2,none⟩) a u).setCell (p:=⟨b,3,none⟩) a q).setCell (p:=⟨b,4,none⟩) a j).setCell (p:=⟨b,5,none⟩) a i).setCell (p:=⟨b,6,none⟩) a f).setCell (p:=⟨b,7,none⟩) a e)
theorem AtP.form {G:Nat->Prop} {W:aj} {t:Tr} (h:AtP G W b t):∃A n c e a,PtC W b (.slice A n c) (.pointer e) (.pointer a) (htT t) (cnt t) (shw t) (loT t) (hiT t)/\PV G W t (.slice A n c) (.pointer e) (.pointer a):=by
 obtain⟨_,c,l,r,x,v⟩:=h;cases t with
 |leaf l0=>
  obtain⟨rfl,rfl,A,cap,rfl,z,u,j⟩:=v;exact⟨A,l0.length,cap,none,none,x,rfl,rfl,A,cap,rfl,z,u,j⟩
 |node H tb=>
  obtain⟨rfl,p,q,rfl,rfl,i,f⟩:=v.node;exact⟨none,0,0,some ⟨p,0,none⟩,some ⟨q,0,none⟩,x,PV.Vw i f⟩
theorem aeM {G:Nat->Prop} {w3 a:aj} {t:Tr} {l:List En} {A:Option Addr} {n c:Nat} {f e:Option Addr} (hv:PV G w3 t (.slice A n c) (.pointer f) (.pointer e)) (z:ents t=l) (i:t= .leaf []\/okR t)
  (u:∀b,G b->a.heap[b]? =w3.heap[b]?) (q:w3.heap.size<=a.heap.size):Ix (λb=>G b/\b<w3.heap.size) a (.agg #[.slice A n c,.pointer f,.pointer e,Vi (htT t),Vi (cnt t),Vi (shw t),Vq (loT t),Vq (hiT t)]) l:=
 ⟨t,⟨A,n,c,f,e,htT t,cnt t,shw t,loT t,hiT t⟩,rfl,z,i,rfl,rfl,rfl,rfl,rfl,(hv.lt).frame (λb j=>u b j.1),λb j=>Nat.lt_of_lt_of_le j.2 q⟩
theorem P6 (z u q j i f e a:aI):(((((((((w).setCell ⟨b,0,none⟩ z).setCell ⟨b,1,none⟩ u).setCell ⟨b,2,none⟩ q).setCell ⟨b,3,none⟩ j).setCell ⟨b,4,none⟩ i).setCell ⟨b,5,none⟩ f).setCell ⟨b,6,none⟩ e).setCell ⟨b,7,none⟩ a).heap.size=w.heap.size:=by simp[World.setCell]
theorem UL {p:Prop} (h:p:=by
 have:=(PtC.new W (.slice A n c) (.pointer lp) (.pointer rp) (htT t) (cnt t) (shw t) (loT t) (hiT t) 82);rw[hW1,hpb] at this;exact(this.ext x2).ext x3):p:=h
theorem afn (W:aj) (v:aI) (l:List En) (p:Nat) (x:En) (h:Ix F W v l) (hl:l.length<=399600) (hp:p<=l.length) (a3:ET l x.c x.k=false):
  aX Tryz.prog 155 #[v,Vi (p:Int),env x] W λe w'=>∃F' v',e= .returned (.tuple #[v',.nilIface])/\Ix F' w' v' (DR l p x)/\(∀b,F' b->F b\/W.heap.size<=b)/\Ext W w':=by
 obtain⟨G,hG⟩:∃G:Nat->Prop,G=(λb=>F b\/b=W.heap.size\/W.heap.size+3<=b):=⟨_,rfl⟩;have a9:∀b,F b->G b:=λb j=>by rw[hG];exact .inl j
 have a8:G W.heap.size:=by rw[hG];exact .inr (.inl rfl)
 have h':=h;obtain⟨t,A,n,c,lp,rp,rfl,hE,a2,e5,tu⟩:=h.box;have a5:cnt t=l.length:=by rw[<-hE];rfl
 have x1:Ext W (W.alloc (.cells #[.slice A n c,.pointer lp,.pointer rp,Vi (htT t),Vi (cnt t),Vi (shw t),Vq (loT t),Vq (hiT t)] 82)):=(Ext.refl W).alloc _;have hA:=tu G _ a9 a8 (Ext.refl _);obtain⟨Y,hW1⟩:∃Z,W.alloc (.cells #[.slice A n c,.pointer lp,.pointer rp,Vi (htT t),Vi (cnt t),Vi (shw t),Vq (loT t),Vq (hiT t)] 82)=Z:=⟨_,rfl⟩;obtain⟨u,hpb⟩:∃z,W.heap.size=z:=⟨_,rfl⟩;have U:Y.heap.size=u+1:=by rw[<-hW1,<-hpb];simp
 rw[hW1] at hA x1;rw[hpb] at hA;have x2:Ext Y (Y.alloc (.cells #[.int .u32 x.c,.int .u32 x.k,.int .i32 x.ch,.bool x.g] 147)):=(Ext.refl Y).alloc _;have y0:(Y.alloc (.cells #[.int .u32 x.c,.int .u32 x.k,.int .i32 x.ch,.bool x.g] 147)).heap[u+1]? =some (.cells #[.int .u32 x.c,.int .u32 x.k,.int .i32 x.ch,.bool x.g] 147 (0,0)):=by rw[<-U];exact aT Y _
 obtain⟨O,I⟩:∃Z,Y.alloc (.cells #[.int .u32 x.c,.int .u32 x.k,.int .i32 x.ch,.bool x.g] 147)=Z:=⟨_,rfl⟩;have b4:O.heap.size=u+1+1:=by rw[<-I,<-U];simp
 rw[I] at x2 y0;have x3:Ext O (O.alloc (.cells #[.slice none 0 0,.pointer none,.pointer none,Vi 0,Vi 0,Vi 0,Vq 0,Vq 0] 82)):=(Ext.refl O).alloc _;have K:(O.alloc (.cells #[.slice none 0 0,.pointer none,.pointer none,Vi 0,Vi 0,Vi 0,Vq 0,Vq 0] 82)).heap[u+2]? =some (.cells #[.slice none 0 0,.pointer none,.pointer none,Vi 0,Vi 0,Vi 0,Vq 0,Vq 0] 82 (0,0)):=by rw[show u+2=O.heap.size by omega];exact aT O _
 obtain⟨N,H⟩:∃Z,O.alloc (.cells #[.slice none 0 0,.pointer none,.pointer none,Vi 0,Vi 0,Vi 0,Vq 0,Vq 0] 82)=Z:=⟨_,rfl⟩;have b3:N.heap.size=u+3:=by rw[<-H,show u+3=O.heap.size+1 by omega];simp
 rw[H] at x3 K;have a6:=(x1.trans x2).trans x3;have hA:=(hA.ext x2).ext x3;have y3:=(aJ x3 (u+1) (aC.1 y0).1).trans y0;obtain⟨f,J⟩:∃z,u+2=z:=⟨_,rfl⟩;rw[J] at K;have b6:W.heap.size<=f:=ω
 have d8:∀b,G b->b≠f:=λb j e=>by
  rw[hG] at j;rcases j with j|j|j
  ·have:=e5 b j;omega
  ·omega
  ·omega
 have b9:Up G N:=λb j=>by rw[hG];exact .inr (.inr ω)
 have d9:∀b,G b->F b\/W.heap.size<=b:=λb j=>by
  rw[hG] at j;rcases j with j|j|j
  ·exact .inl j
  ·exact .inr ω
  ·exact .inr ω
 have b7:PtC N u (.slice A n c) (.pointer lp) (.pointer rp) (htT t) (cnt t) (shw t) (loT t) (hiT t):=by
  exact UL
 have e0:=ak N (u+1) 0 _ _ _ y3;have e1:=ak N (u+1) 1 _ _ _ y3;have e2:=ak N (u+1) 2 _ _ _ y3;have e3:=ak N (u+1) 3 _ _ _ y3;have g1:decide ((p:Int)<0)=false:=by rw[decide_eq_false_iff_not];omega
 have g2:decide ((cnt t:Int)<(p:Int))=false:=by rw[decide_eq_false_iff_not];omega
 have g3:decide (cnt t<p)=false:=by rw[decide_eq_false_iff_not];omega
 have X:tL l x.c x.k=0/\tC l x.c x.k=false:=by
  have:=Di.2 a3;unfold tL tC;rw[this];exact⟨rfl,rfl⟩
 have M:=IC N _ l x.c x.k (h'.ext a6) ω;rw[X.1,X.2] at M;replace M:=ah M;have a1:=ah (λZ (hx:Ext N Z)=>ZP x t u p Z (hA.ext hx) (b9.ext hx) a2 ω ω);have Rl:ents (tQ t p x)=DR l p x:=by rw[zW t p x ω,hE]
 have b1:tQ t p x= .leaf []\/okR (tQ t p x):= .inr (Bv t p x a2);obtain⟨p0,p1,p2,p3,p4,p5,p6,p7⟩:=b7;clear hA tu h h' X a3 hG a9 a8 x1 x2 x3 y0 U b4 b3 y3;replace hW1:=ah hW1;replace I:=ah I;replace H:=ah H;replace hpb:=ah hpb;replace J:=ah J;replace a5:=ah a5;go_enter Tryz.func155,Tryz.ntmps155
 go_wp2_with fail
 rw[hW1.out,hpb.out,I.out,H.out,J.out];refine M.out.mono ?_;rintro e w4 ⟨rfl,x4⟩;have e0:=x4.keep e0;have e1:=x4.keep e1;have e2:=x4.keep e2;have e3:=x4.keep e3;clear p0 p1 p2 p3 p4 p5 p6 p7
 go_wp2_with fail
 refine(a1.out _ x4).mono ?_;rintro e w3 ⟨v3,rfl,⟨q3,rfl,b0⟩,x5⟩;have b8:=(a6.trans x4).trans x5;have a:=(aJ (x4.trans x5) f (aC.1 K).1).trans K;have e4:∀b,(G b/\b<w3.heap.size)->F b\/W.heap.size<=b:=λb j=>d9 b j.1
 obtain⟨i,a7⟩:∃z,tQ t p x=z:=⟨_,rfl⟩;rw[a7] at b0 Rl b1;clear a7;obtain⟨A3,n3,c3,l3,r3,⟨d0,d1,d2,d3,d4,d5,d6,d7⟩,a0⟩:=b0.form;have k0:=ak w3 f 0 _ _ _ a;have f0:=aK w3 f 0 _ _ a;have k1:=ak w3 f 1 _ _ _ a;have f1:=aK w3 f 1 _ _ a;have k2:=ak w3 f 2 _ _ _ a;have f2:=aK w3 f 2 _ _ a;have k3:=ak w3 f 3 _ _ _ a;have f3:=aK w3 f 3 _ _ a;have k4:=ak w3 f 4 _ _ _ a;have f4:=aK w3 f 4 _ _ a;have k5:=ak w3 f 5 _ _ _ a;have f5:=aK w3 f 5 _ _ a;have k6:=ak w3 f 6 _ _ _ a;have f6:=aK w3 f 6 _ _ a;have k7:=ak w3 f 7 _ _ _ a;have f7:=aK w3 f 7 _ _ a;have Q:=Ip a (.slice A3 n3 c3) (.pointer l3) (.pointer r3) (Vi (htT i)) (Vi (cnt i)) (Vi (shw i)) (Vq (loT i)) (Vq (hiT i));have b2:=Ext.st8 b8 b6 (.slice A3 n3 c3) (.pointer l3) (.pointer r3) (Vi (htT i)) (Vi (cnt i)) (Vi (shw i)) (Vq (loT i)) (Vq (hiT i));have a4:=λ(q:Nat) (hq:q≠f)=>CP (w:=w3) hq (.slice A3 n3 c3) (.pointer l3) (.pointer r3) (Vi (htT i)) (Vi (cnt i)) (Vi (shw i)) (Vq (loT i)) (Vq (hiT i))
 have e6:=P6 (w:=w3) (b:=f) (.slice A3 n3 c3) (.pointer l3) (.pointer r3) (Vi (htT i)) (Vi (cnt i)) (Vi (shw i)) (Vq (loT i)) (Vq (hiT i));have b5:=ah (aeM a0 Rl b1 (λb j=>a4 b (d8 b j)) (Nat.le_of_eq e6.symm));clear a4 a0;go_wp2;have z0:=ak _ f 0 _ _ _ Q;have z1:=ak _ f 1 _ _ _ Q;have z2:=ak _ f 2 _ _ _ Q;have z3:=ak _ f 3 _ _ _ Q;have z4:=ak _ f 4 _ _ _ Q;have z5:=ak _ f 5 _ _ _ Q;have z6:=ak _ f 6 _ _ _ Q;have z7:=ak _ f 7 _ _ _ Q;exact aN (v:= .tuple #[.agg #[.slice A3 n3 c3,.pointer l3,.pointer r3,Vi (htT i),Vi (cnt i),Vi (shw i),Vq (loT i),Vq (hiT i)],.nilIface]) (by simp[dK,Tryz.results155,go_sem,z0,z1,z2,z3,z4,z5,z6,z7]) rfl ⟨_,_,rfl,b5.out,e4,b2⟩
theorem Ya (W:aj) (v:aI) (l:List En) (c0 k0:Int) (h:Ix F W v l) (hl:l.length<=400000) (Q:pI l c0 k0=none):
  aX Tryz.prog 150 #[v,idv c0 k0] W λe w'=>e= .returned (.tuple #[aeA,qD 1])/\Ext W w':=by
 obtain⟨G,hG⟩:∃G:Nat->Prop,G=(λb=>F b\/b=W.heap.size\/W.heap.size+3<=b):=⟨_,rfl⟩;have a0:∀b,F b->G b:=λb hb=>by rw[hG];exact .inl hb
 have Y:G W.heap.size:=by rw[hG];exact .inr (.inl rfl)
 have h':=h;obtain⟨t,A,n,c,lp,rp,rfl,hE,a7,a8,tu⟩:=h.box;have U:cnt t=l.length:=by rw[<-hE];rfl
 have x1:Ext W (W.alloc (.cells #[.slice A n c,.pointer lp,.pointer rp,Vi (htT t),Vi (cnt t),Vi (shw t),Vq (loT t),Vq (hiT t)] 82)):=(Ext.refl W).alloc _;have hA:=tu G _ a0 Y (Ext.refl _);obtain⟨O,hW1⟩:∃Z,W.alloc (.cells #[.slice A n c,.pointer lp,.pointer rp,Vi (htT t),Vi (cnt t),Vi (shw t),Vq (loT t),Vq (hiT t)] 82)=Z:=⟨_,rfl⟩;obtain⟨i,hpb⟩:∃z,W.heap.size=z:=⟨_,rfl⟩;have M:O.heap.size=i+1:=by rw[<-hW1,<-hpb];simp
 rw[hW1] at hA x1;rw[hpb] at hA;have x2:Ext O (O.alloc (.cells #[.int .u32 c0,.int .u32 k0] 55)):=(Ext.refl O).alloc _;have y0:(O.alloc (.cells #[.int .u32 c0,.int .u32 k0] 55)).heap[i+1]? =some (.cells #[.int .u32 c0,.int .u32 k0] 55 (0,0)):=by rw[<-M];exact aT O _
 obtain⟨J,q⟩:∃Z,O.alloc (.cells #[.int .u32 c0,.int .u32 k0] 55)=Z:=⟨_,rfl⟩;have a3:J.heap.size=i+1+1:=by rw[<-q,<-M];simp
 rw[q] at x2 y0;have x3:Ext J (J.alloc (.cells #[.slice none 0 0,.pointer none,.pointer none,Vi 0,Vi 0,Vi 0,Vq 0,Vq 0] 82)):=(Ext.refl J).alloc _;have H:(J.alloc (.cells #[.slice none 0 0,.pointer none,.pointer none,Vi 0,Vi 0,Vi 0,Vq 0,Vq 0] 82)).heap[i+2]? =some (.cells #[.slice none 0 0,.pointer none,.pointer none,Vi 0,Vi 0,Vi 0,Vq 0,Vq 0] 82 (0,0)):=by rw[show i+2=J.heap.size by omega];exact aT J _
 obtain⟨W3,j⟩:∃Z,J.alloc (.cells #[.slice none 0 0,.pointer none,.pointer none,Vi 0,Vi 0,Vi 0,Vq 0,Vq 0] 82)=Z:=⟨_,rfl⟩;have a2:W3.heap.size=i+3:=by rw[<-j,show i+3=J.heap.size+1 by omega];simp
 rw[j] at x3 H;have X:=(x1.trans x2).trans x3;have hA:=(hA.ext x2).ext x3;have y3:=(aJ x3 (i+1) (aC.1 y0).1).trans y0;obtain⟨f,u⟩:∃z,i+2=z:=⟨_,rfl⟩;rw[u] at H;have a4:W.heap.size<=f:=ω
 have a5:PtC W3 i (.slice A n c) (.pointer lp) (.pointer rp) (htT t) (cnt t) (shw t) (loT t) (hiT t):=by
  exact UL
 have e0:=ak W3 (i+1) 0 _ _ _ y3;have e1:=ak W3 (i+1) 1 _ _ _ y3;have N:tL l c0 k0=0/\tC l c0 k0=false:=by
  unfold tL tC;rw[Q];exact⟨rfl,rfl⟩
 have I:=IC W3 _ l c0 k0 (h'.ext X) ω;rw[N.1,N.2] at I;replace I:=ah I;obtain⟨p0,p1,p2,p3,p4,p5,p6,p7⟩:=a5;clear N Q;clear hA tu h h' hG a0 Y x1 x2 x3 y0 M a3 a2 y3;replace hW1:=ah hW1;replace q:=ah q;replace j:=ah j;replace hpb:=ah hpb;replace u:=ah u;replace U:=ah U;go_enter Tryz.func150,Tryz.ntmps150
 go_wp2_with fail
 rw[hW1.out,hpb.out,q.out,j.out,u.out];refine I.out.mono ?_;rintro e w3 ⟨rfl,x4⟩;have a6:=X.trans x4;have a:=(aJ x4 f (aC.1 H).1).trans H;clear p0 p1 p2 p3 p4 p5 p6 p7 e0 e1;have k0:=ak w3 f 0 _ _ _ a;have f0:=aK w3 f 0 _ _ a;have k1:=ak w3 f 1 _ _ _ a;have f1:=aK w3 f 1 _ _ a;have k2:=ak w3 f 2 _ _ _ a;have f2:=aK w3 f 2 _ _ a;have k3:=ak w3 f 3 _ _ _ a;have f3:=aK w3 f 3 _ _ a;have k4:=ak w3 f 4 _ _ _ a;have f4:=aK w3 f 4 _ _ a;have k5:=ak w3 f 5 _ _ _ a;have f5:=aK w3 f 5 _ _ a;have k6:=ak w3 f 6 _ _ _ a;have f6:=aK w3 f 6 _ _ a;have k7:=ak w3 f 7 _ _ _ a;have f7:=aK w3 f 7 _ _ a;have K:=Ip a (.slice none 0 0) (.pointer none) (.pointer none) (Vi 0) (Vi 0) (Vi 0) (Vq 0) (Vq 0);have a1:=Ext.st8 a6 a4 (.slice none 0 0) (.pointer none) (.pointer none) (Vi 0) (Vi 0) (Vi 0) (Vq 0) (Vq 0);go_wp2;have z0:=ak _ f 0 _ _ _ K;have z1:=ak _ f 1 _ _ _ K;have z2:=ak _ f 2 _ _ _ K;have z3:=ak _ f 3 _ _ _ K;have z4:=ak _ f 4 _ _ _ K;have z5:=ak _ f 5 _ _ _ K;have z6:=ak _ f 6 _ _ _ K;have z7:=ak _ f 7 _ _ _ K;exact aN (v:= .tuple #[aeA,qD 1]) (by simp[dK,Tryz.results150,go_sem,qD,z0,z1,z2,z3,z4,z5,z6,z7]) rfl ⟨rfl,a1⟩
theorem adx (W:aj) (v:aI) (l:List En) (c0 k0:Int) (q:Nat) (h:Ix F W v l) (hl:l.length<=400000) (a4:apart l=true) (U:pI l c0 k0=some q):
  aX Tryz.prog 150 #[v,idv c0 k0] W λe w'=>∃F' v',e= .returned (.tuple #[v',.nilIface])/\Ix F' w' v' (Hr l c0 k0)/\(∀b,F' b->F b\/W.heap.size<=b)/\Ext W w':=by
 obtain⟨G,hG⟩:∃G:Nat->Prop,G=(λb=>F b\/b=W.heap.size\/W.heap.size+3<=b):=⟨_,rfl⟩;have a8:∀b,F b->G b:=λb j=>by rw[hG];exact .inl j
 have a7:G W.heap.size:=by rw[hG];exact .inr (.inl rfl)
 have h':=h;obtain⟨t,A,n,c,lp,rp,rfl,hE,a1,e3,tu⟩:=h.box;have a3:cnt t=l.length:=by rw[<-hE];rfl
 have x1:Ext W (W.alloc (.cells #[.slice A n c,.pointer lp,.pointer rp,Vi (htT t),Vi (cnt t),Vi (shw t),Vq (loT t),Vq (hiT t)] 82)):=(Ext.refl W).alloc _;have hA:=tu G _ a8 a7 (Ext.refl _);obtain⟨W1,hW1⟩:∃Z,W.alloc (.cells #[.slice A n c,.pointer lp,.pointer rp,Vi (htT t),Vi (cnt t),Vi (shw t),Vq (loT t),Vq (hiT t)] 82)=Z:=⟨_,rfl⟩;obtain⟨u,hpb⟩:∃z,W.heap.size=z:=⟨_,rfl⟩;have Q:W1.heap.size=u+1:=by rw[<-hW1,<-hpb];simp
 rw[hW1] at hA x1;rw[hpb] at hA;have x2:Ext W1 (W1.alloc (.cells #[.int .u32 c0,.int .u32 k0] 55)):=(Ext.refl W1).alloc _;have y0:(W1.alloc (.cells #[.int .u32 c0,.int .u32 k0] 55)).heap[u+1]? =some (.cells #[.int .u32 c0,.int .u32 k0] 55 (0,0)):=by rw[<-Q];exact aT W1 _
 obtain⟨N,I⟩:∃Z,W1.alloc (.cells #[.int .u32 c0,.int .u32 k0] 55)=Z:=⟨_,rfl⟩;have b3:N.heap.size=u+1+1:=by rw[<-I,<-Q];simp
 rw[I] at x2 y0;have x3:Ext N (N.alloc (.cells #[.slice none 0 0,.pointer none,.pointer none,Vi 0,Vi 0,Vi 0,Vq 0,Vq 0] 82)):=(Ext.refl N).alloc _;have K:(N.alloc (.cells #[.slice none 0 0,.pointer none,.pointer none,Vi 0,Vi 0,Vi 0,Vq 0,Vq 0] 82)).heap[u+2]? =some (.cells #[.slice none 0 0,.pointer none,.pointer none,Vi 0,Vi 0,Vi 0,Vq 0,Vq 0] 82 (0,0)):=by rw[show u+2=N.heap.size by omega];exact aT N _
 obtain⟨Y,H⟩:∃Z,N.alloc (.cells #[.slice none 0 0,.pointer none,.pointer none,Vi 0,Vi 0,Vi 0,Vq 0,Vq 0] 82)=Z:=⟨_,rfl⟩;have b2:Y.heap.size=u+3:=by rw[<-H,show u+3=N.heap.size+1 by omega];simp
 rw[H] at x3 K;have a5:=(x1.trans x2).trans x3;have hA:=(hA.ext x2).ext x3;have y3:=(aJ x3 (u+1) (aC.1 y0).1).trans y0;obtain⟨f,J⟩:∃z,u+2=z:=⟨_,rfl⟩;rw[J] at K;have b6:W.heap.size<=f:=ω
 have d8:∀b,G b->b≠f:=λb j e=>by
  rw[hG] at j;rcases j with j|j|j
  ·have:=e3 b j;omega
  ·omega
  ·omega
 have b9:Up G Y:=λb j=>by rw[hG];exact .inr (.inr ω)
 have d9:∀b,G b->F b\/W.heap.size<=b:=λb j=>by
  rw[hG] at j;rcases j with j|j|j
  ·exact .inl j
  ·exact .inr ω
  ·exact .inr ω
 have b7:PtC Y u (.slice A n c) (.pointer lp) (.pointer rp) (htT t) (cnt t) (shw t) (loT t) (hiT t):=by
  exact UL
 have e0:=ak Y (u+1) 0 _ _ _ y3;have e1:=ak Y (u+1) 1 _ _ _ y3;have e5:=VZ U;have X:tL l c0 k0=(q:Int)/\tC l c0 k0=true:=by
  unfold tL tC;rw[U];exact⟨rfl,rfl⟩
 have M:=IC Y _ l c0 k0 (h'.ext a5) ω;rw[X.1,X.2] at M;replace M:=ah M;have b5:=ah (λZ (hx:Ext Y Z)=>aaS t u q Z (hA.ext hx) (b9.ext hx) a1 ω ω);have Rl:ents (rH t q)=Hr l c0 k0:=by
  obtain⟨y,hy,_⟩:=M8 U;rw[yN,hE,Rw hy,Ri a4 U hy]
 have b0:rH t q= .leaf []\/okR (rH t q):=by
  rcases a1 with h0|h0
  ·subst h0
   have:cnt (.leaf [])=0:=rfl;omega
  ·exact .inr (zK t q h0)
 obtain⟨p0,p1,p2,p3,p4,p5,p6,p7⟩:=b7;clear X a4 U;clear hA tu h h' hG a8 a7 x1 x2 x3 y0 Q b3 b2 y3;replace hW1:=ah hW1;replace I:=ah I;replace H:=ah H;replace hpb:=ah hpb;replace J:=ah J;replace a3:=ah a3;go_enter Tryz.func150,Tryz.ntmps150
 go_wp2_with fail
 rw[hW1.out,hpb.out,I.out,H.out,J.out];refine M.out.mono ?_;rintro e w4 ⟨rfl,x4⟩;clear p0 p1 p2 p3 p4 p5 p6 p7 e0 e1
 go_wp2_with fail
 refine(b5.out _ x4).mono ?_;rintro e w3 ⟨v3,rfl,⟨q3,rfl,a9⟩,x5⟩;have b8:=(a5.trans x4).trans x5;have a:=(aJ (x4.trans x5) f (aC.1 K).1).trans K;have e2:∀b,(G b/\b<w3.heap.size)->F b\/W.heap.size<=b:=λb j=>d9 b j.1
 obtain⟨i,a6⟩:∃z,rH t q=z:=⟨_,rfl⟩;rw[a6] at a9 Rl b0;clear a6;obtain⟨A3,n3,c3,l3,r3,⟨d0,d1,d2,d3,d4,d5,d6,d7⟩,a0⟩:=a9.form;have k0:=ak w3 f 0 _ _ _ a;have f0:=aK w3 f 0 _ _ a;have k1:=ak w3 f 1 _ _ _ a;have f1:=aK w3 f 1 _ _ a;have k2:=ak w3 f 2 _ _ _ a;have f2:=aK w3 f 2 _ _ a;have k3:=ak w3 f 3 _ _ _ a;have f3:=aK w3 f 3 _ _ a;have k4:=ak w3 f 4 _ _ _ a;have f4:=aK w3 f 4 _ _ a;have k5:=ak w3 f 5 _ _ _ a;have f5:=aK w3 f 5 _ _ a;have k6:=ak w3 f 6 _ _ _ a;have f6:=aK w3 f 6 _ _ a;have k7:=ak w3 f 7 _ _ _ a;have f7:=aK w3 f 7 _ _ a;have O:=Ip a (.slice A3 n3 c3) (.pointer l3) (.pointer r3) (Vi (htT i)) (Vi (cnt i)) (Vi (shw i)) (Vq (loT i)) (Vq (hiT i));have b1:=Ext.st8 b8 b6 (.slice A3 n3 c3) (.pointer l3) (.pointer r3) (Vi (htT i)) (Vi (cnt i)) (Vi (shw i)) (Vq (loT i)) (Vq (hiT i));have a2:=λ(q:Nat) (U:q≠f)=>CP (w:=w3) U (.slice A3 n3 c3) (.pointer l3) (.pointer r3) (Vi (htT i)) (Vi (cnt i)) (Vi (shw i)) (Vq (loT i)) (Vq (hiT i))
 have e4:=P6 (w:=w3) (b:=f) (.slice A3 n3 c3) (.pointer l3) (.pointer r3) (Vi (htT i)) (Vi (cnt i)) (Vi (shw i)) (Vq (loT i)) (Vq (hiT i));have b4:=ah (aeM a0 Rl b0 (λb j=>a2 b (d8 b j)) (Nat.le_of_eq e4.symm));clear a2 a0;go_wp2;have z0:=ak _ f 0 _ _ _ O;have z1:=ak _ f 1 _ _ _ O;have z2:=ak _ f 2 _ _ _ O;have z3:=ak _ f 3 _ _ _ O;have z4:=ak _ f 4 _ _ _ O;have z5:=ak _ f 5 _ _ _ O;have z6:=ak _ f 6 _ _ _ O;have z7:=ak _ f 7 _ _ _ O;exact aN (v:= .tuple #[.agg #[.slice A3 n3 c3,.pointer l3,.pointer r3,Vi (htT i),Vi (cnt i),Vi (shw i),Vq (loT i),Vq (hiT i)],.nilIface]) (by simp[dK,Tryz.results150,go_sem,z0,z1,z2,z3,z4,z5,z6,z7]) rfl ⟨_,_,rfl,b4.out,e2,b1⟩
theorem M6 {l:List En} {c k:Int} {q:Nat} (h:pI l c k=some q):tL l c k=(q:Int)/\tC l c k=true:=by
 unfold tL tC;rw[h];exact⟨rfl,rfl⟩
end
theorem PV.avoid {F:Nat->Prop} {W:aj} {q:Nat} {T:TypeId} (u:W.heap[q]? =some (.cells #[.slice none 0 0,.pointer none,.pointer none,Vi 0,Vi 0,Vi 0,Vq 0,Vq 0] T (0,0))):
  ∀{t:Tr} {c l r:aI},(t= .leaf []\/okR t)->PV F W t c l r->PV (λb=>F b/\b≠q) W t c l r
 | .leaf l,c,lf,rt,_,⟨z,M,A,cap,h3,h4,h5,h6⟩=>⟨z,M,A,cap,h3,h4,h5,λN=>by
   obtain⟨k,o,e,hf⟩:=h6 N;refine⟨k,o,e,hf,λhk=>?_⟩;subst hk;subst e;obtain⟨b',o',x,e,K,hc⟩:=h5.at (k:=0) N;injection e with e;injection e with e1 e2;subst e1;subst e2;have f:=hc.c0;have h8:W.cell? ⟨k,o+0*4,none⟩=(#[.slice none 0 0,.pointer none,.pointer none,Vi 0,Vi 0,Vi 0,Vq 0,Vq 0]:Array aI)[o+0*4]? :=by
        simp only[World.cell?,u];rfl
   rw[h8] at f;generalize o+0*4=m at f
   match m,f with
   |0,f=>simp at f
   |1,f=>simp at f
   |2,f=>simp at f
   |3,f=>simp at f
   |4,f=>simp at f
   |5,f=>simp at f
   |6,f=>simp at f
   |7,f=>simp at f
   |m+8,f=>simp at f⟩
 | .node a b,c,lf,rt,i,hv=>by
   have i:okR a/\okR b:=by
        rcases i with h|h
        ·cases h
        ·exact h
   obtain⟨rfl,p,s,rfl,rfl,⟨hp,ca,Y,X,I,Q⟩,hs,cb,lb,U,H,O⟩:=hv;have Z:=ak W q 4 _ _ _ u;have j:∀{p:Nat} {t:Tr} {c l r:aI} {hh J lo hi:Int},okR t->PtC W p c l r hh (cnt t) J lo hi->p≠q:=by
        intro p t c l r hh J lo hi i K e;subst e;have z:=K.c4;rw[Z] at z;have M:=Ot i;simp at z;omega
   exact⟨rfl,p,s,rfl,rfl,⟨⟨hp,j i.1 I⟩,ca,Y,X,I,PV.avoid u (.inr i.1) Q⟩,⟨hs,j i.2 H⟩,cb,lb,U,H,PV.avoid u (.inr i.2) O⟩
theorem Ix.avoid {F:Nat->Prop} {W:aj} {v:aI} {l:List En} {q:Nat} {T:TypeId} (h:Ix F W v l) (f:W.heap[q]? =some (.cells #[.slice none 0 0,.pointer none,.pointer none,Vi 0,Vi 0,Vi 0,Vq 0,Vq 0] T (0,0))):Ix (λb=>F b/\b≠q) W v l:=by
 obtain⟨t,x,M,K,e,J,I,H,z,u,j,a⟩:=h;exact⟨t,x,M,K,e,J,I,H,z,u,j.avoid f e,λb i=>a b i.1⟩
def KR (w a b:aj):Prop:=(Ext w a->Ext w b)/\∀(F:Nat->Prop) (v:aI) (l:List En),Ix F a v l->∃e:Nat->Prop,(∀b,e b->F b)/\Ix e b v l
end
end Go.Proofs.YtejbpijamdlgcaaGreatDoor

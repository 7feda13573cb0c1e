/-
  Lemmas of this seat; no claim.
-/
import Derived.Test.YtncfhbpejchbfaaGreatDoorPIf1
import Derived.Test.YtncfhbpejchbfaaGreatDoorLayGr
set_option linter.unusedVariables false
set_option linter.unusedSimpArgs false
set_option maxRecDepth 100000
set_option maxHeartbeats 16000000
open Array renaming getElem?_eq_some_iff→an
open Go renaming Calls→aO,Value→au,World→ae,bodyPost_ret→aB,cell_of_row→aj,frozen_of_row→aw,heap_alloc_new→aI,heap_setCell_other→aQ,heap_setCell_same→al,results→cg
open Go.IntKind renaming i64→cJ,u32→ak
open Go.IntWalk renaming i64_in→bP
open Go.Lib renaming hid→ac
open Go.RowKit.Below renaming block→av
open Go.Value renaming int→ao
open Go.World renaming cell?_alloc_some→ah
open List renaming getElem?_cons_succ→iV,getElem?_cons_zero→fF,getElem?_eq_getElem→ay,getElem?_eq_some_iff→aq,length_drop→bk,length_nil→aG,length_take→bv,length→fC,take_add_one→bG,take_of_length_le→aU
open Nat renaming le_refl→am,zero_le→bN
open Option.some renaming injEq→aL
open Go.Proofs.Tryz
open Go.Proofs.Tryz renaming prog→pg
namespace Go.Proofs.YtncfhbpejchbfaaGreatDoor
open Go.ChangeShapes Go.WideShapes Go.ChangeAt Go.RowKit Go.Sort
section
attribute [local go_sem] ah
theorem DZ (A:Option Addr) (n cap:Nat) (l:List En) (w:ae) (hv:EnS w A l) (hn:l.length=n) (M:n<=40000000):
  aO pg 170 #[.slice A n cap] w λe w'=>∃v,e= .returned v/\lG w w' v l/\Ext w w':=by
 have K:∀(W:ae) (a:Option Addr) (n c f j:Nat),(binOp .eql 57 (.slice a n c) (.slice none f j)).run pg W= .ok (.bool a.isNone) W:=λW a n c f j=>Lib.run_eql_slice_nil W _ _ a n c f j underlying57
 cases A with
 |none=>
  have I:l=[]:=by
   cases l with
   |nil=>rfl
   |cons x l=>obtain⟨b,o,J,e,_⟩:=hv.at (k:=0) ι;cases e
  subst I;go_enter func170,ntmps170;go_wp2;go_ret;exact⟨_,rfl,lG.nil _ _,Ext.refl _⟩
 |some a=>
  have i:=hv.ext ((Ext.refl w).alloc (.cells #[] 116));have H:=lG.empty (Ext.refl w);have z:=(Ext.refl w).alloc (.cells #[] 116);go_enter func170,ntmps170
  go_wp2_with(at_builtin;refine rQ (w0:=w) rfl (.tmp 5) (.tmp 6) rfl _ [] rfl H z (some a) n cap l rfl hn i (by simp only[aG];omega) ?_)
  intro q w3 u x3 _ _;go_wp2;go_ret;exact⟨q,rfl,u,x3⟩
theorem V9 (n:Nat) (w:ae) (I:n<=40000000):
  aO pg 210 #[.slice none 0 0,Vi (n:Int)] w λe w'=>∃v,e= .returned v/\lG w w' v []/\Ext w w':=by
 rcases Nat.eq_zero_or_pos n with q|q
 ·subst q
  refine(Any8.slices_Grow_room Tryz.growE none 0 0 0 w (am _) ω ω (am _)).mono ?_;rintro e w' ⟨rfl,rfl⟩;exact⟨_,rfl,lG.nil _ _,Ext.refl _⟩
 ·obtain⟨i,hi,j,u,f⟩:=info_parts OP
  refine(Any8.slices_Grow_grow Tryz.growE i _ hi j ω none 0 0 n [] w (am _) ω (by rw[f];omega) ω ι (λ_=>rfl) (λa e=>by cases e)).mono ?_;rintro e w' ⟨rfl,rfl⟩;refine⟨_,rfl,⟨by simp[flat],.inr ⟨w.heap.size,_,_,rfl,am _,aI (w.drew) _,bN _,grownCap_le_maxLen _ _ _ _ (by unfold maxLen;omega),?_,by simp[flat]⟩⟩,((Ext.refl w).drew).alloc _⟩;have z:=grownCap_ge w (0+n) 0 (Tryz.growE_ren.t 25);simp only[Array.size_append,size_zeroCells,List.size_toArray,aG];have H:(Value.agg #[ao ak 0,ao ak 0,ao IntKind.i32 0,Value.bool false]).cells.size=4:=rfl;rw[H];omega
structure SlE where
 A:Option Addr
 c:Nat
 l:List En
def uj (ls:List SlE):Nat:=(ls.map λx=>x.l.length).sum
def ES (ls:List SlE):List En:=ls.flatMap λx=>x.l
theorem Ue:∀ls:List SlE,(ES ls).length=uj ls
 |[]=>rfl
 |x::ls=>by
  have:=Ue ls;unfold ES uj at*;simp[this]
theorem Ns {ls:List SlE} {j:Nat} {x:SlE} (h:ls[j]? =some x):uj (ls.take (j+1))=uj (ls.take j)+x.l.length:=by
 rw[bG,h];simp[uj]
theorem aax {ls:List SlE} {j:Nat} {x:SlE} (h:ls[j]? =some x):ES (ls.take (j+1))=ES (ls.take j)++x.l:=by
 rw[bG,h];simp[ES]
theorem KN:∀(ls:List SlE) (j:Nat),uj (ls.take j)<=uj ls
 |[],j=>by simp[uj]
 |x::ls,0=>by simp[uj]
 |x::ls,j+1=>by
  have h:=KN ls j;have e:uj ((x::ls).take (j+1))=x.l.length+uj (ls.take j):=by simp[uj]
  have a:uj (x::ls)=x.l.length+uj ls:=by simp[uj]
  omega
theorem RQ (b n cap:Nat) (ls:List SlE) (w:ae) (z:∀(j:Nat) (x:SlE),ls[j]? =some x->w.cell? ⟨b,j,none⟩=some (.slice x.A x.l.length x.c)/\EnS w x.A x.l) (hn:ls.length=n) (a1:n<=400000) (hb:uj ls<=40000000):
  aO pg 179 #[.slice (some ⟨b,0,none⟩) n cap] w λe w'=>∃v,e= .returned v/\lG w w' v (ES ls)/\Ext w w':=by
 have O:=ac (λW=>V9 (uj ls) W hb);replace z:=ac z;replace hn:=ac hn;go_enter func179,ntmps179;go_wp2
 go_loopw [3,11] (λs i W=>∃(j:Nat),j<=n/\i=Vi j/\s=Vi (uj (ls.take j))/\w=W) (λ_ i _=>n-(intOf i).toNat)
 case atStart=>exact⟨0,bN _,rfl,rfl,rfl⟩
 case round=>
  obtain⟨j,hj,rfl,rfl,rfl⟩:=hrel;have a0:=KN ls j;by_cases K:j<n
  ·obtain⟨x,a⟩:∃x,ls[j]? =some x:=⟨ls[j]'(by rw[hn.out];exact K),ay _⟩
   obtain⟨c0,_⟩:=z.out j x a;have q:=Ns a;have f:=KN ls (j+1);have N:(0:Int)<=(j:Int):=ω
   have M:(j:Int)<(n:Int):=ω
   have I:=ac q;rw[q] at f;clear q a;generalize uj (ls.take j)=sj at*;generalize x.l.length=xl at*;go_wp2
   go_roundw
   case rel=>exact⟨j+1,ω,ν,by rw[I.out];go_num,trivial⟩
   case measure=>simp[intOf];omega
  ·obtain rfl:j=n:=ω
   have e:uj (ls.take j)=uj ls:=by rw[aU (by rw[hn.out];omega)]
   rw[e]
   go_wp2_with fail
   refine(O.out _).mono ?_;rintro e w1 ⟨v1,rfl,o1,x1⟩;go_wp2
   go_loopw [6,27] (λv i W=>∃(k:Nat),k<=j/\i=Vi k/\lG w W v (ES (ls.take k))/\Ext w W) (λ_ i _=>j-(intOf i).toNat)
   case atStart=>exact⟨0,bN _,rfl,o1,x1⟩
   case round=>
        clear o1 x1;obtain⟨k,hk,rfl,J,H⟩:=hrel;by_cases u:k<j
        ·obtain⟨x,a⟩:∃x,ls[k]? =some x:=⟨ls[k]'(by rw[hn.out];exact u),ay _⟩
         obtain⟨c0,Y⟩:=z.out k x a;have c1:=H.keep c0;have X:=Y.ext H;have q:=Ns a;have f:=KN ls (k+1);have Q:=Ue (ls.take k);have N:(0:Int)<=(k:Int):=ω
         have M:(k:Int)<(j:Int):=ω
         have I:=ac (aax a);have U:(ES (ls.take k)).length+x.l.length<=40000000:=ω
         clear q f Q a c0 Y
         go_wp2_with(at_builtin;refine rQ (w0:=w) rfl (.tmp 31) (.tmp 32) rfl _ _ rfl J H x.A x.l.length x.c x.l rfl rfl X U ?_;intro v3 w3 Z x3 _ _)
         go_roundw
         case rel=>exact⟨k+1,ω,ν,by rw[I.out];exact Z,x3⟩
         case measure=>simp[intOf];omega
        ·obtain rfl:k=j:=ω
         have e2:ES (ls.take k)=ES ls:=by rw[aU (by rw[hn.out];omega)]
         rw[e2] at J;go_wp2;go_ret;exact⟨_,rfl,J,H⟩
end
section
attribute [local go_sem] ah calm jL jH
variable {G:Nat->Prop}
theorem wX {w a:ae} {v:au} {l:List En} (f:lG w a v l) (z:l.length<=40000000) (i:Up G w) (j:Ext w a):
  aO pg 171 #[v] a (Ec G a (.leaf l)):=by
 obtain⟨A,c,rfl,u,H⟩:=lG.open f;refine PW A l.length c l a H rfl u z (i.ext j) λI=>?_
 obtain⟨g,J,e,q,_⟩:=lG.block f I;injection e with e1;exact⟨g,0,e1,i g q⟩
theorem QC:∀(k:Nat) (l:List En) (A:Option Addr) (n cap:Nat) (w:ae),l.length<=k->EnS w A l->l.length=n->n<=cap->n<=40000000->Up G w->
  aO pg 178 #[.slice A n cap] w (Ec G w (mX l)):=by
 intro k
 induction k with
 |zero=>
  intro l A n cap w hk hv hn a Z j;obtain rfl:l=[]:=List.length_eq_zero_iff.1 ω;subst hn;have i:=ac (DZ A 0 cap [] w hv rfl ω);rw[Gm ι];go_enter func178,ntmps178
  go_wp2_with fail
  refine i.out.mono ?_;rintro e w2 ⟨v2,rfl,J,x2⟩
  go_wp2_with fail
  refine(wX J ι j x2).mono ?_;rintro e Y ⟨q,rfl,u,x4⟩;go_wp2;go_ret;exact⟨q,rfl,u,x2.trans x4⟩
 |succ k ih=>
  intro l A n cap w hk hv hn a Z j;by_cases hs:n<=16
  ·have i:=ac (DZ A n cap l w hv hn Z)
   have hd:decide ((n:Int)<=16)=true:=by rw[decide_eq_true_eq];omega
   rw[Gm ω];go_enter func178,ntmps178
   go_wp2_with fail
   refine i.out.mono ?_;rintro e w2 ⟨v2,rfl,J,x2⟩
   go_wp2_with fail
   refine(wX J ω j x2).mono ?_;rintro e Y ⟨q,rfl,u,x4⟩;go_wp2;go_ret;exact⟨q,rfl,u,x2.trans x4⟩
  ·have hd:decide ((n:Int)<=16)=false:=by rw[decide_eq_false_iff_not];omega
   rw[YB ω];obtain⟨h,hh⟩:∃h,l.length/2=h:=⟨_,rfl⟩;rw[hh];have O:(n:Int)/2=(h:Int):=ω
   have a0:=acT A n cap h ω (h:Int) rfl;have a1:=adf A n cap h ω (h:Int) rfl;have N:=ac (λW (f:Ext w W)=>ih (l.take h) A h cap W (by rw[bv];omega) ((hv.take h).ext f) (by rw[bv];omega) ω ω (j.ext f));have M:=ac (λW (f:Ext w W)=>ih (l.drop h) (oq A cap h 4) (n-h) (cap-h) W (by rw[bk];omega) ((hv.cut hn a ω).ext f) (by rw[bk];omega) ω ω (j.ext f));have H:okR (mX (l.take h)):=Lp (λe=>by have:=congrArg fC e;rw[bv,aG] at this;omega);have z:okR (mX (l.drop h)):=Lp (λe=>by have:=congrArg fC e;rw[bk,aG] at this;omega);clear ih hv;go_enter func178,ntmps178
   go_wp2_with fail
   try rw[O]
   refine mg 8 [rw1 3 λI W=>qG G W I (mX (l.take h)),rw1 7 λI W=>qG G W I (mX (l.drop h))] ⟨λ_ _ _ _ h e=>qG.ext h e,λ_ _ _ _ h e=>qG.ext h e,trivial⟩ λX _=>?_
   refine .s 3 (λW f y=>jD) ?_;refine .k 0 N.out ?_;refine .s 3 (λW f y=>jD) ?_;refine .k 1 M.out ?_;refine .fin λW hR ⟨U,Q,_⟩=>?_
   obtain⟨q3,e3,U⟩:=U;rw[show X 3=_ from e3];obtain⟨q7,e7,Q⟩:=Q;rw[show X 7=_ from e7]
   go_wp2_with fail
   refine(lV U Q (j.ext hR) H z (by unfold cnt;rw[DW,DW,bv,bk];omega)).mono ?_;rintro e Y ⟨q,rfl,u,x4⟩;go_wp2;go_ret;exact⟨q,rfl,u,hR.trans x4⟩
theorem Yu (x:En):∀(t:Tr) (b p:Nat) (w:ae),AtP G w b t->Up G w->(t= .leaf []\/okR t)->p<=cnt t->cnt t<=20000000->
  aO pg 147 #[Vp b,Vi (p:Int),env x] w (Ec G w (og t p x)):=by
 intro t
 induction t with
 |leaf l=>
  rintro b p w ⟨_,ch,lf,rt,⟨c0,c1,c2,c3,c4,c5,c6,c7⟩,rfl,rfl,A,cap,rfl,Y,hE,_⟩ hG i X hb;have X:p<=l.length:=X;have hb:l.length<=20000000:=hb;obtain⟨n,hn⟩:∃n,l.length=n:=⟨_,rfl⟩;rw[hn] at X hb Y c0;have x0:Ext w (w.alloc (.cells #[.int .u32 x.c,.int .u32 x.k,.int .i32 x.ch,.bool x.g] 116)):=(Ext.refl _).alloc _;obtain⟨I,f⟩:∃I,w.heap.size=I:=⟨_,rfl⟩;obtain⟨H,a⟩:∃W,w.alloc (.cells #[.int .u32 x.c,.int .u32 x.k,.int .i32 x.ch,.bool x.g] 116)=W:=⟨_,rfl⟩;have e0:H.cell? ⟨I,0,none⟩=some (Vu x.c):=by rw[<-a,<-f];simp[go_sem]
  have e1:H.cell? ⟨I,1,none⟩=some (Vu x.k):=by rw[<-a,<-f];simp[go_sem]
  have e2:H.cell? ⟨I,2,none⟩=some (.int .i32 x.ch):=by rw[<-a,<-f];simp[go_sem]
  have e3:H.cell? ⟨I,3,none⟩=some (.bool x.g):=by rw[<-a,<-f];simp[go_sem]
  rw[a] at x0;have c0:=x0.keep c0;have hl:=ac (vZ b H (x0.keep c1));have b6:=ac (hE.ext x0);have d1:=acT A n cap p ω (p:Int) rfl;have d2:=adf A n cap p X (p:Int) rfl;replace a:=ac a;replace f:=ac f;clear hE c1 c2 c3 c4 c5 c6 c7;go_enter func147,ntmps147
  go_wp2_with fail
  rw[a.out,f.out];refine hl.out.mono ?_;rintro e a3 ⟨rfl,VT⟩;subst VT
  go_wp2_with fail
  refine mg 14 [rw1 7 λz9 W=>∃q,z9= .slice (some ⟨q,0,none⟩) 1 1/\afc W q x] ⟨by rintro _ _ _ _ ⟨q,h0,h1⟩ e;exact⟨q,h0,e.blk h1⟩,trivial⟩ λρ _=>?_
  refine .s 7 (λW M y=>jD) ?_;refine .o 0 [] (λW M y _ N hN=>?_) ?_
  ·go_simp
   exact hN _ _ (λ_ e=>by cases e) ⟨_,rfl,aI W _⟩ ((Ext.refl W).alloc _)
  refine .s 6 (λW M y=>jD) ?_;refine .fin λW hR ⟨h7,_⟩=>?_
  obtain⟨U,e7,h7⟩:=h7;rw[show ρ 7=_ from e7];have y1:Ext W (W.alloc (.cells #[.slice A p cap,.slice (some ⟨U,0,none⟩) 1 1,.slice (oq A cap p 4) (n-p) (cap-p)] 57)):=(Ext.refl W).alloc _;have k0:(W.alloc (.cells #[.slice A p cap,.slice (some ⟨U,0,none⟩) 1 1,.slice (oq A cap p 4) (n-p) (cap-p)] 57)).cell? ⟨W.heap.size,0,none⟩=some (.slice A p cap):=σ
  have k1:(W.alloc (.cells #[.slice A p cap,.slice (some ⟨U,0,none⟩) 1 1,.slice (oq A cap p 4) (n-p) (cap-p)] 57)).cell? ⟨W.heap.size,1,none⟩=some (.slice (some ⟨U,0,none⟩) 1 1):=σ
  have k2:(W.alloc (.cells #[.slice A p cap,.slice (some ⟨U,0,none⟩) 1 1,.slice (oq A cap p 4) (n-p) (cap-p)] 57)).cell? ⟨W.heap.size,2,none⟩=some (.slice (oq A cap p 4) (n-p) (cap-p)):=σ
  go_wp2_with fail
  generalize W.alloc (.cells #[.slice A p cap,.slice (some ⟨U,0,none⟩) 1 1,.slice (oq A cap p 4) (n-p) (cap-p)] 57)=W2 at*;have a6:Ext w W2:=(x0.trans hR).trans y1;have a8:=b6.out.ext (hR.trans y1);have b0:(l.take p).length=p:=by rw[bv];omega
  have b1:(l.drop p).length=n-p:=by rw[bk];omega
  have Hy:ES [⟨A,cap,l.take p⟩,⟨some ⟨U,0,none⟩,1,[x]⟩,⟨oq A cap p 4,cap-p,l.drop p⟩]=zY l p x:=by simp[ES,zY]
  have a5:=RQ W.heap.size 3 3 [⟨A,cap,l.take p⟩,⟨some ⟨U,0,none⟩,1,[x]⟩,⟨oq A cap p 4,cap-p,l.drop p⟩] W2 (λj y J=>by
   match j,J with
   |0,J=>
    simp only[fF,aL] at J;subst J;exact⟨by rw[k0,b0],a8.take p⟩
   |1,J=>
    simp only[iV,fF,aL] at J;subst J;exact⟨k1,(h7.row).ext y1⟩
   |2,J=>
    simp only[iV,fF,aL] at J;subst J;exact⟨by rw[k2,b1],a8.cut hn Y X⟩
   |j+3,J=>simp at J) rfl ω (by simp[uj];omega)
  rw[Hy] at a5;refine a5.mono ?_;rintro e w4 ⟨v4,rfl,o4,x4⟩;obtain⟨A4,c4,rfl,b4,b5⟩:=lG.open o4
  go_wp2_with fail
  refine(QC _ (zY l p x) A4 _ c4 w4 (am _) b5 rfl b4 (by rw[SL ω];omega) (hG.ext (a6.trans x4))).mono ?_;rintro e w5 ⟨v5,rfl,o5,x5⟩;go_wp2;go_ret;exact⟨v5,rfl,o5,(a6.trans x4).trans x5⟩
 |node u tb a0 Z=>
  rintro b p w ⟨_,ch,lf,rt,⟨c0,c1,c2,c3,c4,c5,c6,c7⟩,a7⟩ hG i X hb;obtain⟨rfl,lp,rp,rfl,rfl,hA,hB⟩:=a7.node;have i:okR (.node u tb):=by
   rcases i with h|h
   ·cases h
   ·exact h
  rw[kU] at X hb;have b7:=hA;obtain⟨_,_,_,_,⟨_,_,_,_,l4,_,_,_⟩,_⟩:=b7;have x0:Ext w (w.alloc (.cells #[.int .u32 x.c,.int .u32 x.k,.int .i32 x.ch,.bool x.g] 116)):=(Ext.refl _).alloc _;obtain⟨I,f⟩:∃I,w.heap.size=I:=⟨_,rfl⟩;obtain⟨H,a⟩:∃W,w.alloc (.cells #[.int .u32 x.c,.int .u32 x.k,.int .i32 x.ch,.bool x.g] 116)=W:=⟨_,rfl⟩;have e0:H.cell? ⟨I,0,none⟩=some (Vu x.c):=by rw[<-a,<-f];simp[go_sem]
  have e1:H.cell? ⟨I,1,none⟩=some (Vu x.k):=by rw[<-a,<-f];simp[go_sem]
  have e2:H.cell? ⟨I,2,none⟩=some (.int .i32 x.ch):=by rw[<-a,<-f];simp[go_sem]
  have e3:H.cell? ⟨I,3,none⟩=some (.bool x.g):=by rw[<-a,<-f];simp[go_sem]
  rw[a] at x0;have c1:=x0.keep c1;have c2:=x0.keep c2;have l4:=x0.keep l4;have hl:=ac (vU b lp H c1);replace a:=ac a;replace f:=ac f;clear c0 c3 c4 c5 c6 c7 a7;by_cases Q:p<=cnt u
  ·have b3:=ac (λW (M:Ext H W)=>a0 lp p W (hA.ext (x0.trans M)) (hG.ext (x0.trans M)) (.inr i.1) Q ω)
   have hd:decide ((p:Int)<=(cnt u:Int))=true:=by rw[decide_eq_true_eq];omega
   have O:okR (og u p x):=xW u p x (.inr i.1);have a1:cnt (og u p x)=cnt u+1:=Jq u p x Q;have z:og (.node u tb) p x=tQ (og u p x) tb:=by rw[og,if_pos Q]
   rw[z];clear a0 Z z;go_enter func147,ntmps147
   go_wp2_with fail
   rw[a.out,f.out];refine hl.out.mono ?_;rintro e a3 ⟨rfl,VT⟩;subst VT
   go_wp2_with fail
   refine mg 11 [rw1 6 λz9 W=>qG G W z9 (og u p x)] ⟨λ_ _ _ _ h e=>qG.ext h e,trivial⟩ λρ _=>?_
   refine .s 6 (λW M y=>jD) ?_;refine .k 0 b3.out ?_;refine .s 4 (λW M y=>jD) ?_;refine .fin λW hR ⟨h6,_⟩=>?_
   obtain⟨q6,e6,h6⟩:=h6;rw[show ρ 6=_ from e6]
   go_wp2_with fail
   refine(Uj h6 (hB.ext (x0.trans hR)) (hG.ext (x0.trans hR)) O i.2 (by rw[a1];omega)).mono ?_;rintro e w4 ⟨v4,rfl,o4,x4⟩;go_wp2;go_ret;exact⟨v4,rfl,o4,(x0.trans hR).trans x4⟩
  ·obtain⟨m,hm⟩:∃m,p-cnt u=m:=⟨_,rfl⟩
   have b2:=ac (λW (M:Ext H W)=>Z rp m W (hB.ext (x0.trans M)) (hG.ext (x0.trans M)) (.inr i.2) ω ω);have hd:decide ((p:Int)<=(cnt u:Int))=false:=by rw[decide_eq_false_iff_not];omega
   have a4:cJ.wrap ((p:Int)-(cnt u:Int))=(m:Int):=by rw[show((p:Int)-(cnt u:Int))=(m:Int) by omega];exact bP _ ω
   have O:okR (og tb m x):=xW tb m x (.inr i.2);have a1:cnt (og tb m x)=cnt tb+1:=Jq tb m x ω;have z:og (.node u tb) p x=tQ u (og tb m x):=by rw[og,if_neg Q,hm]
   rw[z];clear a0 Z z;obtain⟨na,a9⟩:∃na,cnt u=na:=⟨_,rfl⟩;rw[a9] at a4 hd l4 Q hm X hb;go_enter func147,ntmps147
   go_wp2_with fail
   rw[a.out,f.out];refine hl.out.mono ?_;rintro e a3 ⟨rfl,VT⟩;subst VT
   go_wp2_with fail
   refine mg 19 [rw1 18 λz9 W=>qG G W z9 (og tb m x)] ⟨λ_ _ _ _ h e=>qG.ext h e,trivial⟩ λρ _=>?_
   refine .s 18 (λW M y=>jD) ?_;refine .k 0 b2.out ?_;refine .fin λW hR ⟨a2,_⟩=>?_
   obtain⟨b9,b8,a2⟩:=a2;rw[show ρ 18=_ from b8]
   go_wp2_with fail
   refine(Uj (hA.ext (x0.trans hR)) a2 (hG.ext (x0.trans hR)) i.1 O (by rw[a1];omega)).mono ?_;rintro e w4 ⟨v4,rfl,o4,x4⟩;go_wp2;go_ret;exact⟨v4,rfl,o4,(x0.trans hR).trans x4⟩
theorem Zl:∀(t:Tr) (b p:Nat) (w:ae),AtP G w b t->Up G w->(t= .leaf []\/okR t)->p<cnt t->cnt t<=20000000->
  aO pg 142 #[Vp b,Vi (p:Int)] w (Ec G w (mO t p)):=by
 intro t
 induction t with
 |leaf l=>
  rintro b p w ⟨_,ch,lf,rt,⟨c0,c1,c2,c3,c4,c5,c6,c7⟩,rfl,rfl,A,cap,rfl,a8,hE,_⟩ N f J U;have J:p<l.length:=J;have U:l.length<=20000000:=U;obtain⟨x,j⟩:∃x,l[p]? =some x:=⟨l[p],ay J⟩;have a1:=ac (DZ A l.length cap l w hE rfl ω);have Z:=ac (vZ b w c1);have a:mO (.leaf l) p= .leaf (l.set p { x with g:=true }):=by rw[mO,O9 j]
  rw[a];clear hE c1 c2 c3 c4 c5 c6 c7 a;go_enter func142,ntmps142
  go_wp2_with fail
  refine Z.out.mono ?_;rintro e w1 ⟨rfl,q⟩;subst q
  go_wp2_with fail
  refine a1.out.mono ?_;rintro e w2 ⟨v2,rfl,Y,x2⟩;obtain⟨g,cc,rfl,hg,b2⟩:=lG.block Y ω;obtain⟨o3,g3,f3⟩:=lG.hide Y j;have k3:w2.cell? ⟨g,p*4+3,none⟩=some (.bool x.g):=by
   obtain⟨A',c',e,_,a5⟩:=lG.open Y;injection e with e1;subst e1;obtain⟨b',o',x',e,u,hc⟩:=a5.at J;injection e with e;injection e with e1 e2;subst e1;subst e2;rw[j] at u;injection u with u;subst u;have:=hc.c3;rwa[Nat.zero_add] at this
  have x3:Ext w (w2.setCell ⟨g,p*4+3,none⟩ (.bool true)):=Ext.setCell x2 hg _;have Q:(l.set p { x with g:=true }).length<=40000000:=by rw[List.length_set];omega
  have b1:(0:Int)<=(p:Int):=ω
  have b0:(p:Int)<(l.length:Int):=ω
  have a2:=ac (wX o3 Q N x3);clear Y o3 g3
  go_wp2_with fail
  refine a2.out.mono ?_;rintro e w5 ⟨v5,rfl,o5,x5⟩;go_wp2;go_ret;exact⟨v5,rfl,o5,x3.trans x5⟩
 |node i tb I H=>
  rintro b p w ⟨_,ch,lf,rt,⟨c0,c1,c2,c3,c4,c5,c6,c7⟩,X⟩ N f J U;obtain⟨rfl,lp,rp,rfl,rfl,hA,hB⟩:=X.node;have f:okR (.node i tb):=by
   rcases f with h|h
   ·cases h
   ·exact h
  rw[kU] at J U;have a6:=hA;obtain⟨_,_,_,_,⟨_,_,_,_,l4,_,_,_⟩,_⟩:=a6;have Z:=ac (vU b lp w c1);clear c0 c3 c4 c5 c6 c7 X;by_cases z:p<cnt i
  ·have a4:=ac (λW (j:Ext w W)=>I lp p W (hA.ext j) (N.ext j) (.inr f.1) z ω)
   have hd:decide ((p:Int)<(cnt i:Int))=true:=by rw[decide_eq_true_eq];omega
   have a:mO (.node i tb) p= .node (mO i p) tb:=by rw[mO,if_pos z]
   rw[a];clear I H a;go_enter func142,ntmps142
   go_wp2_with fail
   refine Z.out.mono ?_;rintro e w1 ⟨rfl,q⟩;subst q
   go_wp2_with fail
   refine mg 10 [rw1 5 λz9 W=>qG G W z9 (mO i p)] ⟨λ_ _ _ _ h e=>qG.ext h e,trivial⟩ λρ _=>?_
   refine .s 5 (λW j y=>jD) ?_;refine .k 0 a4.out ?_;refine .s 4 (λW j y=>jD) ?_;refine .fin λW hR ⟨h5,_⟩=>?_
   obtain⟨q5,e5,h5⟩:=h5;rw[show ρ 5=_ from e5]
   go_wp2_with fail
   refine(lV h5 (hB.ext hR) (N.ext hR) (wB _ _ f.1) f.2 (by rw[Hw];omega)).mono ?_;rintro e w4 ⟨v4,rfl,o4,x4⟩;go_wp2;go_ret;exact⟨v4,rfl,o4,hR.trans x4⟩
  ·obtain⟨m,hm⟩:∃m,p-cnt i=m:=⟨_,rfl⟩
   have a3:=ac (λW (j:Ext w W)=>H rp m W (hB.ext j) (N.ext j) (.inr f.2) ω ω);have hd:decide ((p:Int)<(cnt i:Int))=false:=by rw[decide_eq_false_iff_not];omega
   have O:cJ.wrap ((p:Int)-(cnt i:Int))=(m:Int):=by rw[show((p:Int)-(cnt i:Int))=(m:Int) by omega];exact bP _ ω
   have a:mO (.node i tb) p= .node i (mO tb m):=by rw[mO,if_neg z,hm]
   rw[a];clear I H a;obtain⟨na,a0⟩:∃na,cnt i=na:=⟨_,rfl⟩;rw[a0] at O hd l4 z hm J U;go_enter func142,ntmps142
   go_wp2_with fail
   refine Z.out.mono ?_;rintro e w1 ⟨rfl,q⟩;subst q
   go_wp2_with fail
   refine mg 18 [rw1 17 λz9 W=>qG G W z9 (mO tb m)] ⟨λ_ _ _ _ h e=>qG.ext h e,trivial⟩ λρ _=>?_
   refine .s 17 (λW j y=>jD) ?_;refine .k 0 a3.out ?_;refine .fin λW hR ⟨M,_⟩=>?_
   obtain⟨a9,a7,M⟩:=M;rw[show ρ 17=_ from a7]
   go_wp2_with fail
   refine(lV (hA.ext hR) M (N.ext hR) f.1 (wB _ _ f.2) (by rw[Hw];omega)).mono ?_;rintro e w4 ⟨v4,rfl,o4,x4⟩;go_wp2;go_ret;exact⟨v4,rfl,o4,hR.trans x4⟩
end
section
attribute [local go_sem] ah
section
def Ix (F:Nat->Prop) (W:ae) (v:au) (l:List En):Prop:=
 ∃(t:Tr) (x:Xv),v=ixv x/\ents t=l/\(t= .leaf []\/okR t)/\x.h=htT t/\x.m=cnt t/\x.s=shw t/\x.lo=loT t/\x.hi=hiT t/\PV F W t (.slice x.A x.n x.c) (.pointer x.l) (.pointer x.r)/\(∀b,F b->b<W.heap.size)
theorem Ix.ext {F:Nat->Prop} {W W':ae} {v:au} {l:List En} (h:Ix F W v l) (e:Ext W W'):Ix F W' v l:=by
 obtain⟨t,x,K,J,I,H,z,u,q,j,i,a⟩:=h;exact⟨t,x,K,J,I,H,z,u,q,j,i.ext e,λb f=>e.lt (a b f)⟩
abbrev Gb (F:Nat->Prop) (W:ae) (b:Nat):Prop:=F b\/W.heap.size<=b
variable {F:Nat->Prop} {w:ae}
theorem Ix.box {W:ae} {v:au} {l:List En} (h:Ix F W v l):∃(t:Tr) (A:Option Addr) (n c:Nat) (e a:Option Addr),v= .agg #[.slice A n c,.pointer e,.pointer a,Vi (htT t),Vi (cnt t),Vi (shw t),Vq (loT t),Vq (hiT t)]/\ents t=l/\(t= .leaf []\/okR t)/\
  (∀b,F b->b<W.heap.size)/\∀(G:Nat->Prop) W',(∀b,F b->G b)->G W.heap.size->Ext (W.alloc (.cells #[.slice A n c,.pointer e,.pointer a,Vi (htT t),Vi (cnt t),Vi (shw t),Vq (loT t),Vq (hiT t)] 63)) W'->AtP G W' W.heap.size t:=by
 obtain⟨t,⟨A,n,c,e,a,Z,Y,X,J,K⟩,U,Q,O,I,H,z,u,q,j,f⟩:=h;simp only at I H z u q j;subst I;subst H;subst z;subst u;subst q;refine⟨t,A,n,c,e,a,U,Q,O,f,λG W' N M i=>?_⟩;exact⟨M,_,_,_,(PtC.new W _ _ _ _ _ _ _ _ 63).ext i,((j.ext (((Ext.refl W).alloc _).trans i))).mono N⟩
theorem UW (c:Int) (W:ae) (j:0<=c) (q:c<=40000000):(Instr.makeSlice 57 (.int .i64 0) (.int .i64 c)).run pg W= .ok (.slice (some ⟨W.heap.size,0,none⟩) 0 c.toNat) (W.alloc (.cells (Eo (.agg #[.int .u32 0,.int .u32 0,.int .i32 0,.bool false]) (c.toNat*4)) 116)):=by
 obtain⟨i,hi,f,e,a⟩:=info_parts OP;exact BD underlying57 hi f e a c W j ω ω
theorem lG.room {W:ae} (c:Nat) (e:c<=40000000) (a:Ext w W):lG w (W.alloc (.cells (Eo (.agg #[.int .u32 0,.int .u32 0,.int .i32 0,.bool false]) (c*4)) 116)) (.slice (some ⟨W.heap.size,0,none⟩) 0 c) []:=
 ⟨by simp[flat],.inr ⟨W.heap.size,c,_,rfl,a.size,aI W _,bN _,by unfold maxLen;omega,wM _ _,by simp[flat]⟩⟩
theorem aa0 {b:Nat} {z u q j:au} {T:TypeId} (h:w.heap[b]? =some (.cells #[z,u,q,j] T (0,0))) (i f e a:au):
  ((((w.setCell ⟨b,0,none⟩ i).setCell ⟨b,1,none⟩ f).setCell ⟨b,2,none⟩ e).setCell ⟨b,3,none⟩ a).heap[b]? =some (.cells #[i,f,e,a] T (0,0)):=
 al _ _ 3 _ _ _ (al _ _ 2 _ _ _ (al _ _ 1 _ _ _ (al _ _ 0 _ _ _ h)))
theorem Ext.st4 {w0:ae} {b:Nat} (h:Ext w0 w) (a:w0.heap.size<=b) (j i f e:au):
  Ext w0 ((((w.setCell ⟨b,0,none⟩ j).setCell ⟨b,1,none⟩ i).setCell ⟨b,2,none⟩ f).setCell ⟨b,3,none⟩ e):=
 (((h.setCell (p:=⟨b,0,none⟩) a j).setCell (p:=⟨b,1,none⟩) a i).setCell (p:=⟨b,2,none⟩) a f).setCell (p:=⟨b,3,none⟩) a e
theorem acG (W:ae) (v:au) (l:List En) (h:Ix F W v l) (hl:l.length<=400000):aO pg 44 #[v] W λe w'=>∃v,e= .returned v/\lG W w' v l/\Ext W w':=by
 obtain⟨t,A,n,c,Y,U,rfl,Q,a1,a3,X⟩:=h.box;have u:cnt t=l.length:=by rw[<-Q];rfl
 have q:shw t=(jC l).length:=by rw[<-Q];rfl
 have H:cnt t<=40000000:=ω
 have N:Ext W (W.alloc (.cells #[.slice A n c,.pointer Y,.pointer U,Vi (htT t),Vi (cnt t),Vi (shw t),Vq (loT t),Vq (hiT t)] 63)):=(Ext.refl W).alloc _;have I:=X (Gb F W) _ (λb hb=> .inl hb) (.inr (am _)) (Ext.refl _);obtain⟨J,i⟩:∃Z,W.alloc (.cells #[.slice A n c,.pointer Y,.pointer U,Vi (htT t),Vi (cnt t),Vi (shw t),Vq (loT t),Vq (hiT t)] 63)=Z:=⟨_,rfl⟩;obtain⟨K,f⟩:∃z,W.heap.size=z:=⟨_,rfl⟩;have M:J.heap.size=K+1:=by rw[<-i,<-f];simp
 rw[i] at I N;rw[f] at I;clear X h;have a0:=λW=>UW (cnt t:Int) W ω ω
 have a4:J.cell? ⟨K,4,none⟩=some (Vi (cnt t)):=by obtain⟨_,_,_,_,z,_⟩:=I;exact z.c4
 rw[<-i,<-f] at a4;have a:=Xe t K (J.alloc (.cells (Eo (.agg #[.int .u32 0,.int .u32 0,.int .i32 0,.bool false]) (cnt t*4)) 116)) _ [] I ((Ext.refl J).alloc _) (lG.room (cnt t) H (Ext.refl J)) (by simpa using H);rw[M] at a;replace a:=ac a;clear I;replace i:=ac i;replace f:=ac f;replace u:=ac u;replace q:=ac q;go_enter func44,ntmps44
 go_wp2_with fail
 rw[i.out,f.out];refine a.out.mono ?_;rintro e w3 ⟨v3,rfl,j,x3⟩;rw[List.nil_append,Q] at j;obtain⟨A3,c3,rfl,a2,O⟩:=lG.open j;replace j:=ac (lG.down j N);clear O;go_wp2;go_ret;exact⟨_,rfl,j.out,N.trans x3⟩
theorem adW (W:ae) (v:au) (l:List En) (h:Ix F W v l) (hl:l.length<=400000):aO pg 182 #[v] W λe w'=>e= .returned (Vi (l.length:Int))/\Ext W w':=by
 obtain⟨t,A,n,c,J,u,rfl,M,Q,Y,I⟩:=h.box;have j:cnt t=l.length:=by rw[<-M];rfl
 have f:shw t=(jC l).length:=by rw[<-M];rfl
 have U:cnt t<=40000000:=ω
 have K:Ext W (W.alloc (.cells #[.slice A n c,.pointer J,.pointer u,Vi (htT t),Vi (cnt t),Vi (shw t),Vq (loT t),Vq (hiT t)] 63)):=(Ext.refl W).alloc _;have q:=I (Gb F W) _ (λb X=> .inl X) (.inr (am _)) (Ext.refl _);obtain⟨N,a⟩:∃Z,W.alloc (.cells #[.slice A n c,.pointer J,.pointer u,Vi (htT t),Vi (cnt t),Vi (shw t),Vq (loT t),Vq (hiT t)] 63)=Z:=⟨_,rfl⟩;obtain⟨H,i⟩:∃z,W.heap.size=z:=⟨_,rfl⟩;have O:N.heap.size=H+1:=by rw[<-a,<-i];simp
 rw[a] at q K;rw[i] at q;clear I h;have a4:N.cell? ⟨H,4,none⟩=some (Vi (cnt t)):=by obtain⟨_,_,_,_,z,_⟩:=q;exact z.c4
 rw[<-a,<-i] at a4;clear a K q;replace j:=ac j;replace f:=ac f;go_enter func182,ntmps182;go_wp2;go_ret;exact⟨l7 (by have:=j.out;have:=f.out;omega),(Ext.refl W).alloc _⟩
theorem Yd (W:ae) (v:au) (l:List En) (h:Ix F W v l) (hl:l.length<=400000):aO pg 84 #[v] W λe w'=>e= .returned (Vi ((jC l).length:Int))/\Ext W w':=by
 obtain⟨t,A,n,c,J,u,rfl,M,Q,Y,I⟩:=h.box;have j:cnt t=l.length:=by rw[<-M];rfl
 have f:shw t=(jC l).length:=by rw[<-M];rfl
 have U:cnt t<=40000000:=ω
 have K:Ext W (W.alloc (.cells #[.slice A n c,.pointer J,.pointer u,Vi (htT t),Vi (cnt t),Vi (shw t),Vq (loT t),Vq (hiT t)] 63)):=(Ext.refl W).alloc _;have q:=I (Gb F W) _ (λb X=> .inl X) (.inr (am _)) (Ext.refl _);obtain⟨N,a⟩:∃Z,W.alloc (.cells #[.slice A n c,.pointer J,.pointer u,Vi (htT t),Vi (cnt t),Vi (shw t),Vq (loT t),Vq (hiT t)] 63)=Z:=⟨_,rfl⟩;obtain⟨H,i⟩:∃z,W.heap.size=z:=⟨_,rfl⟩;have O:N.heap.size=H+1:=by rw[<-a,<-i];simp
 rw[a] at q K;rw[i] at q;clear I h;have a5:N.cell? ⟨H,5,none⟩=some (Vi (shw t)):=by obtain⟨_,_,_,_,z,_⟩:=q;exact z.c5
 rw[<-a,<-i] at a5;clear a K q;replace j:=ac j;replace f:=ac f;go_enter func84,ntmps84;go_wp2;go_ret;exact⟨l7 (by have:=j.out;have:=f.out;omega),(Ext.refl W).alloc _⟩
theorem ZR (W:ae) (v:au) (l:List En) (q:Nat) (x:En) (h:Ix F W v l) (hl:l.length<=400000) (hq:l[q]? =some x):aO pg 123 #[v,Vi (q:Int)] W λe w'=>e= .returned (.tuple #[env x,.nilIface])/\Ext W w':=by
 obtain⟨t,A,n,c,lp,rp,rfl,hE,a1,a3,nS⟩:=h.box;have M:cnt t=l.length:=by rw[<-hE];rfl
 have J:shw t=(jC l).length:=by rw[<-hE];rfl
 have Y:cnt t<=40000000:=ω
 have hX:Ext W (W.alloc (.cells #[.slice A n c,.pointer lp,.pointer rp,Vi (htT t),Vi (cnt t),Vi (shw t),Vq (loT t),Vq (hiT t)] 63)):=(Ext.refl W).alloc _;have N:=nS (Gb F W) _ (λb hb=> .inl hb) (.inr (am _)) (Ext.refl _);obtain⟨H,j⟩:∃Z,W.alloc (.cells #[.slice A n c,.pointer lp,.pointer rp,Vi (htT t),Vi (cnt t),Vi (shw t),Vq (loT t),Vq (hiT t)] 63)=Z:=⟨_,rfl⟩;obtain⟨f,i⟩:∃z,W.heap.size=z:=⟨_,rfl⟩;have U:H.heap.size=f+1:=by rw[<-j,<-i];simp
 rw[j] at N hX;rw[i] at N;clear nS h;have a2:q<l.length:=(aq.1 hq).1;have g1:decide ((q:Int)<0)=false:=by rw[decide_eq_false_iff_not];omega
 have g2:decide ((cnt t:Int)<=(q:Int))=false:=by rw[decide_eq_false_iff_not];omega
 have g3:decide (cnt t<=q)=false:=by rw[decide_eq_false_iff_not];omega
 have a4:H.cell? ⟨f,4,none⟩=some (Vi (cnt t)):=by obtain⟨_,_,_,_,z,_⟩:=N;exact z.c4
 rw[<-j,<-i] at a4;have x2:Ext H (H.alloc (.cells #[.int .u32 0,.int .u32 0,.int .i32 0,.bool false] 116)):=(Ext.refl H).alloc _;have I:(H.alloc (.cells #[.int .u32 0,.int .u32 0,.int .i32 0,.bool false] 116)).heap[f+1]? =some (.cells #[.int .u32 0,.int .u32 0,.int .i32 0,.bool false] 116 (0,0)):=by rw[<-U];exact aI H _
 obtain⟨W2,u⟩:∃Z,H.alloc (.cells #[.int .u32 0,.int .u32 0,.int .i32 0,.bool false] 116)=Z:=⟨_,rfl⟩;rw[u] at I x2;have K:=ac (Wy t f W2 q x (N.ext x2) Y (by rw[hE];exact hq));clear N;replace u:=ac u;replace j:=ac j;replace i:=ac i;replace M:=ac M;replace J:=ac J;go_enter func123,ntmps123
 go_wp2_with fail
 rw[j.out,u.out,i.out];refine K.out.mono ?_;rintro e w3 ⟨rfl,x3⟩;have a:=(av x3 (f+1) (an.1 I).1).trans I;have k0:=aj w3 (f+1) 0 _ _ _ a;have k1:=aj w3 (f+1) 1 _ _ _ a;have k2:=aj w3 (f+1) 2 _ _ _ a;have k3:=aj w3 (f+1) 3 _ _ _ a;have f0:=aw w3 (f+1) 0 _ _ a;have f1:=aw w3 (f+1) 1 _ _ a;have f2:=aw w3 (f+1) 2 _ _ a;have f3:=aw w3 (f+1) 3 _ _ a;have a0:=(hX.trans x2).trans x3;have X:W.heap.size<=f+1:=by rw[i.out];omega
 have Q:=Ext.st4 a0 X (.int .u32 x.c) (.int .u32 x.k) (.int .i32 x.ch) (.bool x.g);have O:=aa0 a (.int .u32 x.c) (.int .u32 x.k) (.int .i32 x.ch) (.bool x.g);go_wp2;have z0:=aj _ (f+1) 0 _ _ _ O;have z1:=aj _ (f+1) 1 _ _ _ O;have z2:=aj _ (f+1) 2 _ _ _ O;have z3:=aj _ (f+1) 3 _ _ _ O;exact aB (v:= .tuple #[env x,.nilIface]) (by simp[cg,results123,go_sem,z0,z1,z2,z3]) rfl ⟨rfl,Q⟩
theorem aak {p:Prop} (h:p:=by
 replace hcn:=ac hcn;replace hsn:=ac hsn;go_enter func123,ntmps123;go_wp2;exact aB (v:= .tuple #[env zE,lF 3]) (by simp[cg,results123,go_sem,lF]) rfl ⟨rfl,hX2⟩):p:=h
theorem RJ (W:ae) (v:au) (l:List En) (z:Int) (h:Ix F W v l) (hl:l.length<=400000) (hz: -2<=z/\z<=800000) (M:z<0\/(l.length:Int)<=z):aO pg 123 #[v,Vi z] W λe w'=>e= .returned (.tuple #[env zE,lF 3])/\Ext W w':=by
 obtain⟨t,A,n,c,K,H,rfl,N,Q,Y,J⟩:=h.box;have hcn:cnt t=l.length:=by rw[<-N];rfl
 have hsn:shw t=(jC l).length:=by rw[<-N];rfl
 have U:cnt t<=40000000:=ω
 have u:Ext W (W.alloc (.cells #[.slice A n c,.pointer K,.pointer H,Vi (htT t),Vi (cnt t),Vi (shw t),Vq (loT t),Vq (hiT t)] 63)):=(Ext.refl W).alloc _;have j:=J (Gb F W) _ (λb X=> .inl X) (.inr (am _)) (Ext.refl _);obtain⟨i,a⟩:∃Z,W.alloc (.cells #[.slice A n c,.pointer K,.pointer H,Vi (htT t),Vi (cnt t),Vi (shw t),Vq (loT t),Vq (hiT t)] 63)=Z:=⟨_,rfl⟩;obtain⟨I,f⟩:∃z,W.heap.size=z:=⟨_,rfl⟩;have q:i.heap.size=I+1:=by rw[<-a,<-f];simp
 rw[a] at j u;rw[f] at j;clear J h;have a4:i.cell? ⟨I,4,none⟩=some (Vi (cnt t)):=by obtain⟨_,_,_,_,z,_⟩:=j;exact z.c4
 rw[<-a,<-f] at a4;have x2:Ext i (i.alloc (.cells #[.int .u32 0,.int .u32 0,.int .i32 0,.bool false] 116)):=(Ext.refl i).alloc _;have hX2:=u.trans x2;rw[<-a] at hX2;have g:(decide (z<0)=true)\/(decide (z<0)=false/\decide ((cnt t:Int)<=z)=true):=by
  by_cases O:z<0
  ·exact .inl (decide_eq_true O)
  ·exact .inr ⟨decide_eq_false O,decide_eq_true ω⟩
 clear j u a q x2 f;rcases g with g1|⟨g1,g2⟩
 ·clear M
  exact aak
 ·clear M
  exact aak
theorem agz (W:ae) (v:au) (l:List En) (q p:Nat) (h:Ix F W v l) (hl:l.length<=400000) (Y:(jC l)[q]? =some p):aO pg 124 #[v,Vi (q:Int)] W λe w'=>e= .returned (.tuple #[Vi (p:Int),.nilIface])/\Ext W w':=by
 obtain⟨t,A,n,c,X,Q,rfl,N,a1,a3,U⟩:=h.box;have j:cnt t=l.length:=by rw[<-N];rfl
 have i:shw t=(jC l).length:=by rw[<-N];rfl
 have K:cnt t<=40000000:=ω
 have hX:Ext W (W.alloc (.cells #[.slice A n c,.pointer X,.pointer Q,Vi (htT t),Vi (cnt t),Vi (shw t),Vq (loT t),Vq (hiT t)] 63)):=(Ext.refl W).alloc _;have u:=U (Gb F W) _ (λb hb=> .inl hb) (.inr (am _)) (Ext.refl _);obtain⟨O,f⟩:∃Z,W.alloc (.cells #[.slice A n c,.pointer X,.pointer Q,Vi (htT t),Vi (cnt t),Vi (shw t),Vq (loT t),Vq (hiT t)] 63)=Z:=⟨_,rfl⟩;obtain⟨H,a⟩:∃z,W.heap.size=z:=⟨_,rfl⟩;have a0:O.heap.size=H+1:=by rw[<-f,<-a];simp
 rw[f] at u hX;rw[a] at u;clear U h;have a2:q<(jC l).length:=(aq.1 Y).1;have J:=pV l 0;have I:(jC l).length=(jU 0 l).length:=rfl;have g1:decide ((q:Int)<0)=false:=by rw[decide_eq_false_iff_not];omega
 have g2:decide ((shw t:Int)<=(q:Int))=false:=by rw[decide_eq_false_iff_not];omega
 have g3:decide (shw t<=q)=false:=by rw[decide_eq_false_iff_not];omega
 have a5:O.cell? ⟨H,5,none⟩=some (Vi (shw t)):=by obtain⟨_,_,_,_,z,_⟩:=u;exact z.c5
 rw[<-f,<-a] at a5;have M:=ac (aeV t H O q p u K (by rw[N];exact Y));clear u I J;replace f:=ac f;replace a:=ac a;replace j:=ac j;replace i:=ac i;go_enter func124,ntmps124
 go_wp2_with fail
 rw[f.out,a.out];refine M.out.mono ?_;rintro e w3 ⟨rfl,x3⟩;go_wp2;exact aB (v:= .tuple #[Vi p,.nilIface]) (by simp[cg,results124,go_sem]) rfl ⟨rfl,hX.trans x3⟩
theorem Fq (W:ae) (v:au) (l:List En) (c0 k0:Int) (h:Ix F W v l) (hl:l.length<=400000):aO pg 141 #[v,idv c0 k0] W λe w'=>e= .returned (.tuple #[Vi (nY l c0 k0),.bool (nT l c0 k0)])/\Ext W w':=by
 obtain⟨t,A,n,c,Q,M,rfl,K,Y,a0,O⟩:=h.box;have q:cnt t=l.length:=by rw[<-K];rfl
 have j:shw t=(jC l).length:=by rw[<-K];rfl
 have J:cnt t<=40000000:=ω
 have U:Ext W (W.alloc (.cells #[.slice A n c,.pointer Q,.pointer M,Vi (htT t),Vi (cnt t),Vi (shw t),Vq (loT t),Vq (hiT t)] 63)):=(Ext.refl W).alloc _;have I:=O (Gb F W) _ (λb hb=> .inl hb) (.inr (am _)) (Ext.refl _);obtain⟨u,f⟩:∃Z,W.alloc (.cells #[.slice A n c,.pointer Q,.pointer M,Vi (htT t),Vi (cnt t),Vi (shw t),Vq (loT t),Vq (hiT t)] 63)=Z:=⟨_,rfl⟩;obtain⟨N,a⟩:∃z,W.heap.size=z:=⟨_,rfl⟩;have X:u.heap.size=N+1:=by rw[<-f,<-a];simp
 rw[f] at I U;rw[a] at I;clear O h;have x2:Ext u (u.alloc (.cells #[.int .u32 c0,.int .u32 k0] 38)):=(Ext.refl u).alloc _;obtain⟨W2,i⟩:∃Z,u.alloc (.cells #[.int .u32 c0,.int .u32 k0] 38)=Z:=⟨_,rfl⟩;rw[i] at x2;have H:=ZO c0 k0 t N W2 (I.ext x2) J;rw[K] at H;replace H:=ac H;clear I;replace i:=ac i;replace f:=ac f;replace a:=ac a;replace q:=ac q;replace j:=ac j;go_enter func141,ntmps141
 go_wp2_with fail
 rw[f.out,i.out,a.out];refine H.out.mono ?_;rintro e w3 ⟨rfl,x3⟩;go_wp2;exact aB (v:= .tuple #[Vi (nY l c0 k0),.bool (nT l c0 k0)]) (by simp[cg,results141,go_sem]) rfl ⟨rfl,(U.trans x2).trans x3⟩
end
section
variable {F:Nat->Prop} {b:Nat} {w:ae}
theorem E5 {a0 O N M J I z u:au} {T:TypeId} (h:w.heap[b]? =some (.cells #[a0,O,N,M,J,I,z,u] T (0,0))) (a e f i j q H K:au):
  (((((((((w).setCell ⟨b,0,none⟩ a).setCell ⟨b,1,none⟩ e).setCell ⟨b,2,none⟩ f).setCell ⟨b,3,none⟩ i).setCell ⟨b,4,none⟩ j).setCell ⟨b,5,none⟩ q).setCell ⟨b,6,none⟩ H).setCell ⟨b,7,none⟩ K).heap[b]? =some (.cells #[a,e,f,i,j,q,H,K] T (0,0)):=
 by
 have h0:((w).setCell ⟨b,0,none⟩ a).heap[b]? =some (.cells #[a,O,N,M,J,I,z,u] T (0,0)):=al _ _ 0 _ _ _ h;have h1:(((w).setCell ⟨b,0,none⟩ a).setCell ⟨b,1,none⟩ e).heap[b]? =some (.cells #[a,e,N,M,J,I,z,u] T (0,0)):=al _ _ 1 _ _ _ h0;have Z:((((w).setCell ⟨b,0,none⟩ a).setCell ⟨b,1,none⟩ e).setCell ⟨b,2,none⟩ f).heap[b]? =some (.cells #[a,e,f,M,J,I,z,u] T (0,0)):=al _ _ 2 _ _ _ h1;have Y:(((((w).setCell ⟨b,0,none⟩ a).setCell ⟨b,1,none⟩ e).setCell ⟨b,2,none⟩ f).setCell ⟨b,3,none⟩ i).heap[b]? =some (.cells #[a,e,f,i,J,I,z,u] T (0,0)):=al _ _ 3 _ _ _ Z;have X:((((((w).setCell ⟨b,0,none⟩ a).setCell ⟨b,1,none⟩ e).setCell ⟨b,2,none⟩ f).setCell ⟨b,3,none⟩ i).setCell ⟨b,4,none⟩ j).heap[b]? =some (.cells #[a,e,f,i,j,I,z,u] T (0,0)):=al _ _ 4 _ _ _ Y;have W:(((((((w).setCell ⟨b,0,none⟩ a).setCell ⟨b,1,none⟩ e).setCell ⟨b,2,none⟩ f).setCell ⟨b,3,none⟩ i).setCell ⟨b,4,none⟩ j).setCell ⟨b,5,none⟩ q).heap[b]? =some (.cells #[a,e,f,i,j,q,z,u] T (0,0)):=al _ _ 5 _ _ _ X;have U:((((((((w).setCell ⟨b,0,none⟩ a).setCell ⟨b,1,none⟩ e).setCell ⟨b,2,none⟩ f).setCell ⟨b,3,none⟩ i).setCell ⟨b,4,none⟩ j).setCell ⟨b,5,none⟩ q).setCell ⟨b,6,none⟩ H).heap[b]? =some (.cells #[a,e,f,i,j,q,H,u] T (0,0)):=al _ _ 6 _ _ _ W;have Q:(((((((((w).setCell ⟨b,0,none⟩ a).setCell ⟨b,1,none⟩ e).setCell ⟨b,2,none⟩ f).setCell ⟨b,3,none⟩ i).setCell ⟨b,4,none⟩ j).setCell ⟨b,5,none⟩ q).setCell ⟨b,6,none⟩ H).setCell ⟨b,7,none⟩ K).heap[b]? =some (.cells #[a,e,f,i,j,q,H,K] T (0,0)):=al _ _ 7 _ _ _ U;exact Q
theorem y8 {q:Nat} (a:q≠b) (I H z u j i f e:au):(((((((((w).setCell ⟨b,0,none⟩ I).setCell ⟨b,1,none⟩ H).setCell ⟨b,2,none⟩ z).setCell ⟨b,3,none⟩ u).setCell ⟨b,4,none⟩ j).setCell ⟨b,5,none⟩ i).setCell ⟨b,6,none⟩ f).setCell ⟨b,7,none⟩ e).heap[q]? =w.heap[q]? :=by
 rw[aQ _ _ _ _ a,aQ _ _ _ _ a,aQ _ _ _ _ a,aQ _ _ _ _ a,aQ _ _ _ _ a,aQ _ _ _ _ a,aQ _ _ _ _ a,aQ _ _ _ _ a]
theorem Ext.st8 {w0:ae} (h:Ext w0 w) (a:w0.heap.size<=b) (H z u q j i f e:au):Ext w0 (((((((((w).setCell ⟨b,0,none⟩ H).setCell ⟨b,1,none⟩ z).setCell ⟨b,2,none⟩ u).setCell ⟨b,3,none⟩ q).setCell ⟨b,4,none⟩ j).setCell ⟨b,5,none⟩ i).setCell ⟨b,6,none⟩ f).setCell ⟨b,7,none⟩ e):=
 ((((((((h.setCell (p:=⟨b,0,none⟩) a H).setCell (p:=⟨b,1,none⟩) a z).setCell (p:=⟨b,2,none⟩) a u).setCell (p:=⟨b,3,none⟩) a q).setCell (p:=⟨b,4,none⟩) a j).setCell (p:=⟨b,5,none⟩) a i).setCell (p:=⟨b,6,none⟩) a f).setCell (p:=⟨b,7,none⟩) a e)
theorem AtP.form {G:Nat->Prop} {W:ae} {t:Tr} (h:AtP G W b t):∃A n c e a,PtC W b (.slice A n c) (.pointer e) (.pointer a) (htT t) (cnt t) (shw t) (loT t) (hiT t)/\PV G W t (.slice A n c) (.pointer e) (.pointer a):=by
 obtain⟨_,c,l,r,x,v⟩:=h;cases t with
 |leaf l0=>
  obtain⟨rfl,rfl,A,cap,rfl,z,u,j⟩:=v;exact⟨A,l0.length,cap,none,none,x,rfl,rfl,A,cap,rfl,z,u,j⟩
 |node H tb=>
  obtain⟨rfl,p,q,rfl,rfl,i,f⟩:=v.node;exact⟨none,0,0,some ⟨p,0,none⟩,some ⟨q,0,none⟩,x,PV.SY i f⟩
theorem ac1 {G:Nat->Prop} {w3 a:ae} {t:Tr} {l:List En} {A:Option Addr} {n c:Nat} {f e:Option Addr} (hv:PV G w3 t (.slice A n c) (.pointer f) (.pointer e)) (z:ents t=l) (i:t= .leaf []\/okR t)
  (u:∀b,G b->a.heap[b]? =w3.heap[b]?) (q:w3.heap.size<=a.heap.size):Ix (λb=>G b/\b<w3.heap.size) a (.agg #[.slice A n c,.pointer f,.pointer e,Vi (htT t),Vi (cnt t),Vi (shw t),Vq (loT t),Vq (hiT t)]) l:=
 ⟨t,⟨A,n,c,f,e,htT t,cnt t,shw t,loT t,hiT t⟩,rfl,z,i,rfl,rfl,rfl,rfl,rfl,(hv.lt).frame (λb j=>u b j.1),λb j=>Nat.lt_of_lt_of_le j.2 q⟩
theorem Nv (z u q j i f e a:au):(((((((((w).setCell ⟨b,0,none⟩ z).setCell ⟨b,1,none⟩ u).setCell ⟨b,2,none⟩ q).setCell ⟨b,3,none⟩ j).setCell ⟨b,4,none⟩ i).setCell ⟨b,5,none⟩ f).setCell ⟨b,6,none⟩ e).setCell ⟨b,7,none⟩ a).heap.size=w.heap.size:=by simp[World.setCell]
theorem R4 {p:Prop} (h:p:=by
 have:=(PtC.new W (.slice A n c) (.pointer lp) (.pointer rp) (htT t) (cnt t) (shw t) (loT t) (hiT t) 63);rw[hW1,hpb] at this;exact(this.ext x2).ext x3):p:=h
theorem adF (W:ae) (v:au) (l:List En) (p:Nat) (x:En) (h:Ix F W v l) (hl:l.length<=399600) (hp:p<=l.length) (a3:BS l x.c x.k=false):
  aO pg 115 #[v,Vi (p:Int),env x] W λe w'=>∃F' v',e= .returned (.tuple #[v',.nilIface])/\Ix F' w' v' (zY l p x)/\(∀b,F' b->F b\/W.heap.size<=b)/\Ext W w':=by
 obtain⟨G,hG⟩:∃G:Nat->Prop,G=(λb=>F b\/b=W.heap.size\/W.heap.size+3<=b):=⟨_,rfl⟩;have a9:∀b,F b->G b:=λb j=>by rw[hG];exact .inl j
 have a8:G W.heap.size:=by rw[hG];exact .inr (.inl rfl)
 have h':=h;obtain⟨t,A,n,c,lp,rp,rfl,hE,a2,e5,nS⟩:=h.box;have a5:cnt t=l.length:=by rw[<-hE];rfl
 have x1:Ext W (W.alloc (.cells #[.slice A n c,.pointer lp,.pointer rp,Vi (htT t),Vi (cnt t),Vi (shw t),Vq (loT t),Vq (hiT t)] 63)):=(Ext.refl W).alloc _;have hA:=nS G _ a9 a8 (Ext.refl _);obtain⟨Y,hW1⟩:∃Z,W.alloc (.cells #[.slice A n c,.pointer lp,.pointer rp,Vi (htT t),Vi (cnt t),Vi (shw t),Vq (loT t),Vq (hiT t)] 63)=Z:=⟨_,rfl⟩;obtain⟨u,hpb⟩:∃z,W.heap.size=z:=⟨_,rfl⟩;have U:Y.heap.size=u+1:=by rw[<-hW1,<-hpb];simp
 rw[hW1] at hA x1;rw[hpb] at hA;have x2:Ext Y (Y.alloc (.cells #[.int .u32 x.c,.int .u32 x.k,.int .i32 x.ch,.bool x.g] 116)):=(Ext.refl Y).alloc _;have y0:(Y.alloc (.cells #[.int .u32 x.c,.int .u32 x.k,.int .i32 x.ch,.bool x.g] 116)).heap[u+1]? =some (.cells #[.int .u32 x.c,.int .u32 x.k,.int .i32 x.ch,.bool x.g] 116 (0,0)):=by rw[<-U];exact aI Y _
 obtain⟨O,I⟩:∃Z,Y.alloc (.cells #[.int .u32 x.c,.int .u32 x.k,.int .i32 x.ch,.bool x.g] 116)=Z:=⟨_,rfl⟩;have b3:O.heap.size=u+1+1:=by rw[<-I,<-U];simp
 rw[I] at x2 y0;have x3:Ext O (O.alloc (.cells #[.slice none 0 0,.pointer none,.pointer none,Vi 0,Vi 0,Vi 0,Vq 0,Vq 0] 63)):=(Ext.refl O).alloc _;have K:(O.alloc (.cells #[.slice none 0 0,.pointer none,.pointer none,Vi 0,Vi 0,Vi 0,Vq 0,Vq 0] 63)).heap[u+2]? =some (.cells #[.slice none 0 0,.pointer none,.pointer none,Vi 0,Vi 0,Vi 0,Vq 0,Vq 0] 63 (0,0)):=by rw[show u+2=O.heap.size by omega];exact aI O _
 obtain⟨N,H⟩:∃Z,O.alloc (.cells #[.slice none 0 0,.pointer none,.pointer none,Vi 0,Vi 0,Vi 0,Vq 0,Vq 0] 63)=Z:=⟨_,rfl⟩;have b2:N.heap.size=u+3:=by rw[<-H,show u+3=O.heap.size+1 by omega];simp
 rw[H] at x3 K;have a6:=(x1.trans x2).trans x3;have hA:=(hA.ext x2).ext x3;have y3:=(av x3 (u+1) (an.1 y0).1).trans y0;obtain⟨f,J⟩:∃z,u+2=z:=⟨_,rfl⟩;rw[J] at K;have b5:W.heap.size<=f:=ω
 have b9:∀b,G b->b≠f:=λb j e=>by
  rw[hG] at j;rcases j with j|j|j
  ·have:=e5 b j;omega
  ·omega
  ·omega
 have b8:Up G N:=λb j=>by rw[hG];exact .inr (.inr ω)
 have d9:∀b,G b->F b\/W.heap.size<=b:=λb j=>by
  rw[hG] at j;rcases j with j|j|j
  ·exact .inl j
  ·exact .inr ω
  ·exact .inr ω
 have b6:PtC N u (.slice A n c) (.pointer lp) (.pointer rp) (htT t) (cnt t) (shw t) (loT t) (hiT t):=by
  exact R4
 have e0:=aj N (u+1) 0 _ _ _ y3;have e1:=aj N (u+1) 1 _ _ _ y3;have e2:=aj N (u+1) 2 _ _ _ y3;have e3:=aj N (u+1) 3 _ _ _ y3;have g1:decide ((p:Int)<0)=false:=by rw[decide_eq_false_iff_not];omega
 have g2:decide ((cnt t:Int)<(p:Int))=false:=by rw[decide_eq_false_iff_not];omega
 have g3:decide (cnt t<p)=false:=by rw[decide_eq_false_iff_not];omega
 have X:nY l x.c x.k=0/\nT l x.c x.k=false:=by
  have:=zA.2 a3;unfold nY nT;rw[this];exact⟨rfl,rfl⟩
 have M:=Fq N _ l x.c x.k (h'.ext a6) ω;rw[X.1,X.2] at M;replace M:=ac M;have a1:=ac (λZ (hx:Ext N Z)=>Yu x t u p Z (hA.ext hx) (b8.ext hx) a2 ω ω);have O4:ents (og t p x)=zY l p x:=by rw[wN t p x ω,hE]
 have Zk:og t p x= .leaf []\/okR (og t p x):= .inr (xW t p x a2);obtain⟨p0,p1,p2,p3,p4,p5,p6,p7⟩:=b6;clear hA nS h h' X a3 hG a9 a8 x1 x2 x3 y0 U b3 b2 y3;replace hW1:=ac hW1;replace I:=ac I;replace H:=ac H;replace hpb:=ac hpb;replace J:=ac J;replace a5:=ac a5;go_enter func115,ntmps115
 go_wp2_with fail
 rw[hW1.out,hpb.out,I.out,H.out,J.out];refine M.out.mono ?_;rintro e w4 ⟨rfl,x4⟩;have e0:=x4.keep e0;have e1:=x4.keep e1;have e2:=x4.keep e2;have e3:=x4.keep e3;clear p0 p1 p2 p3 p4 p5 p6 p7
 go_wp2_with fail
 refine(a1.out _ x4).mono ?_;rintro e w3 ⟨v3,rfl,⟨q3,rfl,b0⟩,x5⟩;have b7:=(a6.trans x4).trans x5;have a:=(av (x4.trans x5) f (an.1 K).1).trans K;have e4:∀b,(G b/\b<w3.heap.size)->F b\/W.heap.size<=b:=λb j=>d9 b j.1
 obtain⟨i,a7⟩:∃z,og t p x=z:=⟨_,rfl⟩;rw[a7] at b0 O4 Zk;clear a7;obtain⟨A3,n3,c3,l3,r3,⟨d0,d1,d2,d3,d4,d5,d6,d7⟩,a0⟩:=b0.form;have k0:=aj w3 f 0 _ _ _ a;have f0:=aw w3 f 0 _ _ a;have k1:=aj w3 f 1 _ _ _ a;have f1:=aw w3 f 1 _ _ a;have k2:=aj w3 f 2 _ _ _ a;have f2:=aw w3 f 2 _ _ a;have k3:=aj w3 f 3 _ _ _ a;have f3:=aw w3 f 3 _ _ a;have k4:=aj w3 f 4 _ _ _ a;have f4:=aw w3 f 4 _ _ a;have k5:=aj w3 f 5 _ _ _ a;have f5:=aw w3 f 5 _ _ a;have k6:=aj w3 f 6 _ _ _ a;have f6:=aw w3 f 6 _ _ a;have k7:=aj w3 f 7 _ _ _ a;have f7:=aw w3 f 7 _ _ a;have Q:=E5 a (.slice A3 n3 c3) (.pointer l3) (.pointer r3) (Vi (htT i)) (Vi (cnt i)) (Vi (shw i)) (Vq (loT i)) (Vq (hiT i));have b1:=Ext.st8 b7 b5 (.slice A3 n3 c3) (.pointer l3) (.pointer r3) (Vi (htT i)) (Vi (cnt i)) (Vi (shw i)) (Vq (loT i)) (Vq (hiT i));have a4:=λ(q:Nat) (hq:q≠f)=>y8 (w:=w3) hq (.slice A3 n3 c3) (.pointer l3) (.pointer r3) (Vi (htT i)) (Vi (cnt i)) (Vi (shw i)) (Vq (loT i)) (Vq (hiT i))
 have e6:=Nv (w:=w3) (b:=f) (.slice A3 n3 c3) (.pointer l3) (.pointer r3) (Vi (htT i)) (Vi (cnt i)) (Vi (shw i)) (Vq (loT i)) (Vq (hiT i));have b4:=ac (ac1 a0 O4 Zk (λb j=>a4 b (b9 b j)) (Nat.le_of_eq e6.symm));clear a4 a0;go_wp2;have z0:=aj _ f 0 _ _ _ Q;have z1:=aj _ f 1 _ _ _ Q;have z2:=aj _ f 2 _ _ _ Q;have z3:=aj _ f 3 _ _ _ Q;have z4:=aj _ f 4 _ _ _ Q;have z5:=aj _ f 5 _ _ _ Q;have z6:=aj _ f 6 _ _ _ Q;have z7:=aj _ f 7 _ _ _ Q;exact aB (v:= .tuple #[.agg #[.slice A3 n3 c3,.pointer l3,.pointer r3,Vi (htT i),Vi (cnt i),Vi (shw i),Vq (loT i),Vq (hiT i)],.nilIface]) (by simp[cg,results115,go_sem,z0,z1,z2,z3,z4,z5,z6,z7]) rfl ⟨_,_,rfl,b4.out,e4,b1⟩
theorem V5 (W:ae) (v:au) (l:List En) (c0 k0:Int) (h:Ix F W v l) (hl:l.length<=400000) (Q:jY l c0 k0=none):
  aO pg 110 #[v,idv c0 k0] W λe w'=>e= .returned (.tuple #[acR,lF 1])/\Ext W w':=by
 obtain⟨G,hG⟩:∃G:Nat->Prop,G=(λb=>F b\/b=W.heap.size\/W.heap.size+3<=b):=⟨_,rfl⟩;have a0:∀b,F b->G b:=λb hb=>by rw[hG];exact .inl hb
 have Y:G W.heap.size:=by rw[hG];exact .inr (.inl rfl)
 have h':=h;obtain⟨t,A,n,c,lp,rp,rfl,hE,a7,a8,nS⟩:=h.box;have U:cnt t=l.length:=by rw[<-hE];rfl
 have x1:Ext W (W.alloc (.cells #[.slice A n c,.pointer lp,.pointer rp,Vi (htT t),Vi (cnt t),Vi (shw t),Vq (loT t),Vq (hiT t)] 63)):=(Ext.refl W).alloc _;have hA:=nS G _ a0 Y (Ext.refl _);obtain⟨O,hW1⟩:∃Z,W.alloc (.cells #[.slice A n c,.pointer lp,.pointer rp,Vi (htT t),Vi (cnt t),Vi (shw t),Vq (loT t),Vq (hiT t)] 63)=Z:=⟨_,rfl⟩;obtain⟨i,hpb⟩:∃z,W.heap.size=z:=⟨_,rfl⟩;have M:O.heap.size=i+1:=by rw[<-hW1,<-hpb];simp
 rw[hW1] at hA x1;rw[hpb] at hA;have x2:Ext O (O.alloc (.cells #[.int .u32 c0,.int .u32 k0] 38)):=(Ext.refl O).alloc _;have y0:(O.alloc (.cells #[.int .u32 c0,.int .u32 k0] 38)).heap[i+1]? =some (.cells #[.int .u32 c0,.int .u32 k0] 38 (0,0)):=by rw[<-M];exact aI O _
 obtain⟨J,q⟩:∃Z,O.alloc (.cells #[.int .u32 c0,.int .u32 k0] 38)=Z:=⟨_,rfl⟩;have a3:J.heap.size=i+1+1:=by rw[<-q,<-M];simp
 rw[q] at x2 y0;have x3:Ext J (J.alloc (.cells #[.slice none 0 0,.pointer none,.pointer none,Vi 0,Vi 0,Vi 0,Vq 0,Vq 0] 63)):=(Ext.refl J).alloc _;have H:(J.alloc (.cells #[.slice none 0 0,.pointer none,.pointer none,Vi 0,Vi 0,Vi 0,Vq 0,Vq 0] 63)).heap[i+2]? =some (.cells #[.slice none 0 0,.pointer none,.pointer none,Vi 0,Vi 0,Vi 0,Vq 0,Vq 0] 63 (0,0)):=by rw[show i+2=J.heap.size by omega];exact aI J _
 obtain⟨W3,j⟩:∃Z,J.alloc (.cells #[.slice none 0 0,.pointer none,.pointer none,Vi 0,Vi 0,Vi 0,Vq 0,Vq 0] 63)=Z:=⟨_,rfl⟩;have a2:W3.heap.size=i+3:=by rw[<-j,show i+3=J.heap.size+1 by omega];simp
 rw[j] at x3 H;have X:=(x1.trans x2).trans x3;have hA:=(hA.ext x2).ext x3;have y3:=(av x3 (i+1) (an.1 y0).1).trans y0;obtain⟨f,u⟩:∃z,i+2=z:=⟨_,rfl⟩;rw[u] at H;have a4:W.heap.size<=f:=ω
 have a5:PtC W3 i (.slice A n c) (.pointer lp) (.pointer rp) (htT t) (cnt t) (shw t) (loT t) (hiT t):=by
  exact R4
 have e0:=aj W3 (i+1) 0 _ _ _ y3;have e1:=aj W3 (i+1) 1 _ _ _ y3;have N:nY l c0 k0=0/\nT l c0 k0=false:=by
  unfold nY nT;rw[Q];exact⟨rfl,rfl⟩
 have I:=Fq W3 _ l c0 k0 (h'.ext X) ω;rw[N.1,N.2] at I;replace I:=ac I;obtain⟨p0,p1,p2,p3,p4,p5,p6,p7⟩:=a5;clear N Q;clear hA nS h h' hG a0 Y x1 x2 x3 y0 M a3 a2 y3;replace hW1:=ac hW1;replace q:=ac q;replace j:=ac j;replace hpb:=ac hpb;replace u:=ac u;replace U:=ac U;go_enter func110,ntmps110
 go_wp2_with fail
 rw[hW1.out,hpb.out,q.out,j.out,u.out];refine I.out.mono ?_;rintro e w3 ⟨rfl,x4⟩;have a6:=X.trans x4;have a:=(av x4 f (an.1 H).1).trans H;clear p0 p1 p2 p3 p4 p5 p6 p7 e0 e1;have k0:=aj w3 f 0 _ _ _ a;have f0:=aw w3 f 0 _ _ a;have k1:=aj w3 f 1 _ _ _ a;have f1:=aw w3 f 1 _ _ a;have k2:=aj w3 f 2 _ _ _ a;have f2:=aw w3 f 2 _ _ a;have k3:=aj w3 f 3 _ _ _ a;have f3:=aw w3 f 3 _ _ a;have k4:=aj w3 f 4 _ _ _ a;have f4:=aw w3 f 4 _ _ a;have k5:=aj w3 f 5 _ _ _ a;have f5:=aw w3 f 5 _ _ a;have k6:=aj w3 f 6 _ _ _ a;have f6:=aw w3 f 6 _ _ a;have k7:=aj w3 f 7 _ _ _ a;have f7:=aw w3 f 7 _ _ a;have K:=E5 a (.slice none 0 0) (.pointer none) (.pointer none) (Vi 0) (Vi 0) (Vi 0) (Vq 0) (Vq 0);have a1:=Ext.st8 a6 a4 (.slice none 0 0) (.pointer none) (.pointer none) (Vi 0) (Vi 0) (Vi 0) (Vq 0) (Vq 0);go_wp2;have z0:=aj _ f 0 _ _ _ K;have z1:=aj _ f 1 _ _ _ K;have z2:=aj _ f 2 _ _ _ K;have z3:=aj _ f 3 _ _ _ K;have z4:=aj _ f 4 _ _ _ K;have z5:=aj _ f 5 _ _ _ K;have z6:=aj _ f 6 _ _ _ K;have z7:=aj _ f 7 _ _ _ K;exact aB (v:= .tuple #[acR,lF 1]) (by simp[cg,results110,go_sem,lF,z0,z1,z2,z3,z4,z5,z6,z7]) rfl ⟨rfl,a1⟩
theorem abP (W:ae) (v:au) (l:List En) (c0 k0:Int) (q:Nat) (h:Ix F W v l) (hl:l.length<=400000) (a4:apart l=true) (U:jY l c0 k0=some q):
  aO pg 110 #[v,idv c0 k0] W λe w'=>∃F' v',e= .returned (.tuple #[v',.nilIface])/\Ix F' w' v' (EA l c0 k0)/\(∀b,F' b->F b\/W.heap.size<=b)/\Ext W w':=by
 obtain⟨G,hG⟩:∃G:Nat->Prop,G=(λb=>F b\/b=W.heap.size\/W.heap.size+3<=b):=⟨_,rfl⟩;have a8:∀b,F b->G b:=λb j=>by rw[hG];exact .inl j
 have a7:G W.heap.size:=by rw[hG];exact .inr (.inl rfl)
 have h':=h;obtain⟨t,A,n,c,lp,rp,rfl,hE,a1,e3,nS⟩:=h.box;have a3:cnt t=l.length:=by rw[<-hE];rfl
 have x1:Ext W (W.alloc (.cells #[.slice A n c,.pointer lp,.pointer rp,Vi (htT t),Vi (cnt t),Vi (shw t),Vq (loT t),Vq (hiT t)] 63)):=(Ext.refl W).alloc _;have hA:=nS G _ a8 a7 (Ext.refl _);obtain⟨W1,hW1⟩:∃Z,W.alloc (.cells #[.slice A n c,.pointer lp,.pointer rp,Vi (htT t),Vi (cnt t),Vi (shw t),Vq (loT t),Vq (hiT t)] 63)=Z:=⟨_,rfl⟩;obtain⟨u,hpb⟩:∃z,W.heap.size=z:=⟨_,rfl⟩;have Q:W1.heap.size=u+1:=by rw[<-hW1,<-hpb];simp
 rw[hW1] at hA x1;rw[hpb] at hA;have x2:Ext W1 (W1.alloc (.cells #[.int .u32 c0,.int .u32 k0] 38)):=(Ext.refl W1).alloc _;have y0:(W1.alloc (.cells #[.int .u32 c0,.int .u32 k0] 38)).heap[u+1]? =some (.cells #[.int .u32 c0,.int .u32 k0] 38 (0,0)):=by rw[<-Q];exact aI W1 _
 obtain⟨N,I⟩:∃Z,W1.alloc (.cells #[.int .u32 c0,.int .u32 k0] 38)=Z:=⟨_,rfl⟩;have b2:N.heap.size=u+1+1:=by rw[<-I,<-Q];simp
 rw[I] at x2 y0;have x3:Ext N (N.alloc (.cells #[.slice none 0 0,.pointer none,.pointer none,Vi 0,Vi 0,Vi 0,Vq 0,Vq 0] 63)):=(Ext.refl N).alloc _;have K:(N.alloc (.cells #[.slice none 0 0,.pointer none,.pointer none,Vi 0,Vi 0,Vi 0,Vq 0,Vq 0] 63)).heap[u+2]? =some (.cells #[.slice none 0 0,.pointer none,.pointer none,Vi 0,Vi 0,Vi 0,Vq 0,Vq 0] 63 (0,0)):=by rw[show u+2=N.heap.size by omega];exact aI N _
 obtain⟨Y,H⟩:∃Z,N.alloc (.cells #[.slice none 0 0,.pointer none,.pointer none,Vi 0,Vi 0,Vi 0,Vq 0,Vq 0] 63)=Z:=⟨_,rfl⟩;have b1:Y.heap.size=u+3:=by rw[<-H,show u+3=N.heap.size+1 by omega];simp
 rw[H] at x3 K;have a5:=(x1.trans x2).trans x3;have hA:=(hA.ext x2).ext x3;have y3:=(av x3 (u+1) (an.1 y0).1).trans y0;obtain⟨f,J⟩:∃z,u+2=z:=⟨_,rfl⟩;rw[J] at K;have b5:W.heap.size<=f:=ω
 have b9:∀b,G b->b≠f:=λb j e=>by
  rw[hG] at j;rcases j with j|j|j
  ·have:=e3 b j;omega
  ·omega
  ·omega
 have b8:Up G Y:=λb j=>by rw[hG];exact .inr (.inr ω)
 have d9:∀b,G b->F b\/W.heap.size<=b:=λb j=>by
  rw[hG] at j;rcases j with j|j|j
  ·exact .inl j
  ·exact .inr ω
  ·exact .inr ω
 have b6:PtC Y u (.slice A n c) (.pointer lp) (.pointer rp) (htT t) (cnt t) (shw t) (loT t) (hiT t):=by
  exact R4
 have e0:=aj Y (u+1) 0 _ _ _ y3;have e1:=aj Y (u+1) 1 _ _ _ y3;have e5:=TN U;have X:nY l c0 k0=(q:Int)/\nT l c0 k0=true:=by
  unfold nY nT;rw[U];exact⟨rfl,rfl⟩
 have M:=Fq Y _ l c0 k0 (h'.ext a5) ω;rw[X.1,X.2] at M;replace M:=ac M;have b4:=ac (λZ (hx:Ext Y Z)=>Zl t u q Z (hA.ext hx) (b8.ext hx) a1 ω ω);have O4:ents (mO t q)=EA l c0 k0:=by
  obtain⟨y,hy,_⟩:=JZ U;rw[uO,hE,O9 hy,OY a4 U hy]
 have Zk:mO t q= .leaf []\/okR (mO t q):=by
  rcases a1 with h0|h0
  ·subst h0
   have:cnt (.leaf [])=0:=rfl;omega
  ·exact .inr (wB t q h0)
 obtain⟨p0,p1,p2,p3,p4,p5,p6,p7⟩:=b6;clear X a4 U;clear hA nS h h' hG a8 a7 x1 x2 x3 y0 Q b2 b1 y3;replace hW1:=ac hW1;replace I:=ac I;replace H:=ac H;replace hpb:=ac hpb;replace J:=ac J;replace a3:=ac a3;go_enter func110,ntmps110
 go_wp2_with fail
 rw[hW1.out,hpb.out,I.out,H.out,J.out];refine M.out.mono ?_;rintro e w4 ⟨rfl,x4⟩;clear p0 p1 p2 p3 p4 p5 p6 p7 e0 e1
 go_wp2_with fail
 refine(b4.out _ x4).mono ?_;rintro e w3 ⟨v3,rfl,⟨q3,rfl,a9⟩,x5⟩;have b7:=(a5.trans x4).trans x5;have a:=(av (x4.trans x5) f (an.1 K).1).trans K;have e2:∀b,(G b/\b<w3.heap.size)->F b\/W.heap.size<=b:=λb j=>d9 b j.1
 obtain⟨i,a6⟩:∃z,mO t q=z:=⟨_,rfl⟩;rw[a6] at a9 O4 Zk;clear a6;obtain⟨A3,n3,c3,l3,r3,⟨d0,d1,d2,d3,d4,d5,d6,d7⟩,a0⟩:=a9.form;have k0:=aj w3 f 0 _ _ _ a;have f0:=aw w3 f 0 _ _ a;have k1:=aj w3 f 1 _ _ _ a;have f1:=aw w3 f 1 _ _ a;have k2:=aj w3 f 2 _ _ _ a;have f2:=aw w3 f 2 _ _ a;have k3:=aj w3 f 3 _ _ _ a;have f3:=aw w3 f 3 _ _ a;have k4:=aj w3 f 4 _ _ _ a;have f4:=aw w3 f 4 _ _ a;have k5:=aj w3 f 5 _ _ _ a;have f5:=aw w3 f 5 _ _ a;have k6:=aj w3 f 6 _ _ _ a;have f6:=aw w3 f 6 _ _ a;have k7:=aj w3 f 7 _ _ _ a;have f7:=aw w3 f 7 _ _ a;have O:=E5 a (.slice A3 n3 c3) (.pointer l3) (.pointer r3) (Vi (htT i)) (Vi (cnt i)) (Vi (shw i)) (Vq (loT i)) (Vq (hiT i));have b0:=Ext.st8 b7 b5 (.slice A3 n3 c3) (.pointer l3) (.pointer r3) (Vi (htT i)) (Vi (cnt i)) (Vi (shw i)) (Vq (loT i)) (Vq (hiT i));have a2:=λ(q:Nat) (U:q≠f)=>y8 (w:=w3) U (.slice A3 n3 c3) (.pointer l3) (.pointer r3) (Vi (htT i)) (Vi (cnt i)) (Vi (shw i)) (Vq (loT i)) (Vq (hiT i))
 have e4:=Nv (w:=w3) (b:=f) (.slice A3 n3 c3) (.pointer l3) (.pointer r3) (Vi (htT i)) (Vi (cnt i)) (Vi (shw i)) (Vq (loT i)) (Vq (hiT i));have b3:=ac (ac1 a0 O4 Zk (λb j=>a2 b (b9 b j)) (Nat.le_of_eq e4.symm));clear a2 a0;go_wp2;have z0:=aj _ f 0 _ _ _ O;have z1:=aj _ f 1 _ _ _ O;have z2:=aj _ f 2 _ _ _ O;have z3:=aj _ f 3 _ _ _ O;have z4:=aj _ f 4 _ _ _ O;have z5:=aj _ f 5 _ _ _ O;have z6:=aj _ f 6 _ _ _ O;have z7:=aj _ f 7 _ _ _ O;exact aB (v:= .tuple #[.agg #[.slice A3 n3 c3,.pointer l3,.pointer r3,Vi (htT i),Vi (cnt i),Vi (shw i),Vq (loT i),Vq (hiT i)],.nilIface]) (by simp[cg,results110,go_sem,z0,z1,z2,z3,z4,z5,z6,z7]) rfl ⟨_,_,rfl,b3.out,e2,b0⟩
theorem JX {l:List En} {c k:Int} {q:Nat} (h:jY l c k=some q):nY l c k=(q:Int)/\nT l c k=true:=by
 unfold nY nT;rw[h];exact⟨rfl,rfl⟩
end
theorem PV.avoid {F:Nat->Prop} {W:ae} {q:Nat} {T:TypeId} (u:W.heap[q]? =some (.cells #[.slice none 0 0,.pointer none,.pointer none,Vi 0,Vi 0,Vi 0,Vq 0,Vq 0] T (0,0))):
  ∀{t:Tr} {c l r:au},(t= .leaf []\/okR t)->PV F W t c l r->PV (λb=>F b/\b≠q) W t c l r
 | .leaf l,c,lf,rt,_,⟨z,M,A,cap,h3,h4,h5,h6⟩=>⟨z,M,A,cap,h3,h4,h5,λN=>by
   obtain⟨k,o,e,hf⟩:=h6 N;refine⟨k,o,e,hf,λhk=>?_⟩;subst hk;subst e;obtain⟨b',o',x,e,K,hc⟩:=h5.at (k:=0) N;injection e with e;injection e with e1 e2;subst e1;subst e2;have f:=hc.c0;have h8:W.cell? ⟨k,o+0*4,none⟩=(#[.slice none 0 0,.pointer none,.pointer none,Vi 0,Vi 0,Vi 0,Vq 0,Vq 0]:Array au)[o+0*4]? :=by
        simp only[World.cell?,u];rfl
   rw[h8] at f;generalize o+0*4=m at f
   match m,f with
   |0,f=>simp at f
   |1,f=>simp at f
   |2,f=>simp at f
   |3,f=>simp at f
   |4,f=>simp at f
   |5,f=>simp at f
   |6,f=>simp at f
   |7,f=>simp at f
   |m+8,f=>simp at f⟩
 | .node a b,c,lf,rt,i,hv=>by
   have i:okR a/\okR b:=by
        rcases i with h|h
        ·cases h
        ·exact h
   obtain⟨rfl,p,s,rfl,rfl,⟨hp,ca,la,X,I,Q⟩,Z,cb,lb,U,H,O⟩:=hv;have Y:=aj W q 4 _ _ _ u;have j:∀{p:Nat} {t:Tr} {c l r:au} {hh J lo hi:Int},okR t->PtC W p c l r hh (cnt t) J lo hi->p≠q:=by
        intro p t c l r hh J lo hi i K e;subst e;have z:=K.c4;rw[Y] at z;have M:=Lr i;simp at z;omega
   exact⟨rfl,p,s,rfl,rfl,⟨⟨hp,j i.1 I⟩,ca,la,X,I,PV.avoid u (.inr i.1) Q⟩,⟨Z,j i.2 H⟩,cb,lb,U,H,PV.avoid u (.inr i.2) O⟩
theorem Ix.avoid {F:Nat->Prop} {W:ae} {v:au} {l:List En} {q:Nat} {T:TypeId} (h:Ix F W v l) (f:W.heap[q]? =some (.cells #[.slice none 0 0,.pointer none,.pointer none,Vi 0,Vi 0,Vi 0,Vq 0,Vq 0] T (0,0))):Ix (λb=>F b/\b≠q) W v l:=by
 obtain⟨t,x,M,K,e,J,I,H,z,u,j,a⟩:=h;exact⟨t,x,M,K,e,J,I,H,z,u,j.avoid f e,λb i=>a b i.1⟩
def KR (w a b:ae):Prop:=(Ext w a->Ext w b)/\∀(F:Nat->Prop) (v:au) (l:List En),Ix F a v l->∃e:Nat->Prop,(∀b,e b->F b)/\Ix e b v l
end
end Go.Proofs.YtncfhbpejchbfaaGreatDoor

/-
  Lemmas of this seat; no claim.
-/
import Derived.Deep.OwnRows
import Derived.Deep.DeepCutAuto
import Derived.Room.AppendUpon
import Derived.Test.YtncfhbpejchbfaaGreatDoorPNf1
import Derived.Test.YtncfhbpejchbfaaGreatDoorPMl1
import Derived.Test.YtncfhbpejchbfaaGreatDoorPGf1
import Derived.Test.YtncfhbpejchbfaaGreatDoorPSf2
set_option linter.unusedVariables false
set_option linter.unusedSimpArgs false
set_option maxRecDepth 100000
set_option maxHeartbeats 16000000
open Array renaming getElem?_eq_some_iff→an
open Go renaming Calls→aO,Value→au,World→ae,bodyPost_ret→aB,cell_of_row→aj,heap_alloc_new→aI,heap_setCell_same→al,info_parts→dK,madeCells→ff,results→cg,run_underlying→bp
open Go.Builtin renaming append_→dg
open Go.ChangeMaps renaming setBlock→bq
open Go.Instr renaming checkKey→dx,findAsking→dM,findKey→eD,lookup→gY,makeSlice→iT
open Go.IntKind renaming i64→cJ
open Go.IntWalk renaming i64_left→gN
open Go.Lib renaming hid→ac
open Go.MapKept renaming run_getObj_map→df
open Go.Result renaming andThen_ok→dc,andThen→bH
open Go.RowKit.Below renaming block→av
open Go.Sem renaming run_bind→dG
open Go.World renaming cell?_alloc_some→ah
open Go.World.ownsRow renaming lt→bQ
open List renaming cons_append→aJ,getElem?_take→cj,length_append→ag,length_map→fs,length_take→bv,map_cons→bA,take_of_length_le→aU,take_zero→cV
open Nat renaming le_refl→am,zero_add→aW
open Option renaming map_some→gF
open Go.Proofs.Tryz
open Go.Proofs.Tryz renaming prog→pg
namespace Go.Proofs.YtncfhbpejchbfaaGreatDoor
open Go.ChangeShapes Go.WideShapes Go.ChangeAt Go.RowKit Go.Sort
section
attribute [local go_sem] ah
abbrev hgv (x:Hg):au:= .agg #[.int .u32 x.on.1,.int .u32 x.on.2,.bool x.right]
end
section
attribute [local go_sem] ah calm jL jH
end
section
attribute [local go_sem] ah
end
section
def qC (w:ae) (b:Nat) (l:List (I2×au)):Prop:=∃f a,w.heap[b]? =some (.map f a)/\f.toList.map (λe=>(e.key,e.val))=l.map λp=>(idv p.1.1 p.1.2,p.2)
def lkp:List (I2×au)->I2->Option au
 |[],_=>none
 |p::r,a=>if p.1=a then some p.2 else lkp r a
variable {E T:TypeId} {b:Nat} {l:List (I2×au)} {w:ae}
theorem qC.lt (h:qC w b l):b<w.heap.size:=by
 obtain⟨f,e,a,_⟩:=h;exact(an.1 a).1
theorem qC.kept {w':ae} {row:Option Nat} (h:qC w b l) (j:w.grownBy w' row) (a:some b≠row):qC w' b l:=by
 have e:=h.lt;obtain⟨u,f,q,i⟩:=h;exact⟨u,f,(j.block b e a).trans q,i⟩
theorem qC.ext {w':ae} (h:qC w b l) (f:Ext w w'):qC w' b l:=by
 have a:=h.lt;obtain⟨q,e,j,i⟩:=h;exact⟨q,e,(av f b a).trans j,i⟩
theorem qC.made (w:ae):qC (w.alloc (.map #[] 0)) w.heap.size []:=⟨#[],0,(MapKept.heap_alloc w _).1,rfl⟩
theorem BN (a b c d:Int) (W:ae):(Op.equal 38 (.agg #[.int .u32 a,.int .u32 b]) (.agg #[.int .u32 c,.int .u32 d])).run pg W= .ok (decide (a=c/\b=d)) W:=by
 show(Op.equalIn 10000 38 (.agg #[.int .u32 a,.int .u32 b]) (.agg #[.int .u32 c,.int .u32 d])).run pg W=_;by_cases e:a=c
 ·by_cases f:b=d
  ·subst e;subst f;simp[go_sem]
  ·have:(b==d)=false:=by simpa using f
   subst e;simp[go_sem,this,f]
 ·have:(a==c)=false:=by simpa using e
  simp[go_sem,this,e]
theorem Kt (a b:Int) (W:ae):∀(f:List MapEntry) (l:List (I2×au)) (i:Nat),f.map (λe=>(e.key,e.val))=l.map (λp=>(idv p.1.1 p.1.2,p.2))->
  ∃r,(dM 38 (idv a b) f i).run pg W= .ok r W/\r.map (·.2)=lkp l (a,b)
 |[],[],i,_=>⟨none,rfl,rfl⟩
 |[],p::l,i,h=>by simp at h
 |e::f,[],i,h=>by simp at h
 |e::f,p::l,i,h=>by
  obtain⟨⟨c,d⟩,v⟩:=p;simp only[bA,List.cons.injEq,Prod.mk.injEq] at h;obtain⟨⟨q,I⟩,H⟩:=h;by_cases j:c=a/\d=b
  ·obtain⟨rfl,rfl⟩:=j
   refine⟨some (i,e.val),?_,by simp[lkp,I]⟩;unfold dM;simp[q,BN,bH]
  ·have z:decide (a=c/\b=d)=false:=decide_eq_false (λe=>j ⟨e.1.symm,e.2.symm⟩)
   obtain⟨r,u,hv⟩:=Kt a b W f l (i+1) H;refine⟨r,?_,?_⟩
   ·unfold dM
    simp only[dG,q,BN,z,dc];simpa using u
   ·unfold lkp
    rw[if_neg (λe=>j (by injection e with e1 e2;exact⟨e1,e2⟩))];exact hv
theorem TP (a b:Int) (W:ae) (f:List MapEntry) (l:List (I2×au)) (h:f.map (λe=>(e.key,e.val))=l.map (λp=>(idv p.1.1 p.1.2,p.2))):
  ∃r,(eD 38 (idv a b) f).run pg W= .ok r W/\r.map (·.2)=lkp l (a,b):=by
 obtain⟨r,i,hv⟩:=Kt a b W f l 0 h;refine⟨r,?_,hv⟩;unfold eD;simp only[dG,bp underlying38,dc];cases f with
 |nil=>simpa[Instr.findNow,dM] using i
 |cons e f=>simpa[Instr.findNow,Instr.sameNow] using i
theorem BO (e:Bool) (a b:Int) (W:ae):(dx e 10000 38 (idv a b)).run pg W= .ok () W:=by
 have f:∀W:ae,(dx e 9999 30 (.int .u32 a)).run pg W= .ok () W:=λW=>by
  show(dx e (9998+1) _ _).run pg W=_;unfold dx;simp only[dG,bp underlying30,dc];rfl
 have hv:∀W:ae,(dx e 9999 30 (.int .u32 b)).run pg W= .ok () W:=λW=>by
  show(dx e (9998+1) _ _).run pg W=_;unfold dx;simp only[dG,bp underlying30,dc];rfl
 show(dx e (9999+1) _ _).run pg W=_;unfold dx;simp[bp underlying38,go_sem,f,hv]
theorem qC.look (h:qC w b l) (e:pg.underlying T=some (.map 38 E)) (a:I2) (z:au) (u:(zeroValue E).run pg w= .ok z w):
  (gY T (.map (some b)) (.agg #[.int .u32 a.1,.int .u32 a.2]) false).run pg w= .ok ((lkp l a).getD z) w:=by
 obtain⟨q,I,j,H⟩:=h;obtain⟨r,f,hv⟩:=TP a.1 a.2 w q.toList l H;have i:=BO q.isEmpty a.1 a.2 w;rw[<-hv];cases r with
 |none=>simp[gY,bp e,df j,i,f,u,bH]
 |some r=>simp[gY,bp e,df j,i,f,bH]
theorem qC.store (h:qC w b l) (z:pg.underlying T=some (.map 38 E)) (a:I2) (v:au) (hn:lkp l a=none):
  ∃w',(Instr.mapUpdate T (.map (some b)) (.agg #[.int .u32 a.1,.int .u32 a.2]) v).run pg w= .ok () w'/\qC w' b (l++[(a,v)])/\w.grownBy w' (some b):=by
 obtain⟨u,f,j,q⟩:=h;obtain⟨r,H,hv⟩:=TP a.1 a.2 w u.toList l q;rw[hn] at hv;cases r with
 |some r=>cases hv
 |none=>
  have I:=BO false a.1 a.2 w;refine⟨bq w b (.map (u.push ⟨idv a.1 a.2,v,f⟩) (f+1)),by simp[Instr.mapUpdate,bp z,df j,I,H,MapKept.run_setObj_map _ j,bH,bq],⟨_,_,ChangeMaps.heap_setBlock_same j _,?_⟩,⟨rfl,rfl,rfl,by simp[bq],λi _ hi=>ChangeMaps.heap_setBlock_other j _ (λe=>hi (by rw[e]))⟩⟩;simp[q]
theorem YT (a:pg.underlying T=some (.map 38 E)) (n:Int) (W:ae):(Instr.makeMap T (some (.int .i64 n))).run pg W= .ok (.map (some W.heap.size)) (W.alloc (.map #[] 0)):=by
 unfold Instr.makeMap;simp[bp a,asInt,newObj,go_sem,bH];rfl
theorem CP (w:ae) {e:Array Oper} {rest:List Oper} {o:Oper} {x:Act} {Q:Exit->Act->ae->Prop} (I:o.guard=none) (m k v:Operand) (T E:TypeId) (i:o.op=Op.mapUpdate T m k v)
  (z:pg.underlying T=some (.map 38 E)) (b:Nat) (l:List (I2×au)) (hm:x.eval m= .map (some b)) (h:qC w b l) (a c:Int) (val:au) (H:x.eval k= .agg #[.int .u32 a,.int .u32 c]) (hv:x.eval v=val) (hn:lkp l (a,c)=none)
  (J:∀w',qC w' b (l++[((a,c),val)])->w.grownBy w' (some b)->wpList pg e Q rest (x.put o.dst undef) w'):wpList pg e Q (o::rest) x w:=by
 refine wpList_plain I λK j=>?_
 obtain⟨w',f,u,q⟩:=h.store z (a,c) val hn;unfold Oper.wp;simp[execOp,i,hm,H,hv,f,bH];exact j _ _ (J w' u q)
theorem GZ {a:I2}:lkp l a=none↔∀p∈l,p.1≠a:=by
 induction l with
 |nil=>simp[lkp]
 |cons p l ih=>
  rw[lkp]
  split
  ·simp_all
  ·simp_all
end
section
attribute [local go_sem] ah
def zL (x:Nd):List au:=[Vu x.id.1,Vu x.id.2,Vi (x.on:Int),.bool x.right,Vi (x.depth:Int),Vi (x.far:Int)]
theorem tH (p:Nd):(zL p).length=6:=rfl
theorem Z0 (p:Nd):∀u∈zL p,u.oneCell'=true:=by intro u a;simp[zL] at a;rcases a with rfl|rfl|rfl|rfl|rfl|rfl <;> rfl
theorem Tt:(pg.info? 319).map (λi=>(i.zero,i.size,i.bytes))=some (some (.agg #[.int .u32 0,.int .u32 0,.int .i64 0,.bool false,.int .i64 0,.int .i64 0]),6,40):=κ
def NdS (w:ae) (A:Option Addr) (l:List Nd):Prop:=Row w A (flat zL l)
theorem NdS.ext {w w':ae} {A:Option Addr} {l:List Nd} (h:NdS w A l) (a:Ext w w'):NdS w' A l:=Row.ext h a
structure NdC (w:ae) (b o:Nat) (x:Nd):Prop where
 c0:w.cell? ⟨b,o,none⟩=some (Vu x.id.1)
 c1:w.cell? ⟨b,o+1,none⟩=some (Vu x.id.2)
 c2:w.cell? ⟨b,o+2,none⟩=some (Vi (x.on:Int))
 c3:w.cell? ⟨b,o+3,none⟩=some (.bool x.right)
 c4:w.cell? ⟨b,o+4,none⟩=some (Vi (x.depth:Int))
 c5:w.cell? ⟨b,o+5,none⟩=some (Vi (x.far:Int))
theorem NdC.ext {w w':ae} {b o:Nat} {x:Nd} (h:NdC w b o x) (a:Ext w w'):NdC w' b o x:=⟨a.keep h.c0,a.keep h.c1,a.keep h.c2,a.keep h.c3,a.keep h.c4,a.keep h.c5⟩
theorem NdS.at {w:ae} {b o:Nat} {l:List Nd} (h:NdS w (some ⟨b,o,none⟩) l) {k:Nat} {x:Nd} (f:l[k]? =some x):NdC w b (o+k*6) x:=by
 obtain⟨j,i,e,a⟩:=Row.at h tH f ω;injection e with e;injection e with e1 e2 e3;subst e1;subst e2;exact⟨a 0 _ rfl,a 1 _ rfl,a 2 _ rfl,a 3 _ rfl,a 4 _ rfl,a 5 _ rfl⟩
def Lu (k:Nat):List It->List (I2×au)
 |[]=>[]
 |x::l=>(iid x,.int .i64 (k:Int))::Lu (k+1) l
def Dt (l:List It):List (I2×au):=Lu 1 l
theorem Ju (x:It):∀(l:List It) (k:Nat),Lu k (l++[x])=Lu k l++[(iid x,.int .i64 ((k+l.length:Nat):Int))]
 |[],k=>by simp[Lu]
 |y::l,k=>by
  rw[aJ,Lu,Lu,Ju x l,aJ,List.length_cons,show k+1+l.length=k+(l.length+1) by omega]
theorem U9 (l:List It) (x:It):Dt (l++[x])=Dt l++[((x.c,x.k),.int .i64 ((l.length+1:Nat):Int))]:=by
 unfold Dt;rw[Ju,Nat.add_comm];rfl
theorem Gy (a:I2):∀(l:List It) (k:Nat),lkp (Lu k l) a=(fnd l a).map λi=> .int .i64 ((k+i:Nat):Int)
 |[],k=>rfl
 |y::l,k=>by
  rw[Lu,lkp,fnd,Gy a l];by_cases h:iid y=a
  ·simp[h]
  ·simp only[h,if_false]
   cases fnd l a with
   |none=>rfl
   |some i=>simp only[gF,show k+1+i=k+(i+1) by omega]
theorem YF (l:List It) (a:I2):(lkp (Dt l) a).getD (.int .i64 0)= .int .i64 (qj l a:Int):=by
 unfold Dt qj;rw[Gy];cases fnd l a with
 |none=>rfl
 |some i=>simp only[gF,Option.getD_some,Nat.add_comm]
theorem Va {l:List It} {a:I2} (h:jw l a=false):lkp (Dt l) a=none:=by
 unfold Dt;rw[Gy,rM.2 h];rfl
theorem aff (w:ae):(zeroValue 3).run pg w= .ok (.int .i64 0) w:=κ
theorem qC.num {w:ae} {b:Nat} {l:List It} (h:qC w b (Dt l)) (a c:Int):(gY 314 (.map (some b)) (.agg #[.int .u32 a,.int .u32 c]) false).run pg w= .ok (.int .i64 (qj l (a,c):Int)) w:=by
 have:=h.look underlying314 (a,c) (.int .i64 0) (aff w);rw[YF] at this;exact this
structure GrS (W:ae) (g:Nat) (l:List It) (ns:List Nd):Prop where
 ok:GrN l ns
 kn:jy l=true
 cells:∃b o cap mb,W.cell? ⟨g,0,none⟩=some (.slice (some ⟨b,o,none⟩) (l.length+1) cap)/\W.cell? ⟨g,1,none⟩=some (.map (some mb))/\l.length+1<=cap/\NdS W (some ⟨b,o,none⟩) ns/\qC W mb (Dt l)
theorem GrS.ext {W W':ae} {g:Nat} {l:List It} {e:List Nd} (h:GrS W g l e) (a:Ext W W'):GrS W' g l e:=by
 obtain⟨b,o,cap,f,z,u,q,j,i⟩:=h.cells;exact⟨h.ok,h.kn,b,o,cap,f,a.keep z,a.keep u,q,j.ext a,i.ext a⟩
structure GrT (W:ae) (g:Nat) (l:List It) (ns:List Nd):Prop where
 ok:GrN l ns
 kn:jy l=true
 cells:∃b o cap,W.cell? ⟨g,0,none⟩=some (.slice (some ⟨b,o,none⟩) (l.length+1) cap)/\l.length+1<=cap/\NdS W (some ⟨b,o,none⟩) ns
theorem Np {P q:Pth} {d:Nat} (h:d<=P.length):(P++q).take d=P.take d:=by
 rw[List.take_append,show d-P.length=0 by omega,cV,List.append_nil]
theorem XA (g:Nat) (l:List It) (ns:List Nd) (n d:Nat) (w:ae) (h:GrS w g l ns) (hn:n<=l.length) (hd:d<=(ny l n).length) (hb:l.length<=1000000000000000):
  aO pg 208 #[.pointer (some ⟨g,0,none⟩),Vi (n:Int),Vi (d:Int)] w λe w'=>∃m:Nat,e= .returned (Vi (m:Int))/\m<=l.length/\ny l m=(ny l n).take d/\Ext w w':=by
 obtain⟨b,o,cap,mb,g0,g1,U,Y,hM⟩:=h.cells;have f:=ac h.ok;replace Y:=ac Y;have a0:=ac hd;obtain⟨N,u⟩:∃N,l.length+1=N:=⟨_,rfl⟩;rw[u] at g0;replace u:=ac u;clear h hM g1 U hd;go_enter func208,ntmps208;go_wp2
 go_loopw [1,7] (λi _ W=>∃(m:Nat),m<=l.length/\i=Vi (m:Int)/\Hid (d<=(ny l m).length/\(ny l m).take d=(ny l n).take d)/\W=w) (λi _ _=>(ny l (intOf i).toNat).length)
 case atStart=>exact⟨n,hn,rfl,ac ⟨a0.out,rfl⟩,rfl⟩
 case round=>
  obtain⟨m,hm,rfl,J,rfl⟩:=hrel;obtain⟨nd,a⟩:=f.out.get hm;obtain⟨K,d2,d3,q,X,d5⟩:=f.out.deep m nd a;have Z:=f.out.up m nd a;have a5:(0:Int)<=(m:Int):=ω
  have a4:(m:Int)<(N:Int):=by have:=u.out;omega
  obtain⟨c0,c1,c2,c3,c4,c5⟩:=Y.out.at a;by_cases j:d<nd.depth
  ·have Q:(d:Int)<(nd.depth:Int):=ω
   have O:0<m:=by
        rcases Nat.eq_zero_or_pos m with e|e
        ·subst e;rw[K] at j;simp[ze] at j
        ·exact e
   obtain⟨fd,H⟩:=f.out.get d3;obtain⟨f1,_⟩:=f.out.deep _ _ H;obtain⟨_,_,_,_,e4,_⟩:=Y.out.at H;have a3:(0:Int)<=(nd.far:Int):=ω
   have a2:(nd.far:Int)<(N:Int):=by have:=u.out;omega
   by_cases h2:d<=fd.depth
   ·have a1:(d:Int)<=(fd.depth:Int):=ω
    have M:=ac (show d<=(ny l nd.far).length/\(ny l nd.far).take d=(ny l n).take d by
     refine⟨ω,?_⟩;rw[<-J.out.2,X,Np ω])
    have I:=ac (show(ny l nd.far).length<(ny l m).length by
     rw[X,ag];have:=List.length_pos_iff.2 (d5 O);omega)
    clear J K X d5 Z f1 a H j h2;go_wp2
    go_roundw
    case rel=>exact⟨nd.far,d3,rfl,M,trivial⟩
    case measure=>simpa[intOf] using I.out
   ·have a1:¬(d:Int)<=(fd.depth:Int):=ω
    have z:=Z O;have M:=ac (show d<=(ny l nd.on).length/\(ny l nd.on).take d=(ny l n).take d by
     have:d<=(ny l nd.on).length:=by
      rw[z] at K;simp at K;omega
     refine⟨this,?_⟩;rw[<-J.out.2,z,Np this])
    have I:=ac (show(ny l nd.on).length<(ny l m).length by
     rw[z,ag];simp)
    clear J K X d5 Z f1 a H j h2 z;go_wp2
    go_roundw
    case rel=>exact⟨nd.on,d2,rfl,M,trivial⟩
    case measure=>simpa[intOf] using I.out
  ·have Q:¬(d:Int)<(nd.depth:Int):=ω
   have M:=ac (show ny l m=(ny l n).take d by
        rw[<-J.out.2,aU ω])
   clear J K X d5 Z a j;go_wp2;go_ret;exact⟨m,rfl,hm,M.out,Ext.refl _⟩
theorem CU {n:Int} (e: -9223372036854775808<=n) (a:n<=9223372036854775807):wrap64 n=n:=by rw[<-gN];exact IntWalk.i64_in n ⟨e,a⟩
theorem Pz (g:Nat) (l:List It) (J:List Nd) (n:Nat) (w:ae) (h:GrT w g l J) (hn:n<=l.length) (hb:l.length<=1000000000000000):
  aO pg 218 #[.pointer (some ⟨g,0,none⟩),Vi (n:Int)] w λe w'=>e= .returned (Vi (RG J n:Int))/\Ext w w':=by
 obtain⟨b,o,cap,g0,H,I⟩:=h.cells;have f:=h.ok;obtain⟨N,M⟩:∃N,l.length+1=N:=⟨_,rfl⟩;rw[M] at g0;obtain⟨nd,i⟩:=f.get hn;obtain⟨d1,d2,Q,_⟩:=f.deep n nd i;obtain⟨a,j⟩:=f.get Q;obtain⟨f1,f2,O,_⟩:=f.deep _ a j;obtain⟨z,q⟩:=f.get O;obtain⟨e1,_⟩:=f.deep _ z q;have b1:=wO h.kn hn;have b2:=wO h.kn Q;have b3:=wO h.kn O;obtain⟨c0,c1,c2,c3,c4,c5⟩:=I.at i;obtain⟨k0,k1,k2,k3,k4,k5⟩:=I.at j;obtain⟨m0,m1,m2,m3,m4,m5⟩:=I.at q;have a1:(0:Int)<=(n:Int):=ω
 have a0:(n:Int)<(N:Int):=ω
 have Z:(0:Int)<=(nd.far:Int):=ω
 have Y:(nd.far:Int)<(N:Int):=ω
 have X:(0:Int)<=(a.far:Int):=ω
 have W:(a.far:Int)<(N:Int):=ω
 have U:RG J n=if((nd.depth:Int)-a.depth=(a.depth:Int)-z.depth) then a.far else n:=by
  unfold RG;simp only[BU i,BU j,BU q]
 have z1:wrap64 ((nd.depth:Int)-a.depth)=(nd.depth:Int)-a.depth:=CU ω ω;have z2:wrap64 ((a.depth:Int)-z.depth)=(a.depth:Int)-z.depth:=CU ω ω;rw[U];clear U d1 d2 Q f1 f2 O e1 I f i j q h H b1 b2 b3 hn;by_cases u:(nd.depth:Int)-a.depth=(a.depth:Int)-z.depth
 ·rw[if_pos u]
  have K:((nd.depth:Int)-a.depth==(a.depth:Int)-z.depth)=true:=by rw[beq_iff_eq];exact u
  replace u:=ac u;go_enter func218,ntmps218;go_wp2
  go_quiet(fail)
  go_wp2;go_ret;exact⟨rfl,(Ext.refl _).drewN _⟩
 ·rw[if_neg u]
  have K:((nd.depth:Int)-a.depth==(a.depth:Int)-z.depth)=false:=by rw[beq_eq_false_iff_ne];exact u
  replace u:=ac u;go_enter func218,ntmps218;go_wp2
  go_quiet(fail)
  go_wp2;go_ret;exact⟨rfl,(Ext.refl _).drewN _⟩
theorem adM {l:List It} (h:jy l=true) {m:Nat} {b:I2} (hm:m<=l.length) (q:jw l b=true) (e:ny l m=pth l b):m=qj l b:=by
 obtain⟨K,M,I,_⟩:=kN h b q;obtain⟨i,hi⟩:=Cc q;rw[Ta hi];cases m with
 |zero=>rw[ze,I] at e;simp at e
 |succ j=>
  obtain⟨y,f⟩:∃y,l[j]? =some y:=⟨l[j],List.getElem?_eq_getElem ω⟩;rw[zf f] at e;have a:jw l (iid y)=true:=jO.2 ⟨y,List.mem_of_getElem? f,rfl⟩;have J:=Fb h a q e;obtain⟨z,u,H⟩:=tF hi;rw[Tz h f u (J.trans H.symm)]
theorem Kq (g:Nat) (l:List It) (ns:List Nd) (j i f a:Int) (w:ae) (h:GrS w g l ns) (ha:jw l (j,i)=true) (X:jw l (f,a)=true) (hb:l.length<=1000000000000000):
  aO pg 176 #[.pointer (some ⟨g,0,none⟩),idv j i,idv f a] w λe w'=>e= .returned (.bool (pQ l (paths l) (j,i) (f,a)))/\Ext w w':=by
 rw[yP h.kn ha X];have Y:=h;obtain⟨b,o,cap,mb,g0,g1,a7,hN,hM⟩:=h.cells;have u:=h.ok;obtain⟨N,b0⟩:∃N,l.length+1=N:=⟨_,rfl⟩;rw[b0] at g0;have a8:=ac (λW (hW:Ext w W)=>(hM.ext hW).num j i);have I:=ac (λW (hW:Ext w W)=>(hM.ext hW).num f a);have O:=BG l (j,i);have a4:=BG l (f,a);obtain⟨nd,M⟩:=u.get O;obtain⟨d1,_⟩:=u.deep _ nd M;obtain⟨H,K⟩:=u.get a4;obtain⟨t1,_⟩:=u.deep _ H K;rw[xX Y.kn] at d1 t1;rw[<-d1,<-t1];have J:=ac (λW (hW:Ext w W) (hd:H.depth<=nd.depth)=>XA g l ns (qj l (j,i)) H.depth W (Y.ext hW) O (by rw[xX Y.kn,<-d1];exact hd) hb);have z:=ac (λ(m:Nat) (hm:m<=l.length) (e:ny l m=(ny l (qj l (j,i))).take H.depth)=>show decide ((m:Int)=(qj l (f,a):Int))=decide ((pth l (j,i)).take H.depth=pth l (f,a)) by
  rw[xX Y.kn] at e;rw[<-e];by_cases hc:ny l m=pth l (f,a)
  ·rw[decide_eq_true hc,adM Y.kn hm X hc];simp
  ·rw[decide_eq_false hc,decide_eq_false]
   intro e2;have e3:m=qj l (f,a):=ω
   exact hc (by rw[e3,xX Y.kn]))
 have b6:(0:Int)<=(qj l (j,i):Int):=ω
 have b5:(qj l (j,i):Int)<(N:Int):=ω
 have b4:(0:Int)<=(qj l (f,a):Int):=ω
 have b3:(qj l (f,a):Int)<(N:Int):=ω
 have a5:=ac (hN.at M);have Z:=ac (hN.at K);clear hN hM u M K d1 t1 O a4 h Y a7 ha X hb;generalize pth l (j,i)=P at*;generalize pth l (f,a)=Q at*;generalize qj l (j,i)=na at*;generalize qj l (f,a)=nb at*;have x0:=((Ext.refl w).alloc (.cells #[.int .u32 j,.int .u32 i] 38)).alloc (.cells #[.int .u32 f,.int .u32 a] 38);have q0:=x0.keep g0;have q1:=x0.keep g1;obtain⟨c0,c1,c2,c3,c4,c5⟩:=a5.out.ext x0;obtain⟨e0,e1,e2,e3,e4,e5⟩:=Z.out.ext x0;have l1:=λk=>a8.out (World.drewN ((w.alloc (.cells #[.int .u32 j,.int .u32 i] 38)).alloc (.cells #[.int .u32 f,.int .u32 a] 38)) k) (x0.drewN k)
 have l2:=λk=>I.out (World.drewN ((w.alloc (.cells #[.int .u32 j,.int .u32 i] 38)).alloc (.cells #[.int .u32 f,.int .u32 a] 38)) k) (x0.drewN k)
 have a0:((w.alloc (.cells #[.int .u32 j,.int .u32 i] 38)).alloc (.cells #[.int .u32 f,.int .u32 a] 38)).cell? ⟨w.heap.size,0,none⟩=some (Vu j):=σ
 have b9:((w.alloc (.cells #[.int .u32 j,.int .u32 i] 38)).alloc (.cells #[.int .u32 f,.int .u32 a] 38)).cell? ⟨w.heap.size,1,none⟩=some (Vu i):=σ
 have b8:((w.alloc (.cells #[.int .u32 j,.int .u32 i] 38)).alloc (.cells #[.int .u32 f,.int .u32 a] 38)).cell? ⟨w.heap.size+1,0,none⟩=some (Vu f):=σ
 have b7:((w.alloc (.cells #[.int .u32 j,.int .u32 i] 38)).alloc (.cells #[.int .u32 f,.int .u32 a] 38)).cell? ⟨w.heap.size+1,1,none⟩=some (Vu a):=σ
 have hE:=ac x0;clear g0 g1 x0 a8 I a5 Z;by_cases q:H.depth<nd.depth
 ·have a6:¬(nd.depth:Int)<=(H.depth:Int):=ω
  have U:H.depth<=nd.depth:=ω
  rw[decide_eq_true q,Bool.true_and];obtain⟨B,hB⟩:∃B,decide (P.take H.depth=Q)=B:=⟨_,rfl⟩;rw[hB];replace hB:=ac hB;replace q:=ac q;replace U:=ac U;go_enter func176,ntmps176;go_wp2;generalize(w.alloc (.cells #[.int .u32 j,.int .u32 i] 38)).alloc (.cells #[.int .u32 f,.int .u32 a] 38)=w0 at*;generalize w.heap.size=pa at*
  go_quiet(fail)
  go_wp2
  go_quiet(fail)
  go_wp2_with fail
  refine(J.out _ (hE.out.drewN _) U.out).mono ?_;rintro e w1 ⟨m,rfl,hm,a3,x1⟩;have hq:=z.out m hm a3;have xe:=ac ((hE.out.drewN _).trans x1);rw[hB.out] at hq;clear x1 a3 hm J z hB;cases B with
  |true=>
   have a9:((m:Int)==(nb:Int))=true:=by simpa using hq
   go_wp2;go_ret;exact⟨rfl,xe.out⟩
  |false=>
   have a9:((m:Int)==(nb:Int))=false:=by simpa using hq
   go_wp2;go_ret;exact⟨rfl,xe.out⟩
 ·have a6:(nd.depth:Int)<=(H.depth:Int):=ω
  rw[decide_eq_false q,Bool.false_and];replace q:=ac q;clear J z;go_enter func176,ntmps176;go_wp2;generalize(w.alloc (.cells #[.int .u32 j,.int .u32 i] 38)).alloc (.cells #[.int .u32 f,.int .u32 a] 38)=w0 at*;generalize w.heap.size=pa at*
  go_quiet(fail)
  go_wp2
  go_quiet(fail)
  go_wp2;go_ret;exact⟨rfl,by first|exact hE.out.drewN _|exact(hE.out.drewN _).drewN _⟩
section
def vg (W:ae) (q:Nat) (x:Hg):Prop:=W.heap[q]? =some (.cells #[Vu x.on.1,Vu x.on.2,.bool x.right] 263 (0,0))
variable {W:ae} {l:List It} {p:Prop} {q:Nat} {x:Hg}
theorem vg.ext {W':ae} (h:vg W q x) (a:Ext W W'):vg W' q x:=by
 unfold vg at h⊢;rw[av a q (an.1 h).1];exact h
theorem vg.store (h:vg W q x) (a b:Int) (r:Bool):vg (((W.setCell ⟨q,0,none⟩ (Vu a)).setCell ⟨q,1,none⟩ (Vu b)).setCell ⟨q,2,none⟩ (.bool r)) q ⟨(a,b),r⟩:=
 al _ _ 2 _ _ _ (al _ _ 1 _ _ _ (al _ _ 0 _ _ _ h))
theorem vg.cells (h:vg W q x):W.cell? ⟨q,0,none⟩=some (Vu x.on.1)/\W.cell? ⟨q,1,none⟩=some (Vu x.on.2)/\W.cell? ⟨q,2,none⟩=some (.bool x.right):=
 ⟨by rw[aj W q 0 _ _ _ h];rfl,by rw[aj W q 1 _ _ _ h];rfl,by rw[aj W q 2 _ _ _ h];rfl⟩
theorem vg.thaw (h:vg W q x) (o:Nat):W.frozen? ⟨q,o,none⟩=false:=frozen_of_row W q o _ _ h
theorem vg.new (W:ae) (a b:Int) (r:Bool):vg (W.alloc (.cells #[.int .u32 a,.int .u32 b,.bool r] 263)) W.heap.size ⟨(a,b),r⟩:=aI W _
theorem Zp {x:It} (a:x.rc=0):hgP l x=if x.lc=0 then⟨(0,0),true⟩ else⟨(x.lc,x.lk),true⟩:=by
 unfold hgP Dk;rw[if_neg (λe=>e.1 a)]
 split <;> rfl
theorem Zq {x:It} (a:x.rc≠0) (e:x.lc=0):hgP l x=⟨(x.rc,x.rk),false⟩:=by
 unfold hgP Dk;rw[if_pos ⟨a,by unfold pQ ilf;simp[e]⟩];rfl
theorem Zr {x:It} (f:x.rc≠0) (i:x.lc≠0):hgP l x=if pQ l (paths l) (irt x) (ilf x)=true then⟨(x.rc,x.rk),false⟩ else⟨(x.lc,x.lk),true⟩:=by
 unfold hgP Dk;by_cases a:pQ l (paths l) (irt x) (ilf x)=true
 ·rw[if_pos ⟨f,a⟩,if_pos a];rfl
 ·rw[if_neg (λe=>a e.2),if_neg a,if_neg i];rfl
theorem Iq (h:p:=by
 have:=vg.new (w.alloc (.cells #[.int .u32 x.c,.int .u32 x.k,.int .u32 x.lc,.int .u32 x.lk,.int .u32 x.rc,.int .u32 x.rk,.int .i32 x.ch] 106)) 0 0 false;rw[show(w.alloc (.cells #[.int .u32 x.c,.int .u32 x.k,.int .u32 x.lc,.int .u32 x.lk,.int .u32 x.rc,.int .u32 x.rk,.int .i32 x.ch] 106)).heap.size=w.heap.size+1 by simp] at this;exact this.ext x1):p:=h
theorem aam (h:p:=by
 obtain⟨k0,k1,k2⟩:=b0.out.cells;have f0:=b0.out.thaw 0;have f1:=b0.out.thaw 1;have f2:=b0.out.thaw 2;obtain⟨z0,z1,z2⟩:=(b0.out.store x.rc x.rk false).cells;go_wp2;exact aB (v:=hgv ⟨(x.rc,x.rk),false⟩) (by simp[cg,results173,go_sem,z0,z1,z2]) rfl ⟨by rw[hR.out],((xw.setCell hwb _).setCell hwb _).setCell hwb _⟩):p:=h
theorem aan (h:p:=by
 obtain⟨R,hR⟩:∃R,hgP l x=R:=⟨_,rfl⟩;rw[hR];by_cases e0:x.rc=0
 ·have g0:(x.rc==0)=true:=by simpa using e0
  rw[Zp e0] at hR;by_cases e1:x.lc=0
  ·have g1:(x.lc==0)=true:=by simpa using e1
   rw[if_pos e1] at hR;replace hR:=ac hR.symm;clear e0 e1 hcall;go_enter func173,ntmps173
   go_wp2_with fail
   refine(lN _ _ _).mono ?_;rintro e w1 ⟨rfl,x1⟩;have b0:vg w1 (w.heap.size+1) ⟨(0,0),false⟩:=by
        exact Iq
   have a2:=x1.keep (p:=⟨w.heap.size,2,none⟩) (v:=Vu x.lc) σ;have a3:=x1.keep (p:=⟨w.heap.size,3,none⟩) (v:=Vu x.lk) σ;have a4:=x1.keep (p:=⟨w.heap.size,4,none⟩) (v:=Vu x.rc) σ;have a5:=x1.keep (p:=⟨w.heap.size,5,none⟩) (v:=Vu x.rk) σ;have xw:Ext w w1:=(((Ext.refl _).alloc _).alloc _).trans x1;clear x1;have hwb:w.heap.size<=w.heap.size+1:=ω
   obtain⟨pb,hpb⟩:∃pb,w.heap.size+1=pb:=⟨_,rfl⟩;obtain⟨pa,hpa⟩:∃pa,w.heap.size=pa:=⟨_,rfl⟩;rw[hpb] at b0 hwb⊢;rw[hpa] at a2 a3 a4 a5⊢;clear hpa hpb;replace b0:=ac b0
   go_wp2_with fail
   refine(lN _ _ _).mono ?_;rintro e w2 ⟨rfl,x2⟩;replace xw:=xw.trans x2;replace b0:=ac (b0.out.ext x2);replace a2:=x2.keep a2;replace a3:=x2.keep a3;replace a4:=x2.keep a4;replace a5:=x2.keep a5;clear x2;obtain⟨k0,k1,k2⟩:=b0.out.cells;have f0:=b0.out.thaw 0;have f1:=b0.out.thaw 1;have f2:=b0.out.thaw 2;obtain⟨z0,z1,z2⟩:=(b0.out.store 0 0 true).cells;go_wp2;exact aB (v:=hgv ⟨(0,0),true⟩) (by simp[cg,results173,go_sem,z0,z1,z2]) rfl ⟨by rw[hR.out],((xw.setCell hwb _).setCell hwb _).setCell hwb _⟩
  ·have g1:(x.lc==0)=false:=by simpa using e1
   rw[if_neg e1] at hR;replace hR:=ac hR.symm;clear e0 e1 hcall;go_enter func173,ntmps173
   go_wp2_with fail
   refine(lN _ _ _).mono ?_;rintro e w1 ⟨rfl,x1⟩;have b0:vg w1 (w.heap.size+1) ⟨(0,0),false⟩:=by
        exact Iq
   have a2:=x1.keep (p:=⟨w.heap.size,2,none⟩) (v:=Vu x.lc) σ;have a3:=x1.keep (p:=⟨w.heap.size,3,none⟩) (v:=Vu x.lk) σ;have a4:=x1.keep (p:=⟨w.heap.size,4,none⟩) (v:=Vu x.rc) σ;have a5:=x1.keep (p:=⟨w.heap.size,5,none⟩) (v:=Vu x.rk) σ;have xw:Ext w w1:=(((Ext.refl _).alloc _).alloc _).trans x1;clear x1;have hwb:w.heap.size<=w.heap.size+1:=ω
   obtain⟨pb,hpb⟩:∃pb,w.heap.size+1=pb:=⟨_,rfl⟩;obtain⟨pa,hpa⟩:∃pa,w.heap.size=pa:=⟨_,rfl⟩;rw[hpb] at b0 hwb⊢;rw[hpa] at a2 a3 a4 a5⊢;clear hpa hpb;replace b0:=ac b0
   go_wp2_with fail
   refine(lN _ _ _).mono ?_;rintro e w2 ⟨rfl,x2⟩;replace xw:=xw.trans x2;replace b0:=ac (b0.out.ext x2);replace a2:=x2.keep a2;replace a3:=x2.keep a3;replace a4:=x2.keep a4;replace a5:=x2.keep a5;clear x2;obtain⟨k0,k1,k2⟩:=b0.out.cells;have f0:=b0.out.thaw 0;have f1:=b0.out.thaw 1;have f2:=b0.out.thaw 2;obtain⟨z0,z1,z2⟩:=(b0.out.store x.lc x.lk true).cells;go_wp2;exact aB (v:=hgv ⟨(x.lc,x.lk),true⟩) (by simp[cg,results173,go_sem,z0,z1,z2]) rfl ⟨by rw[hR.out],((xw.setCell hwb _).setCell hwb _).setCell hwb _⟩
 ·have g0:(x.rc==0)=false:=by simpa using e0
  by_cases e1:x.lc=0
  ·have g1:(x.lc==0)=true:=by simpa using e1
   rw[Zq e0 e1] at hR;replace hR:=ac hR.symm;clear e0 e1 hcall;go_enter func173,ntmps173
   go_wp2_with fail
   refine(lN _ _ _).mono ?_;rintro e w1 ⟨rfl,x1⟩;have b0:vg w1 (w.heap.size+1) ⟨(0,0),false⟩:=by
        exact Iq
   have a2:=x1.keep (p:=⟨w.heap.size,2,none⟩) (v:=Vu x.lc) σ;have a3:=x1.keep (p:=⟨w.heap.size,3,none⟩) (v:=Vu x.lk) σ;have a4:=x1.keep (p:=⟨w.heap.size,4,none⟩) (v:=Vu x.rc) σ;have a5:=x1.keep (p:=⟨w.heap.size,5,none⟩) (v:=Vu x.rk) σ;have xw:Ext w w1:=(((Ext.refl _).alloc _).alloc _).trans x1;clear x1;have hwb:w.heap.size<=w.heap.size+1:=ω
   obtain⟨pb,hpb⟩:∃pb,w.heap.size+1=pb:=⟨_,rfl⟩;obtain⟨pa,hpa⟩:∃pa,w.heap.size=pa:=⟨_,rfl⟩;rw[hpb] at b0 hwb⊢;rw[hpa] at a2 a3 a4 a5⊢;clear hpa hpb;replace b0:=ac b0
   go_wp2_with fail
   refine(lN _ _ _).mono ?_;rintro e w2 ⟨rfl,x2⟩;replace xw:=xw.trans x2;replace b0:=ac (b0.out.ext x2);replace a2:=x2.keep a2;replace a3:=x2.keep a3;replace a4:=x2.keep a4;replace a5:=x2.keep a5;clear x2;exact aam
  ·have g1:(x.lc==0)=false:=by simpa using e1
   rw[Zr e0 e1] at hR;have hc:=ac (hcall e0 e1);clear e0 e1 hcall;cases hB:pQ l (paths l) (irt x) (ilf x) with
   |true=>
    rw[hB] at hc hR;rw[if_pos rfl] at hR;replace hR:=ac hR.symm;clear hB;go_enter func173,ntmps173
    go_wp2_with fail
    refine(lN _ _ _).mono ?_;rintro e w1 ⟨rfl,x1⟩;have b0:vg w1 (w.heap.size+1) ⟨(0,0),false⟩:=by
     exact Iq
    have a2:=x1.keep (p:=⟨w.heap.size,2,none⟩) (v:=Vu x.lc) σ;have a3:=x1.keep (p:=⟨w.heap.size,3,none⟩) (v:=Vu x.lk) σ;have a4:=x1.keep (p:=⟨w.heap.size,4,none⟩) (v:=Vu x.rc) σ;have a5:=x1.keep (p:=⟨w.heap.size,5,none⟩) (v:=Vu x.rk) σ;have xw:Ext w w1:=(((Ext.refl _).alloc _).alloc _).trans x1;clear x1;have hwb:w.heap.size<=w.heap.size+1:=ω
    obtain⟨pb,hpb⟩:∃pb,w.heap.size+1=pb:=⟨_,rfl⟩;obtain⟨pa,hpa⟩:∃pa,w.heap.size=pa:=⟨_,rfl⟩;rw[hpb] at b0 hwb⊢;rw[hpa] at a2 a3 a4 a5⊢;clear hpa hpb;replace b0:=ac b0
    go_wp2_with fail
    refine(lN _ _ _).mono ?_;rintro e w2 ⟨rfl,x2⟩;replace xw:=xw.trans x2;replace b0:=ac (b0.out.ext x2);replace a2:=x2.keep a2;replace a3:=x2.keep a3;replace a4:=x2.keep a4;replace a5:=x2.keep a5;clear x2
    go_wp2_with fail
    refine(hc.out _ xw).mono ?_;rintro e w3 ⟨rfl,x3⟩;replace xw:=xw.trans x3;replace b0:=ac (b0.out.ext x3);replace a2:=x3.keep a2;replace a3:=x3.keep a3;replace a4:=x3.keep a4;replace a5:=x3.keep a5;clear x3;exact aam
   |false=>
    rw[hB] at hc hR;rw[if_neg δ] at hR;replace hR:=ac hR.symm;clear hB;go_enter func173,ntmps173
    go_wp2_with fail
    refine(lN _ _ _).mono ?_;rintro e w1 ⟨rfl,x1⟩;have b0:vg w1 (w.heap.size+1) ⟨(0,0),false⟩:=by
     exact Iq
    have a2:=x1.keep (p:=⟨w.heap.size,2,none⟩) (v:=Vu x.lc) σ;have a3:=x1.keep (p:=⟨w.heap.size,3,none⟩) (v:=Vu x.lk) σ;have a4:=x1.keep (p:=⟨w.heap.size,4,none⟩) (v:=Vu x.rc) σ;have a5:=x1.keep (p:=⟨w.heap.size,5,none⟩) (v:=Vu x.rk) σ;have xw:Ext w w1:=(((Ext.refl _).alloc _).alloc _).trans x1;clear x1;have hwb:w.heap.size<=w.heap.size+1:=ω
    obtain⟨pb,hpb⟩:∃pb,w.heap.size+1=pb:=⟨_,rfl⟩;obtain⟨pa,hpa⟩:∃pa,w.heap.size=pa:=⟨_,rfl⟩;rw[hpb] at b0 hwb⊢;rw[hpa] at a2 a3 a4 a5⊢;clear hpa hpb;replace b0:=ac b0
    go_wp2_with fail
    refine(lN _ _ _).mono ?_;rintro e w2 ⟨rfl,x2⟩;replace xw:=xw.trans x2;replace b0:=ac (b0.out.ext x2);replace a2:=x2.keep a2;replace a3:=x2.keep a3;replace a4:=x2.keep a4;replace a5:=x2.keep a5;clear x2
    go_wp2_with fail
    refine(hc.out _ xw).mono ?_;rintro e w3 ⟨rfl,x3⟩;replace xw:=xw.trans x3;replace b0:=ac (b0.out.ext x3);replace a2:=x3.keep a2;replace a3:=x3.keep a3;replace a4:=x3.keep a4;replace a5:=x3.keep a5;clear x3
    go_wp2_with fail
    refine(lN _ _ _).mono ?_;rintro e w4 ⟨rfl,x2⟩;replace xw:=xw.trans x2;replace b0:=ac (b0.out.ext x2);replace a2:=x2.keep a2;replace a3:=x2.keep a3;replace a4:=x2.keep a4;replace a5:=x2.keep a5;clear x2;obtain⟨k0,k1,k2⟩:=b0.out.cells;have f0:=b0.out.thaw 0;have f1:=b0.out.thaw 1;have f2:=b0.out.thaw 2;obtain⟨z0,z1,z2⟩:=(b0.out.store x.lc x.lk true).cells;go_wp2;exact aB (v:=hgv ⟨(x.lc,x.lk),true⟩) (by simp[cg,results173,go_sem,z0,z1,z2]) rfl ⟨by rw[hR.out],((xw.setCell hwb _).setCell hwb _).setCell hwb _⟩):p:=h
theorem aev (g:Nat) (l:List It) (x:It) (w:ae)
  (hcall:x.rc≠0->x.lc≠0->∀W,Ext w W->aO pg 176 #[.pointer (some ⟨g,0,none⟩),idv x.rc x.rk,idv x.lc x.lk] W λe w'=>e= .returned (.bool (pQ l (paths l) (irt x) (ilf x)))/\Ext W w'):
  aO pg 173 #[itv x,.func (.func 176) #[.pointer (some ⟨g,0,none⟩)] #[]] w λe w'=>e= .returned (hgv (hgP l x))/\Ext w w':=by
 exact aan
theorem aew (q:Nat) (l:List It) (x:It) (w:ae)
  (hcall:x.rc≠0->x.lc≠0->∀W,Ext w W->aO pg 174 #[idv x.rc x.rk,idv x.lc x.lk,.pointer (some ⟨q,0,none⟩)] W λe w'=>e= .returned (.bool (pQ l (paths l) (irt x) (ilf x)))/\Ext W w'):
  aO pg 173 #[itv x,.func (.func 174) #[] #[.pointer (some ⟨q,0,none⟩)]] w λe w'=>e= .returned (hgv (hgP l x))/\Ext w w':=by
 exact aan
end
end
section
attribute [local go_sem] ah calm jL jH
section
def NdB (W:ae) (b cap:Nat) (e:List Nd):Prop:=∃a,W.heap[b]? =some (.cells a 319 (0,0))/\a.size=cap*6/\e.length<=cap/\a.toList.take (e.length*6)=flat zL e
variable {W W' w0:ae} {b cap g mb:Nat} {l:List It} {ns:List Nd}
theorem NdB.lt (h:NdB W b cap ns):b<W.heap.size:=by
 obtain⟨e,a,_⟩:=h;exact(an.1 a).1
theorem NdB.rx {p:Nat} (h:NdB W b cap ns) (f:RX p W W') (a:b≠p):NdB W' b cap ns:=by
 obtain⟨e,j,i⟩:=h;exact⟨e,f.blk j a,i⟩
theorem NdB.ext (h:NdB W b cap ns) (f:Ext W W'):NdB W' b cap ns:=by
 have a:=h.lt;obtain⟨e,j,i⟩:=h;exact⟨e,(av f b a).trans j,i⟩
theorem NdB.row {W:ae} {b cap:Nat} {ns:List Nd} (h:NdB W b cap ns):NdS W (some ⟨b,0,none⟩) ns:=λH=>by
 obtain⟨e,i,z,q,f⟩:=h;refine⟨b,0,rfl,λj u a=>?_⟩;rw[aW,aj W b j e _ (0,0) i];rw[<-f,cj] at a
 split at a
 ·simpa using a
 ·cases a
theorem NdB.new (W:ae) (x:Nd):NdB (W.alloc (.cells #[.int .u32 x.id.1,.int .u32 x.id.2,.int .i64 x.on,.bool x.right,.int .i64 x.depth,.int .i64 x.far] 319)) W.heap.size 1 [x]:=⟨_,aI W _,rfl,am _,rfl⟩
structure GrO (w0 W:ae) (g b cap mb:Nat) (l:List It) (ns:List Nd):Prop where
 ok:GrN l ns
 kn:jy l=true
 box:W.heap[g]? =some (.cells #[.slice (some ⟨b,0,none⟩) (l.length+1) cap,.map (some mb)] 316 (0,0))
 nds:NdB W b cap ns
 map:qC W mb (Dt l)
 YU:w0.heap.size<=g
 YV:w0.heap.size<=b
 Vm:w0.heap.size<=mb
 gb:g≠b
 gm:g≠mb
 bm:b≠mb
theorem GrO.cells (h:GrO w0 W g b cap mb l ns):W.cell? ⟨g,0,none⟩=some (.slice (some ⟨b,0,none⟩) (l.length+1) cap)/\W.cell? ⟨g,1,none⟩=some (.map (some mb)):=
 ⟨by rw[aj W g 0 _ _ _ h.box];rfl,by rw[aj W g 1 _ _ _ h.box];rfl⟩
theorem GrO.room (h:GrO w0 W g b cap mb l ns):l.length+1<=cap:=by
 obtain⟨e,j,i,a,f⟩:=h.nds;rw[h.ok.len] at a;exact a
theorem GrO.read (h:GrO w0 W g b cap mb l ns):GrS W g l ns:=
 ⟨h.ok,h.kn,b,0,cap,mb,h.cells.1,h.cells.2,h.room,h.nds.row,h.map⟩
theorem GrO.ext {w0 W W':ae} {g b cap mb:Nat} {l:List It} {ns:List Nd} (h:GrO w0 W g b cap mb l ns) (a:Ext W W'):GrO w0 W' g b cap mb l ns:=
 ⟨h.ok,h.kn,(av a g (an.1 h.box).1).trans h.box,h.nds.ext a,h.map.ext a,h.YU,h.YV,h.Vm,h.gb,h.gm,h.bm⟩
theorem UM (W:ae) (b:Nat) (f:Array au):RX b W (W.setRow b f):=⟨rfl,rfl,rfl,ι,λk _ a=>setRow_other W b k _ (λe=>a (by rw[e]))⟩
theorem agI (w:ae) (K:TypeId) (b cap N:Nat) (ns:List Nd) (Z:ns.length=N) (hB:NdB w b cap ns) (a:N+1<=cap) (q c:Nat) (nd:Nd) (X:NdS w (some ⟨q,0,none⟩) [nd]):
  ∃w',(dg #[313,313] K #[.slice (some ⟨b,0,none⟩) N cap,.slice (some ⟨q,0,none⟩) 1 c]).run pg w= .ok (.slice (some ⟨b,0,none⟩) (N+1) cap) w'/\NdB w' b cap (ns++[nd])/\RX b w w':=by
 obtain⟨i,hi,Q,f,O⟩:=dK Tt;obtain⟨H,M,h2,h3,h4⟩:=hB;subst Z;have z:(flat zL [nd]).length=1*i.size:=by rw[jR tH,f];rfl
 have J:ns.length*i.size+(flat zL [nd]).length<=H.size:=by rw[z,f,h2];omega
 have I:=run_append_room (P:=pg) w 313 K 319 i underlying313 hi b ns.length cap H M ⟨q,0,none⟩ 1 c (flat zL [nd]) z (λj u U=>by
  obtain⟨b',o',e,Y⟩:=X (by rw[jR tH];exact Nat.succ_pos _);injection e with e;injection e with e1 e2 e3;subst e1;subst e2;rw[tX];exact Y j u U) (lI Z0 [nd]) a J
 refine⟨_,I,⟨_,setRow_heap w b H _ _ _ M,?_,?_,?_⟩,UM w b _⟩
 ·simp only[List.size_toArray,ag,bv,List.length_drop,Array.length_toList]
  rw[f] at*;rw[z] at*;omega
 ·rw[ag];exact a
 ·rw[kQ,f,h4,ag]
  have:(flat zL ns++flat zL [nd]).length=(ns.length+[nd].length)*6:=by rw[ag,jR tH,jR tH,Nat.add_mul]
  rw[<-this];exact List.take_left
structure RB (b n:Nat) (W W':ae):Prop where
 rx:RX b W W'
 low:∀j x,j<n->W.cell? ⟨b,j,none⟩=some x->W'.cell? ⟨b,j,none⟩=some x
theorem RB.trans {b n:Nat} {x y z:ae} (h:RB b n x y) (k:RB b n y z):RB b n x z:=⟨h.rx.trans k.rx,λj u a e=>k.low j u a (h.low j u a e)⟩
theorem RB.ext {b n:Nat} {x y:ae} (h:Ext x y):RB b n x y:=⟨RX.ext h,λj u _ a=>h.keep a⟩
theorem RB.of {n:Nat} {r:List Nd} (H:RX b W W') (h:NdB W b cap ns) (N:NdB W' b cap (ns++r)) (hn:n=ns.length*6):RB b n W W':=by
 refine⟨H,λj x u z=>?_⟩;subst hn;obtain⟨e,M,U,Q,I⟩:=h;obtain⟨a,q,K,J,i⟩:=N;rw[aj W b j e _ (0,0) M] at z;rw[aj W' b j a _ (0,0) q];have O:(e.toList.take (ns.length*6))[j]? =some x:=by rw[cj,if_pos u];simpa using z
 have f:(a.toList.take ((ns++r).length*6))[j]? =some x:=by
  rw[i,kQ,List.getElem?_append_left (by rw[jR tH];exact u),<-I];exact O
 rw[cj] at f
 split at f
 ·simpa using f
 ·cases f
theorem RB.row {b n:Nat} {W W':ae} {ns:List Nd} (f:RB b n W W') (h:NdS W (some ⟨b,0,none⟩) ns) (hn:ns.length*6<=n):NdS W' (some ⟨b,0,none⟩) ns:=λz=>by
 obtain⟨I,H,e,q⟩:=h z;injection e with e;injection e with e1 e2 e3;subst e1;subst e2;refine⟨b,0,rfl,λj u a=>?_⟩;have i:=kJ a;rw[jR tH] at i;have:=q j u a;rw[aW] at this⊢;exact f.low j u ω this
theorem acJ (g b cap mb:Nat) (l:List It) (ns:List Nd) (x:It) (w0 w:ae) (h:GrO w0 w g b cap mb l ns) (hk:jy (l++[x])=true) (d5:Ext w0 w) (h0:l.length+2<=cap) (hb:l.length<=1000000000000000):
  aO pg 207 #[.pointer (some ⟨g,0,none⟩),idv x.c x.k,hgv (hgP l x)] w λe w'=>e= .returned (.tuple #[])/\(∃e9,GrO w0 w' g b cap mb (l++[x]) e9)/\Ext w0 w':=by
 have b6:=hk;rw[jZ,Bool.and_eq_true] at b6;obtain⟨e4,b9,_,_⟩:=jG b6.2;have b4:=ac (Va (a:=(x.c,x.k)) b9);have h9:(x.c==0)=false:=by simpa using e4
 obtain⟨K,hK⟩:∃K,l.length+1=K:=⟨_,rfl⟩;have J:=BG l (hgP l x).on;obtain⟨nd,M⟩:=h.ok.get J;obtain⟨d1,d2,d3,_⟩:=h.ok.deep _ nd M;have b1:=wO h.kn J;obtain⟨f1,fq,f2⟩:=h.ok.ab3 J;have a9:=ac (h.ok.snoc hk f1 f2 M);have Zt:=ac (λ(W:ae) (hW:GrT W g l ns)=>Pz g l ns (qj l (hgP l x).on) W hW J hb);have e8:=ac h.ok.len;have uo:=ac (U9 l x);have g3:(0:Int)<=(qj l (hgP l x).on:Int):=ω
 have g2:(qj l (hgP l x).on:Int)<(K:Int):=ω
 have g4:nd.depth+1<=1000000000000001:=ω
 have f3:wrap64 ((nd.depth:Int)+1)=((nd.depth+1:Nat):Int):=by rw[CU ω ω];rfl
 have d9:=h.nds.row.at M;have b7:=ac (λW (hW:Ext w W)=>(h.nds.ext hW).row.at M);have OX:=ac (λW (hW:Ext w W)=>(h.map.ext hW).num (hgP l x).on.1 (hgP l x).on.2);replace h:=ac h;have i:=ac hK;clear b1 d1 d2 d3 f1 f2 M J d9 b6 b9 e4;generalize hgP l x=R at*;obtain⟨⟨ra,rb⟩,rr⟩:=R;simp only at a9 Zt g3 g2 b7 OX;generalize RG ns (qj l (ra,rb))=fr at*;generalize qj l (ra,rb)=on at*;obtain⟨dp,a8⟩:∃d,nd.depth=d:=⟨_,rfl⟩;rw[a8] at g4 f3 a9;replace a8:=ac a8;have x0:=((Ext.refl w).alloc (.cells #[.int .u32 x.c,.int .u32 x.k] 38)).alloc (.cells #[.int .u32 ra,.int .u32 rb,.bool rr] 263);obtain⟨H,X⟩:∃H,(w.alloc (.cells #[.int .u32 x.c,.int .u32 x.k] 38)).alloc (.cells #[.int .u32 ra,.int .u32 rb,.bool rr] 263)=H:=⟨_,rfl⟩;rw[X] at x0;have a0:H.cell? ⟨w.heap.size,0,none⟩=some (Vu x.c):=by rw[<-X];simp[go_sem]
 have a1:H.cell? ⟨w.heap.size,1,none⟩=some (Vu x.k):=by rw[<-X];simp[go_sem]
 have a2:H.cell? ⟨w.heap.size+1,0,none⟩=some (Vu ra):=by rw[<-X];simp[go_sem]
 have a3:H.cell? ⟨w.heap.size+1,1,none⟩=some (Vu rb):=by rw[<-X];simp[go_sem]
 have U:H.cell? ⟨w.heap.size+1,2,none⟩=some (.bool rr):=by rw[<-X];simp[go_sem]
 have z:=x0.keep h.out.cells.1;have g1:=x0.keep h.out.cells.2;rw[hK] at z;have f8:=λk=>OX.out (H.drewN k) (x0.drewN k)
 replace X:=ac X;replace x0:=ac x0;clear hK;have h6:mb<w.heap.size:=h.out.map.lt;have i0:b<w.heap.size:=h.out.nds.lt;have h8:g<w.heap.size:=(an.1 h.out.box).1;go_enter func207,ntmps207;go_wp2;rw[X.out];clear X OX;generalize w.heap.size=pa at*;obtain⟨pb,d7⟩:∃pb,pa+1=pb:=⟨_,rfl⟩;rw[d7] at a2 a3 U⊢;have i2:mb<pb:=ω
 have i3:b<pb:=ω
 clear d7
 go_quiet(fail)
 have j:=(Ext.refl H).drewN nq;replace x0:=ac (x0.out.trans j);replace a0:=j.keep a0;replace a1:=j.keep a1;replace U:=j.keep U;replace z:=j.keep z;replace g1:=j.keep g1;clear a2 a3 f8 j;generalize H.drewN nq=w2 at*;clear H
 go_wp2_with fail
 refine(lN _ _ _).mono ?_;rintro e w3 ⟨rfl,x3⟩;replace a0:=x3.keep a0;replace a1:=x3.keep a1;replace U:=x3.keep U;replace z:=x3.keep z;replace g1:=x3.keep g1;replace x0:=ac (x0.out.trans x3);clear x3 w2;go_wp2;refine wp_region_still_tail 10 κ κ ?_;simp only[List.take_succ_cons,cV,List.drop_succ_cons,List.drop_zero];have j:=(Ext.refl w3).drew;replace x0:=ac (x0.out.trans j);replace a0:=j.keep a0;replace a1:=j.keep a1;replace U:=j.keep U;replace z:=j.keep z;replace g1:=j.keep g1;clear j;change wpStill pg _ w3.drew (λa'=>wpList pg _ _ _ a' w3.drew) _ _;generalize w3.drew=w4 at*;clear w3
 repeat still_step
 refine wpStill_nil ?_;refine CP _ rfl _ _ _ _ _ rfl underlying314 mb (Dt l) rfl (h.out.map.ext x0.out) x.c x.k (Vi (K:Int)) rfl rfl b4.out ?_;intro w5 m5 g5;have O:=h.out.gm;have a5:=h.out.bm;have Z:=h.out.gb;have Q:RX mb w4 w5:=g5;have b0:K+1<=cap:=by rw[<-i.out];omega
 have h4:cJ.wrap ((dp:Int)+1)=(dp:Int)+1:=by rw[gN];exact CU ω ω
 have g8:on*6+4<K*6:=ω
 replace a0:=Q.cell a0 ω;replace a1:=Q.cell a1 ω;replace U:=Q.cell U ω;replace z:=Q.cell z O;replace g1:=Q.cell g1 O;have hh:=h.out.ext x0.out;have Y:=ac (hh.nds.rx Q a5);have d4:w5.cell? ⟨b,on*6+4,none⟩=some (Vi (dp:Int)):=by
  have:=Q.cell (b7.out _ x0.out).c4 a5;rw[aW,a8.out] at this;exact this
 have a6:GrT w5 g l ns:=⟨hh.ok,hh.kn,b,0,cap,by rw[i.out];exact z,hh.room,Y.out.row⟩;have zF:=ac (λ(W:ae) (hW:RB b (K*6) w5 W)=>Zt.out W ⟨a6.ok,a6.kn,b,0,cap,by rw[i.out];exact hW.rx.cell z h.out.gb,a6.cells.elim λ_ hh=>hh.elim λ_ hh=>hh.elim λ_ hh=>by rw[i.out];omega,hW.row Y.out.row (by rw[e8.out,i.out];exact am _)⟩);have g9:=ac (Q.blk hh.box O);have f0:=ac (show qC w5 mb (Dt (l++[x])) by rw[uo.out,i.out];exact m5);have e5:=ac (RX.down (d5.trans x0.out) h.out.Vm Q);have b5:Hid (ns.length=K):=ac (by rw[e8.out,i.out]);clear m5 g5 Q hh a6 Zt b7 x0 uo w4;have e0:=ac h.out.YU;have e2:=ac h.out.YV;have f7:=ac h.out.Vm;clear h d5
 go_wp2_with fail
 generalize g6:x.c=c at*;generalize f9:x.k=k at*;refine ou 24 23 [rwI 20 (Vi (fr:Int)),rw1 22 (λz9 W=>∃q,z9= .slice (some ⟨q,0,none⟩) 1 1/\q≠b/\NdB W q 1 [⟨(c,k),on,rr,dp+1,fr⟩]),rw1 23 (λz9 W=>z9= .slice (some ⟨b,0,none⟩) (K+1) cap/\NdB W b cap (ns++[⟨(c,k),on,rr,dp+1,fr⟩]))] (RB b (K*6) _) (λW=>NdB W b cap ns) Ext (RB b (K*6)) (RB.ext ((Ext.refl _).drew)) (Y.out.ext ((Ext.refl _).drew)) (λ_ _ h e=>h.trans (RB.ext e)) (λ_ _ h e=>h.ext e) ⟨λ_ _ _ _ _ _=>trivial,λ_ _ _ _ _ _ _ _=>trivial,(by rintro _ _ _ _ ⟨q,h1,h2,h3⟩ e;exact⟨q,h1,h2,h3.ext e⟩),(λ_ _=>by rintro _ _ _ _ ⟨q,h1,h2,h3⟩ e;exact⟨q,h1,h2,h3.rx e.rx h2⟩),(λ_ _ _ _ h e=>⟨h.1,h.2.ext e⟩),(λ_ h=>absurd rfl h),trivial⟩ λρ hI=>?_
 refine .s1 20 false [] (λW u _ _=>by
  have q0:=u.rx.cell z Z;have q1:=u.rx.cell a0 ω;have q2:=u.rx.cell a1 ω;have q3:=u.rx.cell U ω;have q4:=u.low _ _ g8 d4;exact jD) ?_
 refine .kv1 hI 0 _ (λW u=>(zF.out W u).mono (by rintro e W1 ⟨rfl,h1⟩;exact⟨rfl,h1⟩)) ?_;refine .s1 1 false [] (λW u _ _=>jD) ?_;refine .o1 1 false [] (λW u _ _ N hN=>?_) ?_
 ·have h7:b<W.heap.size:=Nat.lt_of_lt_of_le Y.out.lt u.rx.size
  go_simp
  exact hN _ _ (λ_ e=>by cases e) ⟨_,rfl,ω,NdB.new W ⟨(c,k),on,rr,dp+1,fr⟩⟩ ((Ext.refl W).alloc _)
 refine .o0 2 [1] (λW u I f N hN=>?_) ?_
 ·obtain⟨⟨q,b3,h5,f5⟩,_⟩:=f
  obtain⟨W1,f4,b2,d6⟩:=agI W 313 b cap K ns b5.out I b0 q 1 ⟨(c,k),on,rr,dp+1,fr⟩ f5.row;have b3:ρ 22=_:=b3;simp only[execOp,resolve,invoke,builtin,dG,Sem.run_pure,dc,List.map_toArray,bA,List.map_nil,Act.eval,Act.put,List.setIfInBounds_toArray,List.set_cons_succ,List.set_cons_zero,Array.getD_eq_getD_getElem?,List.getElem?_toArray,List.getElem?_cons_succ,List.getElem?_cons_zero,Option.getD_some,b3,f4];exact hN _ _ (λ_ e=>by cases e) ⟨rfl,b2⟩ (u.trans (RB.of d6 I b2 (by rw[b5.out]))) (RB.of d6 I b2 (by rw[b5.out]))
 refine .fin λW hR ⟨_,_,jV,_⟩=>?_
 obtain⟨g7,jV⟩:=jV rfl;rw[show ρ 23=_ from g7];have a7:=hR.rx.blk g9.out Z;have m6:qC W mb (Dt (l++[x])):=f0.out.kept hR.rx (λe=>a5 (by injection e with e;exact e.symm));have e6:=ac (RX.down e5.out e2.out hR.rx);have f6:=frozen_of_row W g 0 _ _ a7;have r7:RX g W (W.setCell ⟨g,0,none⟩ (.slice (some ⟨b,0,none⟩) (K+1) cap)):=RX.set (RX.refl g W) 0 _ (.inr rfl);have e3:(W.setCell ⟨g,0,none⟩ (.slice (some ⟨b,0,none⟩) (K+1) cap)).heap[g]? =some (.cells #[.slice (some ⟨b,0,none⟩) (K+1) cap,.map (some mb)] 316 (0,0)):=al _ _ 0 _ _ _ a7;have b8:=jV.rx r7 (λe=>Z e.symm);have m7:=m6.kept r7 (λe=>O (by injection e with e;exact e.symm));have e7:=ac (RX.down e6.out e0.out r7);have e1:=ac (show GrO w0 (W.setCell ⟨g,0,none⟩ (.slice (some ⟨b,0,none⟩) (K+1) cap)) g b cap mb (l++[x]) (ns++[⟨(c,k),on,rr,dp+1,fr⟩]) from
  ⟨by rw[<-g6,<-f9];exact a9.out,hk,by rw[ag,List.length_singleton,i.out];exact e3,b8,m7,e0.out,e2.out,f7.out,Z,O,a5⟩)
 have i1:W.cell? ⟨g,0,none⟩=some (.slice (some ⟨b,0,none⟩) (l.length+1) cap):=by rw[aj W g 0 _ _ _ a7];rfl
 clear jV r7 a7 m6 e6 e3 b8 m7;go_wp2;exact bodyPost_end (v:= .tuple #[]) (by simp[cg,results207,go_sem]) rfl ⟨rfl,⟨_,e1.out⟩,e7.out⟩
end
theorem Vl (z:Array au) (n:Nat) (i:z.size=6) (hn:1<=n):(ff z (n*6)).toList.take 6=z.toList:=by
 have j:6<=n*6:=ω
 unfold ff;rw[Array.toList_map,<-List.map_take,Array.toList_range,List.take_range,Nat.min_eq_left j];obtain⟨l⟩:=z
 match l,i with
 |[a,b,c,d,e,f],_=>rfl
theorem QO (n:Nat) (hn:n<=5026338869800) (W:ae):(iT 313 (.int .i64 1) (.int .i64 ((n+1:Nat):Int))).run pg W= .ok (.slice (some ⟨W.heap.size,0,none⟩) 1 (n+1)) (W.alloc (.cells (ff #[.int .u32 0,.int .u32 0,.int .i64 0,.bool false,.int .i64 0,.int .i64 0] ((n+1)*6)) 319))/\
  NdB (W.alloc (.cells (ff #[.int .u32 0,.int .u32 0,.int .i64 0,.bool false,.int .i64 0,.int .i64 0] ((n+1)*6)) 319)) W.heap.size (n+1) [nd0]:=by
 obtain⟨i,hi,f,e,a⟩:=dK Tt;have j:=run_make (P:=pg) W 313 319 i _ underlying313 hi f .i64 .i64 1 ((n+1:Nat):Int) ω ω (by rw[a];omega) ω;rw[e] at j;refine⟨j,_,aI W _,?_,ι,?_⟩
 ·rw[size_madeCells]
 ·show(ff _ _).toList.take 6=_
  rw[Vl _ _ rfl ω];rfl
structure GrZ (s0:Nat) (W:ae) (g b cap mb:Nat):Prop where
 box:W.heap[g]? =some (.cells #[.slice (some ⟨b,0,none⟩) 1 cap,.map (some mb)] 316 (0,0))
 nds:NdB W b cap [nd0]
 map:qC W mb []
 YU:s0<=g
 YV:s0<=b
 Vm:s0<=mb
 gb:g≠b
 gm:g≠mb
theorem GrZ.ext {e:Nat} {W W':ae} {g b cap f:Nat} (h:GrZ e W g b cap f) (a:Ext W W'):GrZ e W' g b cap f:=
 ⟨(av a g (an.1 h.box).1).trans h.box,h.nds.ext a,h.map.ext a,h.YU,h.YV,h.Vm,h.gb,h.gm⟩
theorem GrZ.boxed {a:Nat} {W:ae} {b cap e:Nat} (i:NdB W b cap [nd0]) (f:qC W e []) (u:a<=W.heap.size) (q:a<=b) (j:a<=e):
  GrZ a (W.alloc (.cells #[.slice (some ⟨b,0,none⟩) 1 cap,.map (some e)] 316)) W.heap.size b cap e:=
 ⟨aI W _,i.ext ((Ext.refl _).alloc _),f.ext ((Ext.refl _).alloc _),u,q,j,by have:=i.lt;omega,by have:=f.lt;omega⟩
theorem GrZ.grown {w W:ae} {g b cap a:Nat} (h:GrZ w.heap.size W g b cap a):GrO w W g b cap a [] [nd0]:=
 ⟨GrN.nil,rfl,h.box,h.nds,h.map,h.YU,h.YV,h.Vm,h.gb,h.gm,λe=>by
  obtain⟨j,f,_⟩:=h.nds;obtain⟨u,q,i,_⟩:=h.map;rw[e,i] at f;cases f⟩
theorem ZB (A:Option Addr) (n cap:Nat) (l:List It) (w:ae) (hv:ItS w A l) (hk:jy l=true) (hn:l.length=n) (e7:n<=cap) (hb:n<=5026338869800):
  aO pg 175 #[.slice A n cap] w λe w'=>∃g b c X J,e= .returned (.pointer (some ⟨g,0,none⟩))/\GrO w w' g b c X l J/\Ext w w':=by
 replace hn:=ac hn;replace hv:=ac hv;replace hk:=ac hk;have e4:wrap64 ((n:Int)+1)=((n+1:Nat):Int):=by rw[CU ω ω];rfl
 have e3:cJ.wrap ((n:Int)+1)=(n:Int)+1:=by rw[gN];exact CU ω ω
 obtain⟨U,H⟩:∃U,w.heap.size=U:=⟨_,rfl⟩;replace H:=ac H;go_enter func175,ntmps175
 go_wp2_with fail
 refine mg 9 [rw1 3 (λQ W=>∃q,Q= .slice (some ⟨q,0,none⟩) 1 (n+1)/\U<=q/\NdB W q (n+1) [nd0]),rw1 6 (λQ W=>∃q,Q= .map (some q)/\U<=q/\qC W q []),rw1 7 (λQ W=>∃u a,Q= .agg #[.slice (some ⟨u,0,none⟩) 1 (n+1),.map (some a)]/\U<=u/\U<=a/\NdB W u (n+1) [nd0]/\qC W a []),rw1 8 (λQ W=>∃g u a,Q= .pointer (some ⟨g,0,none⟩)/\GrZ U W g u (n+1) a)] ⟨by rintro _ _ _ _ ⟨q,h1,h2,O⟩ e;exact⟨q,h1,h2,O.ext e⟩,by rintro _ _ _ _ ⟨q,h1,h2,O⟩ e;exact⟨q,h1,h2,O.ext e⟩,by rintro _ _ _ _ ⟨u,a,h1,h2,O,h4,h5⟩ e;exact⟨u,a,h1,h2,O,h4.ext e,h5.ext e⟩,by rintro _ _ _ _ ⟨g,u,a,h1,h2⟩ e;exact⟨g,u,a,h1,h2.ext e⟩,trivial⟩ λρ _=>?_
 refine .s 3 (λW z y=>jD) ?_;refine .o 0 [] (λW z y _ N hN=>?_) ?_
 ·obtain⟨b7,d4⟩:=QO n hb W
  replace b7:(iT 313 (.int .i64 1) (.int .i64 ((n:Int)+1))).run pg W=_:=b7
  go_simp
  exact hN _ _ (λ_ e=>by cases e) ⟨_,rfl,H.out▸z.size,d4⟩ ((Ext.refl W).alloc _)
 refine .s 2 (λW z y=>jD) ?_;refine .o 1 [] (λW z y _ N hN=>?_) ?_
 ·have hm:=YT underlying314
  go_simp
  exact hN _ _ (λ_ e=>by cases e) ⟨_,rfl,H.out▸z.size,qC.made W⟩ ((Ext.refl W).alloc _)
 refine .o 2 [0,1] (λW z y f N hN=>?_) ?_
 ·obtain⟨⟨u,I,a9,a7⟩,⟨a,b6,a8,Z⟩,_⟩:=f
  have I:ρ 3=_:=I;have b6:ρ 6=_:=b6
  go_simp
  exact hN _ _ (λ_ e=>by cases e) ⟨u,a,rfl,a9,a8,a7,Z⟩ (Ext.refl W)
 refine .o 3 [2] (λW z y f N hN=>?_) ?_
 ·obtain⟨⟨u,a,I,a9,a8,a7,Z⟩,_⟩:=f
  have I:ρ 7=_:=I
  go_simp
  exact hN _ _ (λ_ e=>by cases e) ⟨_,u,a,rfl,GrZ.boxed a7 Z (H.out▸z.size) a9 a8⟩ ((Ext.refl W).alloc _)
 refine .fin λW hR ⟨_,_,_,h8,_⟩=>?_
 obtain⟨q8,b2,b1,e8,h8⟩:=h8;rw[show ρ 8=_ from e8];have b9:=ac (show GrO w W q8 b2 (n+1) b1 (l.take 0) [nd0] from GrZ.grown (H.out.symm▸h8));have b4:=ac hR;clear hR h8;generalize q8=g at*;generalize b2=b at*;generalize b1=X at*;go_wp2
 go_loopw [17] (λi W=>∃(j:Nat),j<=n/\i=Vi (j:Int)/\(∃J,Hid (GrO w W g b (n+1) X (l.take j) J))/\Hid (Ext w W)) (λi _=>n-(intOf i).toNat)
 case atStart=>exact⟨0,Nat.zero_le _,rfl,⟨_,b9⟩,b4⟩
 case round=>
  clear b9 b4;obtain⟨j,hj,rfl,⟨J,ho⟩,z⟩:=hrel;by_cases d5:j<n
  ·obtain⟨bx,o,x,hA,hp,d⟩:=(hv.out.ext z.out).at (k:=j) (by rw[hn.out];exact d5)
   obtain⟨c0,c1,c2,c3,c4,c5,c6⟩:=d;have e6:(0:Int)<=(j:Int):=ω
   have e5:(j:Int)<(n:Int):=ω
   have b8:=(wo hk.out hp).1;have b5:=ac (XQ hp);have d6:=ac (show jy (l.take j++[x])=true by rw[<-b5.out];exact wU hk.out _);have Y:=ac (show(l.take j).length=j by rw[bv,hn.out];omega);have b0:=jG b8;subst hA;clear hp;generalize l.take j=l0 at*;obtain⟨R,hR⟩:∃R,hgP l0 x=R:=⟨_,rfl⟩;have Ri:=ac (λ(W:ae) (M:Ext wr W)=>aev g l0 x W (λe1 e2 W2 d9=>Kq g l0 J x.rc x.rk x.lc x.lk W2 (ho.out.read.ext (M.trans d9)) (b0.2.2.2.resolve_left e1) (b0.2.2.1.resolve_left e2) (by rw[Y.out];omega)));have Zy:=ac (λ(W:ae) (M:Ext wr W)=>acJ g b (n+1) X l0 J x w W (ho.out.ext M) d6.out (z.out.trans M) (by rw[Y.out];omega) (by rw[Y.out];omega));rw[hR] at Ri Zy;clear b8 b0 hR;have x1:Ext wr (wr.alloc (.cells #[.int .u32 x.c,.int .u32 x.k,.int .u32 x.lc,.int .u32 x.lk,.int .u32 x.rc,.int .u32 x.rk,.int .i32 x.ch] 106)):=(Ext.refl _).alloc _;have a0:(wr.alloc (.cells #[.int .u32 x.c,.int .u32 x.k,.int .u32 x.lc,.int .u32 x.lk,.int .u32 x.rc,.int .u32 x.rk,.int .i32 x.ch] 106)).cell? ⟨wr.heap.size,0,none⟩=some (Vu x.c):=σ
   have a1:(wr.alloc (.cells #[.int .u32 x.c,.int .u32 x.k,.int .u32 x.lc,.int .u32 x.lk,.int .u32 x.rc,.int .u32 x.rk,.int .i32 x.ch] 106)).cell? ⟨wr.heap.size,1,none⟩=some (Vu x.k):=σ
   have a2:(wr.alloc (.cells #[.int .u32 x.c,.int .u32 x.k,.int .u32 x.lc,.int .u32 x.lk,.int .u32 x.rc,.int .u32 x.rk,.int .i32 x.ch] 106)).cell? ⟨wr.heap.size,2,none⟩=some (Vu x.lc):=σ
   have a3:(wr.alloc (.cells #[.int .u32 x.c,.int .u32 x.k,.int .u32 x.lc,.int .u32 x.lk,.int .u32 x.rc,.int .u32 x.rk,.int .i32 x.ch] 106)).cell? ⟨wr.heap.size,3,none⟩=some (Vu x.lk):=σ
   have a4:(wr.alloc (.cells #[.int .u32 x.c,.int .u32 x.k,.int .u32 x.lc,.int .u32 x.lk,.int .u32 x.rc,.int .u32 x.rk,.int .i32 x.ch] 106)).cell? ⟨wr.heap.size,4,none⟩=some (Vu x.rc):=σ
   have a5:(wr.alloc (.cells #[.int .u32 x.c,.int .u32 x.k,.int .u32 x.lc,.int .u32 x.lk,.int .u32 x.rc,.int .u32 x.rk,.int .i32 x.ch] 106)).cell? ⟨wr.heap.size,5,none⟩=some (Vu x.rk):=σ
   have a6:(wr.alloc (.cells #[.int .u32 x.c,.int .u32 x.k,.int .u32 x.lc,.int .u32 x.lk,.int .u32 x.rc,.int .u32 x.rk,.int .i32 x.ch] 106)).cell? ⟨wr.heap.size,6,none⟩=some (.int .i32 x.ch):=σ
   replace x1:=ac x1
   go_wp2_with fail
   generalize wr.alloc (.cells #[.int .u32 x.c,.int .u32 x.k,.int .u32 x.lc,.int .u32 x.lk,.int .u32 x.rc,.int .u32 x.rk,.int .i32 x.ch] 106)=w1 at*;generalize wr.heap.size=xb at*;have d2:=ac (λ(W:ae) (M:Ext w1 W)=>Ri.out W (x1.out.trans M));have d1:=ac (λ(W:ae) (M:Ext w1 W)=>Zy.out W (x1.out.trans M));clear Ri Zy c0 c1 c2 c3 c4 c5 c6;refine mg 7 [rwI 6 (hgv R)] ⟨λ_ _ _ _ _ _=>trivial,trivial⟩ λρ hI=>?_
   refine .s 6 (λW z y=>jD) ?_;refine .kv hI 0 (hgv R) d2.out ?_;refine .fin λW hR _=>?_
   clear a0 a1 a2 a3 a4 a5 a6 d2 ho
   go_wp2_with fail
   refine(d1.out _ hR).mono ?_;rintro e w3 ⟨rfl,⟨b3,O⟩,x3⟩;have e0:=ac (show GrO w w3 g b (n+1) X (l.take (j+1)) b3 by rw[b5.out];exact O);replace x3:=ac x3;clear O;go_wp2
   go_roundw
   case rel=>
        exact⟨j+1,ω,ν,⟨b3,e0⟩,x3⟩
   case measure=>simp[intOf];omega
  ·have d7:j=n:=ω
   subst d7;have d3:=ac (show GrO w wr g b (j+1) X l J by
        have:=ho.out;rwa[aU (by rw[hn.out];omega)] at this)
   go_wp2;go_ret;exact⟨g,b,_,X,J,rfl,d3.out,z.out⟩
theorem QB (A:Option Addr) (n cap q:Nat) (l:List It) (u j i f:Int) (w:ae) (Y:w.cell? ⟨q,0,none⟩=some (.slice A n cap)) (hv:ItS w A l) (hk:jy l=true) (ha:jw l (u,j)=true) (M:jw l (i,f)=true) (hn:l.length=n) (U:n<=cap) (hb:n<=5026338869800):
  aO pg 174 #[idv u j,idv i f,.pointer (some ⟨q,0,none⟩)] w λe w'=>e= .returned (.bool (pQ l (paths l) (u,j) (i,f)))/\Ext w w':=by
 have Zo:=ac (λ(W:ae) (N:Ext w W)=>ZB A n cap l W (hv.ext N) hk hn U hb);have H:=ac (λ(g:Nat) (a:List Nd) (W:ae) (N:GrS W g l a)=>Kq g l a u j i f W N ha M (by rw[hn];omega));obtain⟨B,hB⟩:∃B,pQ l (paths l) (u,j) (i,f)=B:=⟨_,rfl⟩;rw[hB] at H⊢;clear hv hk ha M hn hB;have x0:=((Ext.refl w).alloc (.cells #[.int .u32 u,.int .u32 j] 38)).alloc (.cells #[.int .u32 i,.int .u32 f] 38);have k0:((w.alloc (.cells #[.int .u32 u,.int .u32 j] 38)).alloc (.cells #[.int .u32 i,.int .u32 f] 38)).cell? ⟨w.heap.size,0,none⟩=some (Vu u):=σ
 have k1:((w.alloc (.cells #[.int .u32 u,.int .u32 j] 38)).alloc (.cells #[.int .u32 i,.int .u32 f] 38)).cell? ⟨w.heap.size,1,none⟩=some (Vu j):=σ
 have k2:((w.alloc (.cells #[.int .u32 u,.int .u32 j] 38)).alloc (.cells #[.int .u32 i,.int .u32 f] 38)).cell? ⟨w.heap.size+1,0,none⟩=some (Vu i):=σ
 have k3:((w.alloc (.cells #[.int .u32 u,.int .u32 j] 38)).alloc (.cells #[.int .u32 i,.int .u32 f] 38)).cell? ⟨w.heap.size+1,1,none⟩=some (Vu f):=σ
 replace Y:=x0.keep Y;replace x0:=ac x0;go_enter func174,ntmps174
 go_wp2_with fail
 generalize(w.alloc (.cells #[.int .u32 u,.int .u32 j] 38)).alloc (.cells #[.int .u32 i,.int .u32 f] 38)=w1 at*;generalize w.heap.size=pa at*;obtain⟨Z,J⟩:∃Z,pa+1=Z:=⟨_,rfl⟩;rw[J] at k2 k3⊢;clear J;have z:=ac (λ(W:ae) (N:Ext w1 W)=>Zo.out W (x0.out.trans N));clear Zo;refine mg 4 [rw1 1 λO W=>∃g,O= .pointer (some ⟨g,0,none⟩)/\∃a,GrS W g l a] ⟨by rintro _ _ _ _ ⟨g,h0,a,I⟩ e;exact⟨g,h0,a,I.ext e⟩,trivial⟩ λρ _=>?_
 refine .s 1 (λW Q y=>jD) ?_;refine .k 0 (R:=λO W=>∃g,O= .pointer (some ⟨g,0,none⟩)/\∃a,GrS W g l a) (λW Q=>(z.out W Q).mono (by rintro e W1 ⟨g,b,c,mb,a,rfl,I,h2⟩;exact⟨_,rfl,⟨g,rfl,a,I.read⟩,h2⟩)) ?_;refine .s 2 (λW Q y=>jD) ?_;refine .fin λW hR ⟨I,_⟩=>?_
 obtain⟨q1,e1,I⟩:=I;rw[show ρ 1=_ from e1];obtain⟨a,hG⟩:=I;have X:=ac (x0.out.trans hR);clear k0 k1 k2 k3 Y z
 go_wp2_with fail
 refine(H.out q1 a W hG).mono ?_;rintro e w3 ⟨rfl,x3⟩;replace X:=ac (X.out.trans x3);clear x3 hG;go_wp2;go_ret;exact⟨rfl,X.out⟩
theorem Yx (A:Option Addr) (n cap:Nat) (l:List It) (x:It) (w:ae) (hv:ItS w A l) (U:jy l=true) (N:kC l x=true) (hn:l.length=n) (H:n<=cap) (hb:n<=5026338869800):
  aO pg 143 #[.slice A n cap,itv x] w λe w'=>e= .returned (hgv (hgP l x))/\Ext w w':=by
 obtain⟨_,_,Q,O⟩:=jG N;have a:=ac (λ(q:Nat) (W:ae) (hW:Ext w W) (z:W.cell? ⟨q,0,none⟩=some (.slice A n cap))=>aew q l x W (λe1 e2 W2 u=>QB A n cap q l x.rc x.rk x.lc x.lk W2 (u.keep z) (hv.ext (hW.trans u)) U (O.resolve_left e1) (Q.resolve_left e2) hn H hb));obtain⟨R,hR⟩:∃R,hgP l x=R:=⟨_,rfl⟩;rw[hR] at a⊢;clear Q O hR N U hn hv;obtain⟨⟨K,J⟩,I⟩:=R;go_enter func143,ntmps143
 go_wp2_with fail
 have x0:Ext w (((w.alloc (.cells #[.slice A n cap] 67)).alloc (.cells #[.int .u32 x.c,.int .u32 x.k,.int .u32 x.lc,.int .u32 x.lk,.int .u32 x.rc,.int .u32 x.rk,.int .i32 x.ch] 106)).alloc (.cells #[.int .u32 0,.int .u32 0,.bool false] 263)):=(((Ext.refl w).alloc _).alloc _).alloc _;have z:(((w.alloc (.cells #[.slice A n cap] 67)).alloc (.cells #[.int .u32 x.c,.int .u32 x.k,.int .u32 x.lc,.int .u32 x.lk,.int .u32 x.rc,.int .u32 x.rk,.int .i32 x.ch] 106)).alloc (.cells #[.int .u32 0,.int .u32 0,.bool false] 263)).cell? ⟨w.heap.size,0,none⟩=some (.slice A n cap):=σ
 have i:vg (((w.alloc (.cells #[.slice A n cap] 67)).alloc (.cells #[.int .u32 x.c,.int .u32 x.k,.int .u32 x.lc,.int .u32 x.lk,.int .u32 x.rc,.int .u32 x.rk,.int .i32 x.ch] 106)).alloc (.cells #[.int .u32 0,.int .u32 0,.bool false] 263)) (w.heap.size+2) ⟨(0,0),false⟩:=by
  have:=vg.new ((w.alloc (.cells #[.slice A n cap] 67)).alloc (.cells #[.int .u32 x.c,.int .u32 x.k,.int .u32 x.lc,.int .u32 x.lk,.int .u32 x.rc,.int .u32 x.rk,.int .i32 x.ch] 106)) 0 0 false;rwa[show((w.alloc (.cells #[.slice A n cap] 67)).alloc (.cells #[.int .u32 x.c,.int .u32 x.k,.int .u32 x.lc,.int .u32 x.lk,.int .u32 x.rc,.int .u32 x.rk,.int .i32 x.ch] 106)).heap.size=w.heap.size+2 by simp] at this
 refine(a.out w.heap.size _ x0 z).mono ?_;rintro e w1 ⟨rfl,x1⟩;replace i:=ac (i.ext x1);have xw:=x0.trans x1;clear z x0 x1;have f:w.heap.size<=w.heap.size+2:=ω
 obtain⟨M,j⟩:∃M,w.heap.size+2=M:=⟨_,rfl⟩;rw[j] at i f⊢;clear j;obtain⟨k0,k1,k2⟩:=i.out.cells;have f0:=i.out.thaw 0;have f1:=i.out.thaw 1;have f2:=i.out.thaw 2;obtain⟨Z,Y,X⟩:=(i.out.store K J I).cells;go_wp2;exact aB (v:=hgv ⟨(K,J),I⟩) (by simp[cg,results143,go_sem,Z,Y,X]) rfl ⟨rfl,((xw.setCell f _).setCell f _).setCell f _⟩
end
section
attribute [local go_sem] ah
theorem Zb:(pg.info? 3).map (λi=>(i.zero,i.size,i.bytes))=some (some (.int .i64 0),1,8):=κ
def ZS (w:ae) (A:Option Addr) (l:List Int):Prop:=Row w A (l.map Vi)
theorem ZS.ext {w w':ae} {A:Option Addr} {l:List Int} (h:ZS w A l) (a:Ext w w'):ZS w' A l:=Row.ext h a
theorem ZS.at {w:ae} {A:Option Addr} {l:List Int} (h:ZS w A l) {k:Nat} {z:Int} (a:l[k]? =some z):∃b o,A=some ⟨b,o,none⟩/\w.cell? ⟨b,o+k,none⟩=some (Vi z):=by
 have f:=kJ a;obtain⟨b,o,e,i⟩:=h (by rw[fs];omega);exact⟨b,o,e,i k _ (by rw[List.getElem?_map,a];rfl)⟩
theorem GR (l:List Int):∀u∈l.map Vi,u.oneCell'=true:=by intro u a;obtain⟨b,_,rfl⟩:=List.mem_map.1 a;rfl
theorem ZS.new (w:ae) (z:Int):ZS (w.alloc (.cells #[.int .i64 z] 3)) (some ⟨w.heap.size,0,none⟩) [z]:=Row.new w #[.int .i64 z] 3
def kY (w W:ae) (v:au) (l:List Int):Prop:=jQ 3 1 w W v l.length (l.map Vi)
theorem kY.nil (w W:ae):kY w W (.slice none 0 0) []:=jQ.nil _ _ _ _
theorem kY.ext {w W W':ae} {v:au} {l:List Int} (h:kY w W v l) (a:Ext W W'):kY w W' v l:=jQ.ext h a
theorem kY.lt {w W:ae} {v:au} {l:List Int} (h:kY w W v l):∀k,v.ownBlock=some k->w.heap.size<=k/\k<W.heap.size:=bQ h
theorem kY.open {w W:ae} {v:au} {l:List Int} (h:kY w W v l):∃A c,v= .slice A l.length c/\l.length<=c/\ZS W A l:=by
 obtain⟨A,c,rfl,a⟩:=jQ.form h;exact⟨A,c,rfl,a,jQ.row h⟩
theorem agH (w0 w:ae) (z:TypeId) (v:au) (l:List Int) (f:kY w0 w v l) (H:w0.heap.size<=w.heap.size) (A:Option Addr) (m c:Nat) (r:List Int) (hm:r.length=m) (I:ZS w A r) (N:l.length+r.length<=17000000000000):
  ∃a w',(dg #[23,23] z #[v,.slice A m c]).run pg w= .ok a w'/\kY w0 w' a (l++r)/\w.grownBy w' v.ownBlock/\(a.ownBlock=v.ownBlock\/a.ownBlock=some w.heap.size):=by
 obtain⟨i,hi,u,q,j⟩:=dK Zb;subst hm;obtain⟨a,w',e,M,K,J⟩:=kL (P:=pg) w w0.heap.size 23 z 3 i _ 1 8 underlying23 hi u q j rfl ω v l.length _ f A r.length c (r.map Vi) (by rw[fs,Nat.mul_one]) I (GR r)
  (by unfold maxLen;omega) ω H
 refine⟨a,w',e,?_,K,J⟩;unfold kY jQ;rw[List.map_append,ag];exact M
end
end Go.Proofs.YtncfhbpejchbfaaGreatDoor

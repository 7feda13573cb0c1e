/-
  Lemmas of this seat; no claim.
-/
import Derived.Deep.OwnRows
import Derived.Deep.DeepCutAuto
import Derived.Room.AppendUpon
import Derived.Test.YtejbpijamdlgcaaGreatDoorPNf1
import Derived.Test.YtejbpijamdlgcaaGreatDoorPMl1
import Derived.Test.YtejbpijamdlgcaaGreatDoorPGf1
import Derived.Test.YtejbpijamdlgcaaGreatDoorPSf2
set_option linter.unusedVariables false
set_option linter.unusedSimpArgs false
set_option maxRecDepth 100000
set_option maxHeartbeats 16000000
open Array renaming getElem?_eq_some_iff→aC
open Go renaming Calls→aX,Value→aI,World→aj,bodyPost_ret→aN,cell_of_row→ak,heap_alloc_new→aT,heap_setCell_same→aB,info_parts→gJ,madeCells→jo,results→dK,run_underlying→bR,wpList→lK
open Go.ChangeMaps renaming setBlock→bV
open Go.Instr renaming checkKey→fP,findAsking→gK,findKey→iN,lookup→lD,makeSlice→mZ
open Go.IntKind renaming i64→dO
open Go.IntWalk renaming i64_left→kW
open Go.Lib renaming hid→ah
open Go.MapKept renaming run_getObj_map→eU
open Go.Result renaming andThen_ok→eD,andThen→dh
open Go.RowKit.Below renaming block→aJ
open Go.Sem renaming run_bind→fQ,run_pure→kP
open Go.World renaming cell?_alloc_some→au
open List renaming cons_append→aV,getElem?_eq_getElem→aO,getElem?_take→iA,length_append→ay,length_take→bN,map_cons→bU,map_nil→fH,map_toArray→iV,take_of_length_le→bI,take_zero→eG
open Nat renaming le_refl→aD,zero_add→bH
open Option renaming map_some→kQ
namespace Go.Proofs.YtejbpijamdlgcaaGreatDoor
open Go.ChangeShapes Go.WideShapes Go.ChangeAt Go.RowKit Go.Sort
section
attribute [local go_sem] au
def abx (x:I2):List aI:=[Vu x.1,Vu x.2]
theorem RQ (p:I2):(abx p).length=2:=rfl
theorem abw (p:I2):∀u∈abx p,u.oneCell'=true:=by intro u a;simp[abx] at a;rcases a with rfl|rfl <;> rfl
theorem aeN:(Tryz.prog.info? 55).map (λi=>(i.zero,i.size,i.bytes))=some (some (.agg #[.int .u32 0,.int .u32 0]),2,8):=κ
def OdS (w:aj) (A:Option Addr) (l:List I2):Prop:=Row w A (flat abx l)
theorem OdS.ext {w w':aj} {A:Option Addr} {l:List I2} (h:OdS w A l) (a:Ext w w'):OdS w' A l:=Row.ext h a
theorem OdS.at {w:aj} {A:Option Addr} {l:List I2} (h:OdS w A l) {k:Nat} (i:k<l.length):∃b o x,A=some ⟨b,o,none⟩/\l[k]? =some x/\w.cell? ⟨b,o+k*2,none⟩=some (Vu x.1)/\w.cell? ⟨b,o+k*2+1,none⟩=some (Vu x.2):=by
 obtain⟨x,a⟩:∃p,l[k]? =some p:=⟨l[k],aO i⟩;obtain⟨b,o,e,f⟩:=Row.at h RQ a ω;exact⟨b,o,x,e,a,f 0 _ rfl,f 1 _ rfl⟩
theorem OdS.newAt {W:aj} {s:Nat} (x:I2) (h:W.heap.size=s):OdS (W.alloc (.cells #[.int .u32 x.1,.int .u32 x.2] 55)) (some ⟨s,0,none⟩) [x]:=h▸Row.new W #[.int .u32 x.1,.int .u32 x.2] 55
def Ii (w W:aj) (v:aI) (l:List I2):Prop:=oW 55 2 w W v l.length (flat abx l)
theorem Ii.ext {w W W':aj} {v:aI} {l:List I2} (h:Ii w W v l) (a:Ext W W'):Ii w W' v l:=oW.ext h a
theorem Ii.open {w W:aj} {v:aI} {l:List I2} (h:Ii w W v l):∃A c,v= .slice A l.length c/\l.length<=c/\OdS W A l:=by
 obtain⟨A,c,rfl,a⟩:=oW.form h;exact⟨A,c,rfl,a,oW.row h⟩
theorem HZ {w0 w:aj} {j:Array Oper} {rest:List Oper} {o:Oper} {a:Act} {Q:Exit->Act->aj->Prop} (I:o.guard=none) (s x:Operand)
  (U:o.op= .call { callee:= .builtin .append,args:= #[s,x],argTypes:= #[51,51] })
  (v:aI) (l:List I2) (N:a.eval s=v) (e:Ii w0 w v l) (J:Ext w0 w)
  (A:Option Addr) (m c:Nat) (r:List I2) (X:a.eval x= .slice A m c) (W:r.length=m) (O:OdS w A r) (hb:l.length+r.length<=10000000000000)
  (h:∀f w',Ii w0 w' f (l++r)->Ext w0 w'->w.grownBy w' v.ownBlock->(f.ownBlock=v.ownBlock\/f.ownBlock=some w.heap.size)->lK Tryz.prog j Q rest (a.put o.dst f) w'):lK Tryz.prog j Q (o::rest) a w:=by
 refine wpList_plain I λK Y=>?_
 obtain⟨i,hi,H,z,u⟩:=gJ aeN;subst W;obtain⟨f,w',q,h2,M,Z⟩:=ql (P:=Tryz.prog) w w0.heap.size 51 o.type 55 i _ 2 8 Tryz.underlying51 hi H z u rfl ω v l.length _ e A r.length c _ (oV RQ r) O (qy abw r)
  (by unfold maxLen;omega) ω J.size
 unfold Oper.wp execOp;simp only[U,resolve,invoke,builtin,fQ,kP,eD,iV,bU,fH,N,X,q];refine Y _ _ (h f w' ?_ (J.grown M (oW.lt e)) M Z);unfold Ii oW;rw[qp,ay];exact h2
abbrev hgv (x:Hg):aI:= .agg #[.int .u32 x.on.1,.int .u32 x.on.2,.bool x.right]
end
section
attribute [local go_sem] au calm oK oG
end
section
attribute [local go_sem] au
end
section
def vJ (w:aj) (b:Nat) (l:List (I2×aI)):Prop:=∃f a,w.heap[b]? =some (.map f a)/\f.toList.map (λe=>(e.key,e.val))=l.map λp=>(idv p.1.1 p.1.2,p.2)
def lkp:List (I2×aI)->I2->Option aI
 |[],_=>none
 |p::r,a=>if p.1=a then some p.2 else lkp r a
variable {E T:TypeId} {b:Nat} {l:List (I2×aI)} {w:aj}
theorem vJ.lt (h:vJ w b l):b<w.heap.size:=by
 obtain⟨f,e,a,_⟩:=h;exact(aC.1 a).1
theorem vJ.kept {w':aj} {row:Option Nat} (h:vJ w b l) (j:w.grownBy w' row) (a:some b≠row):vJ w' b l:=by
 have e:=h.lt;obtain⟨u,f,q,i⟩:=h;exact⟨u,f,(j.block b e a).trans q,i⟩
theorem vJ.ext {w':aj} (h:vJ w b l) (f:Ext w w'):vJ w' b l:=by
 have a:=h.lt;obtain⟨q,e,j,i⟩:=h;exact⟨q,e,(aJ f b a).trans j,i⟩
theorem vJ.made (w:aj):vJ (w.alloc (.map #[] 0)) w.heap.size []:=⟨#[],0,(MapKept.heap_alloc w _).1,rfl⟩
theorem EL (a b c d:Int) (W:aj):(Op.equal 55 (.agg #[.int .u32 a,.int .u32 b]) (.agg #[.int .u32 c,.int .u32 d])).run Tryz.prog W= .ok (decide (a=c/\b=d)) W:=by
 show(Op.equalIn 10000 55 (.agg #[.int .u32 a,.int .u32 b]) (.agg #[.int .u32 c,.int .u32 d])).run Tryz.prog W=_;by_cases e:a=c
 ·by_cases f:b=d
  ·subst e;subst f;simp[go_sem]
  ·have:(b==d)=false:=by simpa using f
   subst e;simp[go_sem,this,f]
 ·have:(a==c)=false:=by simpa using e
  simp[go_sem,this,e]
theorem Ns (a b:Int) (W:aj):∀(f:List MapEntry) (l:List (I2×aI)) (i:Nat),f.map (λe=>(e.key,e.val))=l.map (λp=>(idv p.1.1 p.1.2,p.2))->
  ∃r,(gK 55 (idv a b) f i).run Tryz.prog W= .ok r W/\r.map (·.2)=lkp l (a,b)
 |[],[],i,_=>⟨none,rfl,rfl⟩
 |[],p::l,i,h=>by simp at h
 |e::f,[],i,h=>by simp at h
 |e::f,p::l,i,h=>by
  obtain⟨⟨c,d⟩,v⟩:=p;simp only[bU,List.cons.injEq,Prod.mk.injEq] at h;obtain⟨⟨q,I⟩,H⟩:=h;by_cases j:c=a/\d=b
  ·obtain⟨rfl,rfl⟩:=j
   refine⟨some (i,e.val),?_,by simp[lkp,I]⟩;unfold gK;simp[q,EL,dh]
  ·have z:decide (a=c/\b=d)=false:=decide_eq_false (λe=>j ⟨e.1.symm,e.2.symm⟩)
   obtain⟨r,u,hv⟩:=Ns a b W f l (i+1) H;refine⟨r,?_,?_⟩
   ·unfold gK
    simp only[fQ,q,EL,z,eD];simpa using u
   ·unfold lkp
    rw[if_neg (λe=>j (by injection e with e1 e2;exact⟨e1,e2⟩))];exact hv
theorem V3 (a b:Int) (W:aj) (f:List MapEntry) (l:List (I2×aI)) (h:f.map (λe=>(e.key,e.val))=l.map (λp=>(idv p.1.1 p.1.2,p.2))):
  ∃r,(iN 55 (idv a b) f).run Tryz.prog W= .ok r W/\r.map (·.2)=lkp l (a,b):=by
 obtain⟨r,i,hv⟩:=Ns a b W f l 0 h;refine⟨r,?_,hv⟩;unfold iN;simp only[fQ,bR Tryz.underlying55,eD];cases f with
 |nil=>simpa[Instr.findNow,gK] using i
 |cons e f=>simpa[Instr.findNow,Instr.sameNow] using i
theorem EM (e:Bool) (a b:Int) (W:aj):(fP e 10000 55 (idv a b)).run Tryz.prog W= .ok () W:=by
 have f:∀W:aj,(fP e 9999 24 (.int .u32 a)).run Tryz.prog W= .ok () W:=λW=>by
  show(fP e (9998+1) _ _).run Tryz.prog W=_;unfold fP;simp only[fQ,bR Tryz.underlying24,eD];rfl
 have hv:∀W:aj,(fP e 9999 24 (.int .u32 b)).run Tryz.prog W= .ok () W:=λW=>by
  show(fP e (9998+1) _ _).run Tryz.prog W=_;unfold fP;simp only[fQ,bR Tryz.underlying24,eD];rfl
 show(fP e (9999+1) _ _).run Tryz.prog W=_;unfold fP;simp[bR Tryz.underlying55,go_sem,f,hv]
theorem vJ.look (h:vJ w b l) (e:Tryz.prog.underlying T=some (.map 55 E)) (a:I2) (z:aI) (u:(zeroValue E).run Tryz.prog w= .ok z w):
  (lD T (.map (some b)) (.agg #[.int .u32 a.1,.int .u32 a.2]) false).run Tryz.prog w= .ok ((lkp l a).getD z) w:=by
 obtain⟨q,I,j,H⟩:=h;obtain⟨r,f,hv⟩:=V3 a.1 a.2 w q.toList l H;have i:=EM q.isEmpty a.1 a.2 w;rw[<-hv];cases r with
 |none=>simp[lD,bR e,eU j,i,f,u,dh]
 |some r=>simp[lD,bR e,eU j,i,f,dh]
theorem vJ.store (h:vJ w b l) (z:Tryz.prog.underlying T=some (.map 55 E)) (a:I2) (v:aI) (I:lkp l a=none):
  ∃w',(Instr.mapUpdate T (.map (some b)) (.agg #[.int .u32 a.1,.int .u32 a.2]) v).run Tryz.prog w= .ok () w'/\vJ w' b (l++[(a,v)])/\w.grownBy w' (some b):=by
 obtain⟨u,f,j,q⟩:=h;obtain⟨r,H,hv⟩:=V3 a.1 a.2 w u.toList l q;rw[I] at hv;cases r with
 |some r=>cases hv
 |none=>
  have J:=EM false a.1 a.2 w;refine⟨bV w b (.map (u.push ⟨idv a.1 a.2,v,f⟩) (f+1)),by simp[Instr.mapUpdate,bR z,eU j,J,H,MapKept.run_setObj_map _ j,dh,bV],⟨_,_,ChangeMaps.heap_setBlock_same j _,?_⟩,⟨rfl,rfl,rfl,by simp[bV],λi _ hi=>ChangeMaps.heap_setBlock_other j _ (λe=>hi (by rw[e]))⟩⟩;simp[q]
theorem aam (a:Tryz.prog.underlying T=some (.map 55 E)) (n:Int) (W:aj):(Instr.makeMap T (some (.int .i64 n))).run Tryz.prog W= .ok (.map (some W.heap.size)) (W.alloc (.map #[] 0)):=by
 unfold Instr.makeMap;simp[bR a,asInt,newObj,go_sem,dh];rfl
theorem Fv (w:aj) {e:Array Oper} {rest:List Oper} {o:Oper} {x:Act} {Q:Exit->Act->aj->Prop} (K:o.guard=none) (m k v:Operand) (T E:TypeId) (i:o.op=Op.mapUpdate T m k v)
  (z:Tryz.prog.underlying T=some (.map 55 E)) (b:Nat) (l:List (I2×aI)) (I:x.eval m= .map (some b)) (h:vJ w b l) (a c:Int) (val:aI) (J:x.eval k= .agg #[.int .u32 a,.int .u32 c]) (hv:x.eval v=val) (H:lkp l (a,c)=none)
  (M:∀w',vJ w' b (l++[((a,c),val)])->w.grownBy w' (some b)->lK Tryz.prog e Q rest (x.put o.dst undef) w'):lK Tryz.prog e Q (o::rest) x w:=by
 refine wpList_plain K λN j=>?_
 obtain⟨w',f,u,q⟩:=h.store z (a,c) val H;unfold Oper.wp;simp[execOp,i,I,J,hv,f,dh];exact j _ _ (M w' u q)
theorem JO {a:I2}:lkp l a=none↔∀p∈l,p.1≠a:=by
 induction l with
 |nil=>simp[lkp]
 |cons p l ih=>
  rw[lkp]
  split
  ·simp_all
  ·simp_all
end
section
attribute [local go_sem] au
def Dz (x:Nd):List aI:=[Vu x.id.1,Vu x.id.2,Vi (x.on:Int),.bool x.right,Vi (x.depth:Int),Vi (x.far:Int)]
theorem xR (p:Nd):(Dz p).length=6:=rfl
theorem aby (p:Nd):∀u∈Dz p,u.oneCell'=true:=by intro u a;simp[Dz] at a;rcases a with rfl|rfl|rfl|rfl|rfl|rfl <;> rfl
theorem VL:(Tryz.prog.info? 141).map (λi=>(i.zero,i.size,i.bytes))=some (some (.agg #[.int .u32 0,.int .u32 0,.int .i64 0,.bool false,.int .i64 0,.int .i64 0]),6,40):=κ
def NdS (w:aj) (A:Option Addr) (l:List Nd):Prop:=Row w A (flat Dz l)
theorem NdS.ext {w w':aj} {A:Option Addr} {l:List Nd} (h:NdS w A l) (a:Ext w w'):NdS w' A l:=Row.ext h a
structure NdC (w:aj) (b o:Nat) (x:Nd):Prop where
 c0:w.cell? ⟨b,o,none⟩=some (Vu x.id.1)
 c1:w.cell? ⟨b,o+1,none⟩=some (Vu x.id.2)
 c2:w.cell? ⟨b,o+2,none⟩=some (Vi (x.on:Int))
 c3:w.cell? ⟨b,o+3,none⟩=some (.bool x.right)
 c4:w.cell? ⟨b,o+4,none⟩=some (Vi (x.depth:Int))
 c5:w.cell? ⟨b,o+5,none⟩=some (Vi (x.far:Int))
theorem NdC.ext {w w':aj} {b o:Nat} {x:Nd} (h:NdC w b o x) (a:Ext w w'):NdC w' b o x:=⟨a.keep h.c0,a.keep h.c1,a.keep h.c2,a.keep h.c3,a.keep h.c4,a.keep h.c5⟩
theorem NdS.at {w:aj} {b o:Nat} {l:List Nd} (h:NdS w (some ⟨b,o,none⟩) l) {k:Nat} {x:Nd} (f:l[k]? =some x):NdC w b (o+k*6) x:=by
 obtain⟨j,i,e,a⟩:=Row.at h xR f ω;injection e with e;injection e with e1 e2 e3;subst e1;subst e2;exact⟨a 0 _ rfl,a 1 _ rfl,a 2 _ rfl,a 3 _ rfl,a 4 _ rfl,a 5 _ rfl⟩
def Ov (k:Nat):List It->List (I2×aI)
 |[]=>[]
 |x::l=>(iid x,.int .i64 (k:Int))::Ov (k+1) l
def F7 (l:List It):List (I2×aI):=Ov 1 l
theorem Mc (x:It):∀(l:List It) (k:Nat),Ov k (l++[x])=Ov k l++[(iid x,.int .i64 ((k+l.length:Nat):Int))]
 |[],k=>by simp[Ov]
 |y::l,k=>by
  rw[aV,Ov,Ov,Mc x l,aV,List.length_cons,show k+1+l.length=k+(l.length+1) by omega]
theorem Xp (l:List It) (x:It):F7 (l++[x])=F7 l++[((x.c,x.k),.int .i64 ((l.length+1:Nat):Int))]:=by
 unfold F7;rw[Mc,Nat.add_comm];rfl
theorem JA (a:I2):∀(l:List It) (k:Nat),lkp (Ov k l) a=(fnd l a).map λi=> .int .i64 ((k+i:Nat):Int)
 |[],k=>rfl
 |y::l,k=>by
  rw[Ov,lkp,fnd,JA a l];by_cases h:iid y=a
  ·simp[h]
  ·simp only[h,if_false]
   cases fnd l a with
   |none=>rfl
   |some i=>simp only[kQ,show k+1+i=k+(i+1) by omega]
theorem Z5 (l:List It) (a:I2):(lkp (F7 l) a).getD (.int .i64 0)= .int .i64 (uW l a:Int):=by
 unfold F7 uW;rw[JA];cases fnd l a with
 |none=>rfl
 |some i=>simp only[kQ,Option.getD_some,Nat.add_comm]
theorem Xq {l:List It} {a:I2} (h:nZ l a=false):lkp (F7 l) a=none:=by
 unfold F7;rw[JA,wH.2 h];rfl
theorem agZ (w:aj):(zeroValue 3).run Tryz.prog w= .ok (.int .i64 0) w:=κ
theorem vJ.num {w:aj} {b:Nat} {l:List It} (h:vJ w b (F7 l)) (a c:Int):(lD 129 (.map (some b)) (.agg #[.int .u32 a,.int .u32 c]) false).run Tryz.prog w= .ok (.int .i64 (uW l (a,c):Int)) w:=by
 have:=h.look Tryz.underlying129 (a,c) (.int .i64 0) (agZ w);rw[Z5] at this;exact this
structure GrS (W:aj) (g:Nat) (l:List It) (ns:List Nd):Prop where
 ok:GrN l ns
 kn:og l=true
 cells:∃b o cap mb,W.cell? ⟨g,0,none⟩=some (.slice (some ⟨b,o,none⟩) (l.length+1) cap)/\W.cell? ⟨g,1,none⟩=some (.map (some mb))/\l.length+1<=cap/\NdS W (some ⟨b,o,none⟩) ns/\vJ W mb (F7 l)
theorem GrS.ext {W W':aj} {g:Nat} {l:List It} {e:List Nd} (h:GrS W g l e) (a:Ext W W'):GrS W' g l e:=by
 obtain⟨b,o,cap,f,z,u,q,j,i⟩:=h.cells;exact⟨h.ok,h.kn,b,o,cap,f,a.keep z,a.keep u,q,j.ext a,i.ext a⟩
structure GrT (W:aj) (g:Nat) (l:List It) (ns:List Nd):Prop where
 ok:GrN l ns
 kn:og l=true
 cells:∃b o cap,W.cell? ⟨g,0,none⟩=some (.slice (some ⟨b,o,none⟩) (l.length+1) cap)/\l.length+1<=cap/\NdS W (some ⟨b,o,none⟩) ns
theorem PW {P q:Pth} {d:Nat} (h:d<=P.length):(P++q).take d=P.take d:=by
 rw[List.take_append,show d-P.length=0 by omega,eG,List.append_nil]
theorem Y7 (g:Nat) (l:List It) (ns:List Nd) (n d:Nat) (w:aj) (h:GrS w g l ns) (hn:n<=l.length) (hd:d<=(sw l n).length) (hb:l.length<=1000000000000000):
  aX Tryz.prog 94 #[.pointer (some ⟨g,0,none⟩),Vi (n:Int),Vi (d:Int)] w λe w'=>∃m:Nat,e= .returned (Vi (m:Int))/\m<=l.length/\sw l m=(sw l n).take d/\Ext w w':=by
 obtain⟨b,o,cap,mb,g0,g1,U,Y,hM⟩:=h.cells;have f:=ah h.ok;replace Y:=ah Y;have a0:=ah hd;obtain⟨N,u⟩:∃N,l.length+1=N:=⟨_,rfl⟩;rw[u] at g0;replace u:=ah u;clear h hM g1 U hd;go_enter Tryz.func94,Tryz.ntmps94;go_wp2
 go_loopw [1,7] (λi _ W=>∃(m:Nat),m<=l.length/\i=Vi (m:Int)/\Hid (d<=(sw l m).length/\(sw l m).take d=(sw l n).take d)/\W=w) (λi _ _=>(sw l (intOf i).toNat).length)
 case atStart=>exact⟨n,hn,rfl,ah ⟨a0.out,rfl⟩,rfl⟩
 case round=>
  obtain⟨m,hm,rfl,J,rfl⟩:=hrel;obtain⟨nd,a⟩:=f.out.get hm;obtain⟨K,d2,d3,q,X,d5⟩:=f.out.deep m nd a;have Z:=f.out.up m nd a;have a5:(0:Int)<=(m:Int):=ω
  have a4:(m:Int)<(N:Int):=by have:=u.out;omega
  obtain⟨c0,c1,c2,c3,c4,c5⟩:=Y.out.at a;by_cases j:d<nd.depth
  ·have Q:(d:Int)<(nd.depth:Int):=ω
   have O:0<m:=by
        rcases Nat.eq_zero_or_pos m with e|e
        ·subst e;rw[K] at j;simp[CX] at j
        ·exact e
   obtain⟨fd,H⟩:=f.out.get d3;obtain⟨f1,_⟩:=f.out.deep _ _ H;obtain⟨_,_,_,_,e4,_⟩:=Y.out.at H;have a3:(0:Int)<=(nd.far:Int):=ω
   have a2:(nd.far:Int)<(N:Int):=by have:=u.out;omega
   by_cases h2:d<=fd.depth
   ·have a1:(d:Int)<=(fd.depth:Int):=ω
    have M:=ah (show d<=(sw l nd.far).length/\(sw l nd.far).take d=(sw l n).take d by
     refine⟨ω,?_⟩;rw[<-J.out.2,X,PW ω])
    have I:=ah (show(sw l nd.far).length<(sw l m).length by
     rw[X,ay];have:=List.length_pos_iff.2 (d5 O);omega)
    clear J K X d5 Z f1 a H j h2;go_wp2
    go_roundw
    case rel=>exact⟨nd.far,d3,rfl,M,trivial⟩
    case measure=>simpa[intOf] using I.out
   ·have a1:¬(d:Int)<=(fd.depth:Int):=ω
    have z:=Z O;have M:=ah (show d<=(sw l nd.on).length/\(sw l nd.on).take d=(sw l n).take d by
     have:d<=(sw l nd.on).length:=by
      rw[z] at K;simp at K;omega
     refine⟨this,?_⟩;rw[<-J.out.2,z,PW this])
    have I:=ah (show(sw l nd.on).length<(sw l m).length by
     rw[z,ay];simp)
    clear J K X d5 Z f1 a H j h2 z;go_wp2
    go_roundw
    case rel=>exact⟨nd.on,d2,rfl,M,trivial⟩
    case measure=>simpa[intOf] using I.out
  ·have Q:¬(d:Int)<(nd.depth:Int):=ω
   have M:=ah (show sw l m=(sw l n).take d by
        rw[<-J.out.2,bI ω])
   clear J K X d5 Z a j;go_wp2;go_ret;exact⟨m,rfl,hm,M.out,Ext.refl _⟩
theorem FC {n:Int} (e: -9223372036854775808<=n) (a:n<=9223372036854775807):wrap64 n=n:=by rw[<-kW];exact IntWalk.i64_in n ⟨e,a⟩
theorem RL (g:Nat) (l:List It) (J:List Nd) (n:Nat) (w:aj) (h:GrT w g l J) (K:n<=l.length) (hb:l.length<=1000000000000000):
  aX Tryz.prog 93 #[.pointer (some ⟨g,0,none⟩),Vi (n:Int)] w λe w'=>e= .returned (Vi (Uw J n:Int))/\Ext w w':=by
 obtain⟨b,o,cap,g0,H,I⟩:=h.cells;have f:=h.ok;obtain⟨N,O⟩:∃N,l.length+1=N:=⟨_,rfl⟩;rw[O] at g0;obtain⟨nd,i⟩:=f.get K;obtain⟨d1,d2,U,_⟩:=f.deep n nd i;obtain⟨a,j⟩:=f.get U;obtain⟨f1,f2,Q,_⟩:=f.deep _ a j;obtain⟨z,q⟩:=f.get Q;obtain⟨e1,_⟩:=f.deep _ z q;have b1:=zX h.kn K;have b2:=zX h.kn U;have b3:=zX h.kn Q;obtain⟨c0,c1,c2,c3,c4,c5⟩:=I.at i;obtain⟨k0,k1,k2,k3,k4,k5⟩:=I.at j;obtain⟨m0,m1,m2,m3,m4,m5⟩:=I.at q;have a2:(0:Int)<=(n:Int):=ω
 have a1:(n:Int)<(N:Int):=ω
 have a0:(0:Int)<=(nd.far:Int):=ω
 have Z:(nd.far:Int)<(N:Int):=ω
 have Y:(0:Int)<=(a.far:Int):=ω
 have X:(a.far:Int)<(N:Int):=ω
 have W:Uw J n=if((nd.depth:Int)-a.depth=(a.depth:Int)-z.depth) then a.far else n:=by
  unfold Uw;simp only[EU i,EU j,EU q]
 have z1:wrap64 ((nd.depth:Int)-a.depth)=(nd.depth:Int)-a.depth:=FC ω ω;have z2:wrap64 ((a.depth:Int)-z.depth)=(a.depth:Int)-z.depth:=FC ω ω;rw[W];clear W d1 d2 U f1 f2 Q e1 I f i j q h H b1 b2 b3 K;by_cases u:(nd.depth:Int)-a.depth=(a.depth:Int)-z.depth
 ·rw[if_pos u]
  have M:((nd.depth:Int)-a.depth==(a.depth:Int)-z.depth)=true:=by rw[beq_iff_eq];exact u
  replace u:=ah u;go_enter Tryz.func93,Tryz.ntmps93;go_wp2
  go_quiet(fail)
  go_wp2;go_ret;exact⟨rfl,(Ext.refl _).drewN _⟩
 ·rw[if_neg u]
  have M:((nd.depth:Int)-a.depth==(a.depth:Int)-z.depth)=false:=by rw[beq_eq_false_iff_ne];exact u
  replace u:=ah u;go_enter Tryz.func93,Tryz.ntmps93;go_wp2
  go_quiet(fail)
  go_wp2;go_ret;exact⟨rfl,(Ext.refl _).drewN _⟩
theorem afu {l:List It} (h:og l=true) {m:Nat} {b:I2} (N:m<=l.length) (q:nZ l b=true) (e:sw l m=pth l b):m=uW l b:=by
 obtain⟨K,M,I,_⟩:=qo h b q;obtain⟨i,hi⟩:=EY q;rw[Vx hi];cases m with
 |zero=>rw[CX,I] at e;simp at e
 |succ j=>
  obtain⟨y,f⟩:∃y,l[j]? =some y:=⟨l[j],aO ω⟩;rw[CY f] at e;have a:nZ l (iid y)=true:=oP.2 ⟨y,List.mem_of_getElem? f,rfl⟩;have J:=Iu h a q e;obtain⟨z,u,H⟩:=xP hi;rw[VP h f u (J.trans H.symm)]
theorem Nq (g:Nat) (l:List It) (ns:List Nd) (j i f a:Int) (w:aj) (h:GrS w g l ns) (ha:nZ l (j,i)=true) (X:nZ l (f,a)=true) (hb:l.length<=1000000000000000):
  aX Tryz.prog 58 #[.pointer (some ⟨g,0,none⟩),idv j i,idv f a] w λe w'=>e= .returned (.bool (uO l (paths l) (j,i) (f,a)))/\Ext w w':=by
 rw[Ci h.kn ha X];have Y:=h;obtain⟨b,o,cap,mb,g0,g1,a7,hN,hM⟩:=h.cells;have u:=h.ok;obtain⟨N,b0⟩:∃N,l.length+1=N:=⟨_,rfl⟩;rw[b0] at g0;have a8:=ah (λW (hW:Ext w W)=>(hM.ext hW).num j i);have I:=ah (λW (hW:Ext w W)=>(hM.ext hW).num f a);have O:=EF l (j,i);have a4:=EF l (f,a);obtain⟨nd,M⟩:=u.get O;obtain⟨d1,_⟩:=u.deep _ nd M;obtain⟨H,K⟩:=u.get a4;obtain⟨t1,_⟩:=u.deep _ H K;rw[Bw Y.kn] at d1 t1;rw[<-d1,<-t1];have J:=ah (λW (hW:Ext w W) (hd:H.depth<=nd.depth)=>Y7 g l ns (uW l (j,i)) H.depth W (Y.ext hW) O (by rw[Bw Y.kn,<-d1];exact hd) hb);have z:=ah (λ(m:Nat) (hm:m<=l.length) (e:sw l m=(sw l (uW l (j,i))).take H.depth)=>show decide ((m:Int)=(uW l (f,a):Int))=decide ((pth l (j,i)).take H.depth=pth l (f,a)) by
  rw[Bw Y.kn] at e;rw[<-e];by_cases hc:sw l m=pth l (f,a)
  ·rw[decide_eq_true hc,afu Y.kn hm X hc];simp
  ·rw[decide_eq_false hc,decide_eq_false]
   intro e2;have e3:m=uW l (f,a):=ω
   exact hc (by rw[e3,Bw Y.kn]))
 have b6:(0:Int)<=(uW l (j,i):Int):=ω
 have b5:(uW l (j,i):Int)<(N:Int):=ω
 have b4:(0:Int)<=(uW l (f,a):Int):=ω
 have b3:(uW l (f,a):Int)<(N:Int):=ω
 have a5:=ah (hN.at M);have Z:=ah (hN.at K);clear hN hM u M K d1 t1 O a4 h Y a7 ha X hb;generalize pth l (j,i)=P at*;generalize pth l (f,a)=Q at*;generalize uW l (j,i)=na at*;generalize uW l (f,a)=nb at*;have x0:=((Ext.refl w).alloc (.cells #[.int .u32 j,.int .u32 i] 55)).alloc (.cells #[.int .u32 f,.int .u32 a] 55);have q0:=x0.keep g0;have q1:=x0.keep g1;obtain⟨c0,c1,c2,c3,c4,c5⟩:=a5.out.ext x0;obtain⟨e0,e1,e2,e3,e4,e5⟩:=Z.out.ext x0;have l1:=λk=>a8.out (World.drewN ((w.alloc (.cells #[.int .u32 j,.int .u32 i] 55)).alloc (.cells #[.int .u32 f,.int .u32 a] 55)) k) (x0.drewN k)
 have l2:=λk=>I.out (World.drewN ((w.alloc (.cells #[.int .u32 j,.int .u32 i] 55)).alloc (.cells #[.int .u32 f,.int .u32 a] 55)) k) (x0.drewN k)
 have a0:((w.alloc (.cells #[.int .u32 j,.int .u32 i] 55)).alloc (.cells #[.int .u32 f,.int .u32 a] 55)).cell? ⟨w.heap.size,0,none⟩=some (Vu j):=σ
 have b9:((w.alloc (.cells #[.int .u32 j,.int .u32 i] 55)).alloc (.cells #[.int .u32 f,.int .u32 a] 55)).cell? ⟨w.heap.size,1,none⟩=some (Vu i):=σ
 have b8:((w.alloc (.cells #[.int .u32 j,.int .u32 i] 55)).alloc (.cells #[.int .u32 f,.int .u32 a] 55)).cell? ⟨w.heap.size+1,0,none⟩=some (Vu f):=σ
 have b7:((w.alloc (.cells #[.int .u32 j,.int .u32 i] 55)).alloc (.cells #[.int .u32 f,.int .u32 a] 55)).cell? ⟨w.heap.size+1,1,none⟩=some (Vu a):=σ
 have hE:=ah x0;clear g0 g1 x0 a8 I a5 Z;by_cases q:H.depth<nd.depth
 ·have a6:¬(nd.depth:Int)<=(H.depth:Int):=ω
  have U:H.depth<=nd.depth:=ω
  rw[decide_eq_true q,Bool.true_and];obtain⟨B,hB⟩:∃B,decide (P.take H.depth=Q)=B:=⟨_,rfl⟩;rw[hB];replace hB:=ah hB;replace q:=ah q;replace U:=ah U;go_enter Tryz.func58,Tryz.ntmps58;go_wp2;generalize(w.alloc (.cells #[.int .u32 j,.int .u32 i] 55)).alloc (.cells #[.int .u32 f,.int .u32 a] 55)=w0 at*;generalize w.heap.size=pa at*
  go_quiet(fail)
  go_wp2
  go_quiet(fail)
  go_wp2_with fail
  refine(J.out _ (hE.out.drewN _) U.out).mono ?_;rintro e w1 ⟨m,rfl,hm,a3,x1⟩;have hq:=z.out m hm a3;have xe:=ah ((hE.out.drewN _).trans x1);rw[hB.out] at hq;clear x1 a3 hm J z hB;cases B with
  |true=>
   have a9:((m:Int)==(nb:Int))=true:=by simpa using hq
   go_wp2;go_ret;exact⟨rfl,xe.out⟩
  |false=>
   have a9:((m:Int)==(nb:Int))=false:=by simpa using hq
   go_wp2;go_ret;exact⟨rfl,xe.out⟩
 ·have a6:(nd.depth:Int)<=(H.depth:Int):=ω
  rw[decide_eq_false q,Bool.false_and];replace q:=ah q;clear J z;go_enter Tryz.func58,Tryz.ntmps58;go_wp2;generalize(w.alloc (.cells #[.int .u32 j,.int .u32 i] 55)).alloc (.cells #[.int .u32 f,.int .u32 a] 55)=w0 at*;generalize w.heap.size=pa at*
  go_quiet(fail)
  go_wp2
  go_quiet(fail)
  go_wp2;go_ret;exact⟨rfl,by first|exact hE.out.drewN _|exact(hE.out.drewN _).drewN _⟩
section
def y7 (W:aj) (q:Nat) (x:Hg):Prop:=W.heap[q]? =some (.cells #[Vu x.on.1,Vu x.on.2,.bool x.right] 134 (0,0))
variable {W:aj} {l:List It} {p:Prop} {q:Nat} {x:Hg}
theorem y7.ext {W':aj} (h:y7 W q x) (a:Ext W W'):y7 W' q x:=by
 unfold y7 at h⊢;rw[aJ a q (aC.1 h).1];exact h
theorem y7.store (h:y7 W q x) (a b:Int) (r:Bool):y7 (((W.setCell ⟨q,0,none⟩ (Vu a)).setCell ⟨q,1,none⟩ (Vu b)).setCell ⟨q,2,none⟩ (.bool r)) q ⟨(a,b),r⟩:=
 aB _ _ 2 _ _ _ (aB _ _ 1 _ _ _ (aB _ _ 0 _ _ _ h))
theorem y7.cells (h:y7 W q x):W.cell? ⟨q,0,none⟩=some (Vu x.on.1)/\W.cell? ⟨q,1,none⟩=some (Vu x.on.2)/\W.cell? ⟨q,2,none⟩=some (.bool x.right):=
 ⟨by rw[ak W q 0 _ _ _ h];rfl,by rw[ak W q 1 _ _ _ h];rfl,by rw[ak W q 2 _ _ _ h];rfl⟩
theorem y7.thaw (h:y7 W q x) (o:Nat):W.frozen? ⟨q,o,none⟩=false:=frozen_of_row W q o _ _ h
theorem y7.new (W:aj) (a b:Int) (r:Bool):y7 (W.alloc (.cells #[.int .u32 a,.int .u32 b,.bool r] 134)) W.heap.size ⟨(a,b),r⟩:=aT W _
theorem aaW {x:It} (a:x.rc=0):hgP l x=if x.lc=0 then⟨(0,0),true⟩ else⟨(x.lc,x.lk),true⟩:=by
 unfold hgP FY;rw[if_neg (λe=>e.1 a)]
 split <;> rfl
theorem aaX {x:It} (a:x.rc≠0) (e:x.lc=0):hgP l x=⟨(x.rc,x.rk),false⟩:=by
 unfold hgP FY;rw[if_pos ⟨a,by unfold uO ilf;simp[e]⟩];rfl
theorem aaY {x:It} (f:x.rc≠0) (i:x.lc≠0):hgP l x=if uO l (paths l) (irt x) (ilf x)=true then⟨(x.rc,x.rk),false⟩ else⟨(x.lc,x.lk),true⟩:=by
 unfold hgP FY;by_cases a:uO l (paths l) (irt x) (ilf x)=true
 ·rw[if_pos ⟨f,a⟩,if_pos a];rfl
 ·rw[if_neg (λe=>a e.2),if_neg a,if_neg i];rfl
theorem KJ (h:p:=by
 have:=y7.new (w.alloc (.cells #[.int .u32 x.c,.int .u32 x.k,.int .u32 x.lc,.int .u32 x.lk,.int .u32 x.rc,.int .u32 x.rk,.int .i32 x.ch] 57)) 0 0 false;rw[show(w.alloc (.cells #[.int .u32 x.c,.int .u32 x.k,.int .u32 x.lc,.int .u32 x.lk,.int .u32 x.rc,.int .u32 x.rk,.int .i32 x.ch] 57)).heap.size=w.heap.size+1 by simp] at this;exact this.ext x1):p:=h
theorem abS (h:p:=by
 obtain⟨k0,k1,k2⟩:=b0.out.cells;have f0:=b0.out.thaw 0;have f1:=b0.out.thaw 1;have f2:=b0.out.thaw 2;obtain⟨z0,z1,z2⟩:=(b0.out.store x.rc x.rk false).cells;go_wp2;exact aN (v:=hgv ⟨(x.rc,x.rk),false⟩) (by simp[dK,Tryz.results57,go_sem,z0,z1,z2]) rfl ⟨by rw[hR.out],((xw.setCell hwb _).setCell hwb _).setCell hwb _⟩):p:=h
theorem abT (h:p:=by
 obtain⟨R,hR⟩:∃R,hgP l x=R:=⟨_,rfl⟩;rw[hR];by_cases e0:x.rc=0
 ·have g0:(x.rc==0)=true:=by simpa using e0
  rw[aaW e0] at hR;by_cases e1:x.lc=0
  ·have g1:(x.lc==0)=true:=by simpa using e1
   rw[if_pos e1] at hR;replace hR:=ah hR.symm;clear e0 e1 hcall;go_enter Tryz.func57,Tryz.ntmps57
   go_wp2_with fail
   refine(qM _ _ _).mono ?_;rintro e w1 ⟨rfl,x1⟩;have b0:y7 w1 (w.heap.size+1) ⟨(0,0),false⟩:=by
        exact KJ
   have a2:=x1.keep (p:=⟨w.heap.size,2,none⟩) (v:=Vu x.lc) σ;have a3:=x1.keep (p:=⟨w.heap.size,3,none⟩) (v:=Vu x.lk) σ;have a4:=x1.keep (p:=⟨w.heap.size,4,none⟩) (v:=Vu x.rc) σ;have a5:=x1.keep (p:=⟨w.heap.size,5,none⟩) (v:=Vu x.rk) σ;have xw:Ext w w1:=(((Ext.refl _).alloc _).alloc _).trans x1;clear x1;have hwb:w.heap.size<=w.heap.size+1:=ω
   obtain⟨pb,hpb⟩:∃pb,w.heap.size+1=pb:=⟨_,rfl⟩;obtain⟨pa,hpa⟩:∃pa,w.heap.size=pa:=⟨_,rfl⟩;rw[hpb] at b0 hwb⊢;rw[hpa] at a2 a3 a4 a5⊢;clear hpa hpb;replace b0:=ah b0
   go_wp2_with fail
   refine(qM _ _ _).mono ?_;rintro e w2 ⟨rfl,x2⟩;replace xw:=xw.trans x2;replace b0:=ah (b0.out.ext x2);replace a2:=x2.keep a2;replace a3:=x2.keep a3;replace a4:=x2.keep a4;replace a5:=x2.keep a5;clear x2;obtain⟨k0,k1,k2⟩:=b0.out.cells;have f0:=b0.out.thaw 0;have f1:=b0.out.thaw 1;have f2:=b0.out.thaw 2;obtain⟨z0,z1,z2⟩:=(b0.out.store 0 0 true).cells;go_wp2;exact aN (v:=hgv ⟨(0,0),true⟩) (by simp[dK,Tryz.results57,go_sem,z0,z1,z2]) rfl ⟨by rw[hR.out],((xw.setCell hwb _).setCell hwb _).setCell hwb _⟩
  ·have g1:(x.lc==0)=false:=by simpa using e1
   rw[if_neg e1] at hR;replace hR:=ah hR.symm;clear e0 e1 hcall;go_enter Tryz.func57,Tryz.ntmps57
   go_wp2_with fail
   refine(qM _ _ _).mono ?_;rintro e w1 ⟨rfl,x1⟩;have b0:y7 w1 (w.heap.size+1) ⟨(0,0),false⟩:=by
        exact KJ
   have a2:=x1.keep (p:=⟨w.heap.size,2,none⟩) (v:=Vu x.lc) σ;have a3:=x1.keep (p:=⟨w.heap.size,3,none⟩) (v:=Vu x.lk) σ;have a4:=x1.keep (p:=⟨w.heap.size,4,none⟩) (v:=Vu x.rc) σ;have a5:=x1.keep (p:=⟨w.heap.size,5,none⟩) (v:=Vu x.rk) σ;have xw:Ext w w1:=(((Ext.refl _).alloc _).alloc _).trans x1;clear x1;have hwb:w.heap.size<=w.heap.size+1:=ω
   obtain⟨pb,hpb⟩:∃pb,w.heap.size+1=pb:=⟨_,rfl⟩;obtain⟨pa,hpa⟩:∃pa,w.heap.size=pa:=⟨_,rfl⟩;rw[hpb] at b0 hwb⊢;rw[hpa] at a2 a3 a4 a5⊢;clear hpa hpb;replace b0:=ah b0
   go_wp2_with fail
   refine(qM _ _ _).mono ?_;rintro e w2 ⟨rfl,x2⟩;replace xw:=xw.trans x2;replace b0:=ah (b0.out.ext x2);replace a2:=x2.keep a2;replace a3:=x2.keep a3;replace a4:=x2.keep a4;replace a5:=x2.keep a5;clear x2;obtain⟨k0,k1,k2⟩:=b0.out.cells;have f0:=b0.out.thaw 0;have f1:=b0.out.thaw 1;have f2:=b0.out.thaw 2;obtain⟨z0,z1,z2⟩:=(b0.out.store x.lc x.lk true).cells;go_wp2;exact aN (v:=hgv ⟨(x.lc,x.lk),true⟩) (by simp[dK,Tryz.results57,go_sem,z0,z1,z2]) rfl ⟨by rw[hR.out],((xw.setCell hwb _).setCell hwb _).setCell hwb _⟩
 ·have g0:(x.rc==0)=false:=by simpa using e0
  by_cases e1:x.lc=0
  ·have g1:(x.lc==0)=true:=by simpa using e1
   rw[aaX e0 e1] at hR;replace hR:=ah hR.symm;clear e0 e1 hcall;go_enter Tryz.func57,Tryz.ntmps57
   go_wp2_with fail
   refine(qM _ _ _).mono ?_;rintro e w1 ⟨rfl,x1⟩;have b0:y7 w1 (w.heap.size+1) ⟨(0,0),false⟩:=by
        exact KJ
   have a2:=x1.keep (p:=⟨w.heap.size,2,none⟩) (v:=Vu x.lc) σ;have a3:=x1.keep (p:=⟨w.heap.size,3,none⟩) (v:=Vu x.lk) σ;have a4:=x1.keep (p:=⟨w.heap.size,4,none⟩) (v:=Vu x.rc) σ;have a5:=x1.keep (p:=⟨w.heap.size,5,none⟩) (v:=Vu x.rk) σ;have xw:Ext w w1:=(((Ext.refl _).alloc _).alloc _).trans x1;clear x1;have hwb:w.heap.size<=w.heap.size+1:=ω
   obtain⟨pb,hpb⟩:∃pb,w.heap.size+1=pb:=⟨_,rfl⟩;obtain⟨pa,hpa⟩:∃pa,w.heap.size=pa:=⟨_,rfl⟩;rw[hpb] at b0 hwb⊢;rw[hpa] at a2 a3 a4 a5⊢;clear hpa hpb;replace b0:=ah b0
   go_wp2_with fail
   refine(qM _ _ _).mono ?_;rintro e w2 ⟨rfl,x2⟩;replace xw:=xw.trans x2;replace b0:=ah (b0.out.ext x2);replace a2:=x2.keep a2;replace a3:=x2.keep a3;replace a4:=x2.keep a4;replace a5:=x2.keep a5;clear x2;exact abS
  ·have g1:(x.lc==0)=false:=by simpa using e1
   rw[aaY e0 e1] at hR;have hc:=ah (hcall e0 e1);clear e0 e1 hcall;cases hB:uO l (paths l) (irt x) (ilf x) with
   |true=>
    rw[hB] at hc hR;rw[if_pos rfl] at hR;replace hR:=ah hR.symm;clear hB;go_enter Tryz.func57,Tryz.ntmps57
    go_wp2_with fail
    refine(qM _ _ _).mono ?_;rintro e w1 ⟨rfl,x1⟩;have b0:y7 w1 (w.heap.size+1) ⟨(0,0),false⟩:=by
     exact KJ
    have a2:=x1.keep (p:=⟨w.heap.size,2,none⟩) (v:=Vu x.lc) σ;have a3:=x1.keep (p:=⟨w.heap.size,3,none⟩) (v:=Vu x.lk) σ;have a4:=x1.keep (p:=⟨w.heap.size,4,none⟩) (v:=Vu x.rc) σ;have a5:=x1.keep (p:=⟨w.heap.size,5,none⟩) (v:=Vu x.rk) σ;have xw:Ext w w1:=(((Ext.refl _).alloc _).alloc _).trans x1;clear x1;have hwb:w.heap.size<=w.heap.size+1:=ω
    obtain⟨pb,hpb⟩:∃pb,w.heap.size+1=pb:=⟨_,rfl⟩;obtain⟨pa,hpa⟩:∃pa,w.heap.size=pa:=⟨_,rfl⟩;rw[hpb] at b0 hwb⊢;rw[hpa] at a2 a3 a4 a5⊢;clear hpa hpb;replace b0:=ah b0
    go_wp2_with fail
    refine(qM _ _ _).mono ?_;rintro e w2 ⟨rfl,x2⟩;replace xw:=xw.trans x2;replace b0:=ah (b0.out.ext x2);replace a2:=x2.keep a2;replace a3:=x2.keep a3;replace a4:=x2.keep a4;replace a5:=x2.keep a5;clear x2
    go_wp2_with fail
    refine(hc.out _ xw).mono ?_;rintro e w3 ⟨rfl,x3⟩;replace xw:=xw.trans x3;replace b0:=ah (b0.out.ext x3);replace a2:=x3.keep a2;replace a3:=x3.keep a3;replace a4:=x3.keep a4;replace a5:=x3.keep a5;clear x3;exact abS
   |false=>
    rw[hB] at hc hR;rw[if_neg δ] at hR;replace hR:=ah hR.symm;clear hB;go_enter Tryz.func57,Tryz.ntmps57
    go_wp2_with fail
    refine(qM _ _ _).mono ?_;rintro e w1 ⟨rfl,x1⟩;have b0:y7 w1 (w.heap.size+1) ⟨(0,0),false⟩:=by
     exact KJ
    have a2:=x1.keep (p:=⟨w.heap.size,2,none⟩) (v:=Vu x.lc) σ;have a3:=x1.keep (p:=⟨w.heap.size,3,none⟩) (v:=Vu x.lk) σ;have a4:=x1.keep (p:=⟨w.heap.size,4,none⟩) (v:=Vu x.rc) σ;have a5:=x1.keep (p:=⟨w.heap.size,5,none⟩) (v:=Vu x.rk) σ;have xw:Ext w w1:=(((Ext.refl _).alloc _).alloc _).trans x1;clear x1;have hwb:w.heap.size<=w.heap.size+1:=ω
    obtain⟨pb,hpb⟩:∃pb,w.heap.size+1=pb:=⟨_,rfl⟩;obtain⟨pa,hpa⟩:∃pa,w.heap.size=pa:=⟨_,rfl⟩;rw[hpb] at b0 hwb⊢;rw[hpa] at a2 a3 a4 a5⊢;clear hpa hpb;replace b0:=ah b0
    go_wp2_with fail
    refine(qM _ _ _).mono ?_;rintro e w2 ⟨rfl,x2⟩;replace xw:=xw.trans x2;replace b0:=ah (b0.out.ext x2);replace a2:=x2.keep a2;replace a3:=x2.keep a3;replace a4:=x2.keep a4;replace a5:=x2.keep a5;clear x2
    go_wp2_with fail
    refine(hc.out _ xw).mono ?_;rintro e w3 ⟨rfl,x3⟩;replace xw:=xw.trans x3;replace b0:=ah (b0.out.ext x3);replace a2:=x3.keep a2;replace a3:=x3.keep a3;replace a4:=x3.keep a4;replace a5:=x3.keep a5;clear x3
    go_wp2_with fail
    refine(qM _ _ _).mono ?_;rintro e w4 ⟨rfl,x2⟩;replace xw:=xw.trans x2;replace b0:=ah (b0.out.ext x2);replace a2:=x2.keep a2;replace a3:=x2.keep a3;replace a4:=x2.keep a4;replace a5:=x2.keep a5;clear x2;obtain⟨k0,k1,k2⟩:=b0.out.cells;have f0:=b0.out.thaw 0;have f1:=b0.out.thaw 1;have f2:=b0.out.thaw 2;obtain⟨z0,z1,z2⟩:=(b0.out.store x.lc x.lk true).cells;go_wp2;exact aN (v:=hgv ⟨(x.lc,x.lk),true⟩) (by simp[dK,Tryz.results57,go_sem,z0,z1,z2]) rfl ⟨by rw[hR.out],((xw.setCell hwb _).setCell hwb _).setCell hwb _⟩):p:=h
theorem af8 (g:Nat) (l:List It) (x:It) (w:aj)
  (hcall:x.rc≠0->x.lc≠0->∀W,Ext w W->aX Tryz.prog 58 #[.pointer (some ⟨g,0,none⟩),idv x.rc x.rk,idv x.lc x.lk] W λe w'=>e= .returned (.bool (uO l (paths l) (irt x) (ilf x)))/\Ext W w'):
  aX Tryz.prog 57 #[itv x,.func (.func 58) #[.pointer (some ⟨g,0,none⟩)] #[]] w λe w'=>e= .returned (hgv (hgP l x))/\Ext w w':=by
 exact abT
theorem af9 (q:Nat) (l:List It) (x:It) (w:aj)
  (hcall:x.rc≠0->x.lc≠0->∀W,Ext w W->aX Tryz.prog 219 #[idv x.rc x.rk,idv x.lc x.lk,.pointer (some ⟨q,0,none⟩)] W λe w'=>e= .returned (.bool (uO l (paths l) (irt x) (ilf x)))/\Ext W w'):
  aX Tryz.prog 57 #[itv x,.func (.func 219) #[] #[.pointer (some ⟨q,0,none⟩)]] w λe w'=>e= .returned (hgv (hgP l x))/\Ext w w':=by
 exact abT
end
end
section
attribute [local go_sem] au calm oK oG
section
def NdB (W:aj) (b cap:Nat) (e:List Nd):Prop:=∃a,W.heap[b]? =some (.cells a 141 (0,0))/\a.size=cap*6/\e.length<=cap/\a.toList.take (e.length*6)=flat Dz e
variable {W W' w0:aj} {b cap g mb:Nat} {l:List It} {ns:List Nd}
theorem NdB.lt (h:NdB W b cap ns):b<W.heap.size:=by
 obtain⟨e,a,_⟩:=h;exact(aC.1 a).1
theorem NdB.rx {p:Nat} (h:NdB W b cap ns) (f:RX p W W') (a:b≠p):NdB W' b cap ns:=by
 obtain⟨e,j,i⟩:=h;exact⟨e,f.blk j a,i⟩
theorem NdB.ext (h:NdB W b cap ns) (f:Ext W W'):NdB W' b cap ns:=by
 have a:=h.lt;obtain⟨e,j,i⟩:=h;exact⟨e,(aJ f b a).trans j,i⟩
theorem NdB.row {W:aj} {b cap:Nat} {ns:List Nd} (h:NdB W b cap ns):NdS W (some ⟨b,0,none⟩) ns:=λH=>by
 obtain⟨e,i,z,q,f⟩:=h;refine⟨b,0,rfl,λj u a=>?_⟩;rw[bH,ak W b j e _ (0,0) i];rw[<-f,iA] at a
 split at a
 ·simpa using a
 ·cases a
theorem NdB.new (W:aj) (x:Nd):NdB (W.alloc (.cells #[.int .u32 x.id.1,.int .u32 x.id.2,.int .i64 x.on,.bool x.right,.int .i64 x.depth,.int .i64 x.far] 141)) W.heap.size 1 [x]:=⟨_,aT W _,rfl,aD _,rfl⟩
structure GrO (w0 W:aj) (g b cap mb:Nat) (l:List It) (ns:List Nd):Prop where
 ok:GrN l ns
 kn:og l=true
 box:W.heap[g]? =some (.cells #[.slice (some ⟨b,0,none⟩) (l.length+1) cap,.map (some mb)] 131 (0,0))
 nds:NdB W b cap ns
 map:vJ W mb (F7 l)
 aan:w0.heap.size<=g
 aao:w0.heap.size<=b
 XA:w0.heap.size<=mb
 gb:g≠b
 gm:g≠mb
 bm:b≠mb
theorem GrO.cells (h:GrO w0 W g b cap mb l ns):W.cell? ⟨g,0,none⟩=some (.slice (some ⟨b,0,none⟩) (l.length+1) cap)/\W.cell? ⟨g,1,none⟩=some (.map (some mb)):=
 ⟨by rw[ak W g 0 _ _ _ h.box];rfl,by rw[ak W g 1 _ _ _ h.box];rfl⟩
theorem GrO.room (h:GrO w0 W g b cap mb l ns):l.length+1<=cap:=by
 obtain⟨e,j,i,a,f⟩:=h.nds;rw[h.ok.len] at a;exact a
theorem GrO.read (h:GrO w0 W g b cap mb l ns):GrS W g l ns:=
 ⟨h.ok,h.kn,b,0,cap,mb,h.cells.1,h.cells.2,h.room,h.nds.row,h.map⟩
theorem GrO.ext {w0 W W':aj} {g b cap mb:Nat} {l:List It} {ns:List Nd} (h:GrO w0 W g b cap mb l ns) (a:Ext W W'):GrO w0 W' g b cap mb l ns:=
 ⟨h.ok,h.kn,(aJ a g (aC.1 h.box).1).trans h.box,h.nds.ext a,h.map.ext a,h.aan,h.aao,h.XA,h.gb,h.gm,h.bm⟩
theorem Xa (W:aj) (b:Nat) (f:Array aI):RX b W (W.setRow b f):=⟨rfl,rfl,rfl,ι,λk _ a=>setRow_other W b k _ (λe=>a (by rw[e]))⟩
theorem aio (w:aj) (K:TypeId) (b cap N:Nat) (ns:List Nd) (Z:ns.length=N) (hB:NdB w b cap ns) (a:N+1<=cap) (q c:Nat) (nd:Nd) (X:NdS w (some ⟨q,0,none⟩) [nd]):
  ∃w',(Builtin.append_ #[128,128] K #[.slice (some ⟨b,0,none⟩) N cap,.slice (some ⟨q,0,none⟩) 1 c]).run Tryz.prog w= .ok (.slice (some ⟨b,0,none⟩) (N+1) cap) w'/\NdB w' b cap (ns++[nd])/\RX b w w':=by
 obtain⟨i,hi,Q,f,O⟩:=gJ VL;obtain⟨H,M,h2,h3,h4⟩:=hB;subst Z;have z:(flat Dz [nd]).length=1*i.size:=by rw[oV xR,f];rfl
 have J:ns.length*i.size+(flat Dz [nd]).length<=H.size:=by rw[z,f,h2];omega
 have I:=run_append_room (P:=Tryz.prog) w 128 K 141 i Tryz.underlying128 hi b ns.length cap H M ⟨q,0,none⟩ 1 c (flat Dz [nd]) z (λj u U=>by
  obtain⟨b',o',e,Y⟩:=X (by rw[oV xR];exact Nat.succ_pos _);injection e with e;injection e with e1 e2 e3;subst e1;subst e2;rw[wU];exact Y j u U) (qy aby [nd]) a J
 refine⟨_,I,⟨_,setRow_heap w b H _ _ _ M,?_,?_,?_⟩,Xa w b _⟩
 ·simp only[List.size_toArray,ay,bN,List.length_drop,Array.length_toList]
  rw[f] at*;rw[z] at*;omega
 ·rw[ay];exact a
 ·rw[qp,f,h4,ay]
  have:(flat Dz ns++flat Dz [nd]).length=(ns.length+[nd].length)*6:=by rw[ay,oV xR,oV xR,Nat.add_mul]
  rw[<-this];exact List.take_left
structure RB (b n:Nat) (W W':aj):Prop where
 rx:RX b W W'
 low:∀j x,j<n->W.cell? ⟨b,j,none⟩=some x->W'.cell? ⟨b,j,none⟩=some x
theorem RB.trans {b n:Nat} {x y z:aj} (h:RB b n x y) (k:RB b n y z):RB b n x z:=⟨h.rx.trans k.rx,λj u a e=>k.low j u a (h.low j u a e)⟩
theorem RB.ext {b n:Nat} {x y:aj} (h:Ext x y):RB b n x y:=⟨RX.ext h,λj u _ a=>h.keep a⟩
theorem RB.of {n:Nat} {r:List Nd} (H:RX b W W') (h:NdB W b cap ns) (O:NdB W' b cap (ns++r)) (I:n=ns.length*6):RB b n W W':=by
 refine⟨H,λj x u z=>?_⟩;subst I;obtain⟨e,N,X,U,J⟩:=h;obtain⟨a,q,M,K,i⟩:=O;rw[ak W b j e _ (0,0) N] at z;rw[ak W' b j a _ (0,0) q];have Q:(e.toList.take (ns.length*6))[j]? =some x:=by rw[iA,if_pos u];simpa using z
 have f:(a.toList.take ((ns++r).length*6))[j]? =some x:=by
  rw[i,qp,List.getElem?_append_left (by rw[oV xR];exact u),<-J];exact Q
 rw[iA] at f
 split at f
 ·simpa using f
 ·cases f
theorem RB.row {b n:Nat} {W W':aj} {ns:List Nd} (f:RB b n W W') (h:NdS W (some ⟨b,0,none⟩) ns) (I:ns.length*6<=n):NdS W' (some ⟨b,0,none⟩) ns:=λz=>by
 obtain⟨J,H,e,q⟩:=h z;injection e with e;injection e with e1 e2 e3;subst e1;subst e2;refine⟨b,0,rfl,λj u a=>?_⟩;have i:=qC a;rw[oV xR] at i;have:=q j u a;rw[bH] at this⊢;exact f.low j u ω this
theorem aep (g b cap mb:Nat) (l:List It) (ns:List Nd) (x:It) (w0 w:aj) (h:GrO w0 w g b cap mb l ns) (hk:og (l++[x])=true) (d6:Ext w0 w) (h0:l.length+2<=cap) (hb:l.length<=1000000000000000):
  aX Tryz.prog 56 #[.pointer (some ⟨g,0,none⟩),idv x.c x.k,hgv (hgP l x)] w λe w'=>e= .returned (.tuple #[])/\(∃e9,GrO w0 w' g b cap mb (l++[x]) e9)/\Ext w0 w':=by
 have b6:=hk;rw[pJ,Bool.and_eq_true] at b6;obtain⟨e3,d5,_,_⟩:=oD b6.2;have b4:=ah (Xq (a:=(x.c,x.k)) d5);have h9:(x.c==0)=false:=by simpa using e3
 obtain⟨K,hK⟩:∃K,l.length+1=K:=⟨_,rfl⟩;have J:=EF l (hgP l x).on;obtain⟨nd,M⟩:=h.ok.get J;obtain⟨d1,d2,d3,_⟩:=h.ok.deep _ nd M;have b1:=zX h.kn J;obtain⟨f1,fq,f2⟩:=h.ok.adM J;have a9:=ah (h.ok.snoc hk f1 f2 M);have b8:=ah (λ(W:aj) (hW:GrT W g l ns)=>RL g l ns (uW l (hgP l x).on) W hW J hb);have e8:=ah h.ok.len;have yA:=ah (Xp l x);have g3:(0:Int)<=(uW l (hgP l x).on:Int):=ω
 have g2:(uW l (hgP l x).on:Int)<(K:Int):=ω
 have g4:nd.depth+1<=1000000000000001:=ω
 have f3:wrap64 ((nd.depth:Int)+1)=((nd.depth+1:Nat):Int):=by rw[FC ω ω];rfl
 have d9:=h.nds.row.at M;have b7:=ah (λW (hW:Ext w W)=>(h.nds.ext hW).row.at M);have Rh:=ah (λW (hW:Ext w W)=>(h.map.ext hW).num (hgP l x).on.1 (hgP l x).on.2);replace h:=ah h;have i:=ah hK;clear b1 d1 d2 d3 f1 f2 M J d9 b6 d5 e3;generalize hgP l x=R at*;obtain⟨⟨ra,rb⟩,rr⟩:=R;simp only at a9 b8 g3 g2 b7 Rh;generalize Uw ns (uW l (ra,rb))=fr at*;generalize uW l (ra,rb)=on at*;obtain⟨dp,a8⟩:∃d,nd.depth=d:=⟨_,rfl⟩;rw[a8] at g4 f3 a9;replace a8:=ah a8;have x0:=((Ext.refl w).alloc (.cells #[.int .u32 x.c,.int .u32 x.k] 55)).alloc (.cells #[.int .u32 ra,.int .u32 rb,.bool rr] 134);obtain⟨H,X⟩:∃H,(w.alloc (.cells #[.int .u32 x.c,.int .u32 x.k] 55)).alloc (.cells #[.int .u32 ra,.int .u32 rb,.bool rr] 134)=H:=⟨_,rfl⟩;rw[X] at x0;have a0:H.cell? ⟨w.heap.size,0,none⟩=some (Vu x.c):=by rw[<-X];simp[go_sem]
 have a1:H.cell? ⟨w.heap.size,1,none⟩=some (Vu x.k):=by rw[<-X];simp[go_sem]
 have a2:H.cell? ⟨w.heap.size+1,0,none⟩=some (Vu ra):=by rw[<-X];simp[go_sem]
 have a3:H.cell? ⟨w.heap.size+1,1,none⟩=some (Vu rb):=by rw[<-X];simp[go_sem]
 have U:H.cell? ⟨w.heap.size+1,2,none⟩=some (.bool rr):=by rw[<-X];simp[go_sem]
 have z:=x0.keep h.out.cells.1;have g1:=x0.keep h.out.cells.2;rw[hK] at z;have f8:=λk=>Rh.out (H.drewN k) (x0.drewN k)
 replace X:=ah X;replace x0:=ah x0;clear hK;have h6:mb<w.heap.size:=h.out.map.lt;have i0:b<w.heap.size:=h.out.nds.lt;have h8:g<w.heap.size:=(aC.1 h.out.box).1;go_enter Tryz.func56,Tryz.ntmps56;go_wp2;rw[X.out];clear X Rh;generalize w.heap.size=pa at*;obtain⟨pb,d8⟩:∃pb,pa+1=pb:=⟨_,rfl⟩;rw[d8] at a2 a3 U⊢;have i3:mb<pb:=ω
 have i2:b<pb:=ω
 clear d8
 go_quiet(fail)
 have j:=(Ext.refl H).drewN nq;replace x0:=ah (x0.out.trans j);replace a0:=j.keep a0;replace a1:=j.keep a1;replace U:=j.keep U;replace z:=j.keep z;replace g1:=j.keep g1;clear a2 a3 f8 j;generalize H.drewN nq=w2 at*;clear H
 go_wp2_with fail
 refine(qM _ _ _).mono ?_;rintro e w3 ⟨rfl,x3⟩;replace a0:=x3.keep a0;replace a1:=x3.keep a1;replace U:=x3.keep U;replace z:=x3.keep z;replace g1:=x3.keep g1;replace x0:=ah (x0.out.trans x3);clear x3 w2;go_wp2;refine wp_region_still_tail 10 κ κ ?_;simp only[List.take_succ_cons,eG,List.drop_succ_cons,List.drop_zero];have j:=(Ext.refl w3).drew;replace x0:=ah (x0.out.trans j);replace a0:=j.keep a0;replace a1:=j.keep a1;replace U:=j.keep U;replace z:=j.keep z;replace g1:=j.keep g1;clear j;change wpStill Tryz.prog _ w3.drew (λa'=>lK Tryz.prog _ _ _ a' w3.drew) _ _;generalize w3.drew=w4 at*;clear w3
 repeat still_step
 refine wpStill_nil ?_;refine Fv _ rfl _ _ _ _ _ rfl Tryz.underlying129 mb (F7 l) rfl (h.out.map.ext x0.out) x.c x.k (Vi (K:Int)) rfl rfl b4.out ?_;intro w5 m5 g5;have O:=h.out.gm;have a5:=h.out.bm;have Z:=h.out.gb;have Q:RX mb w4 w5:=g5;have b0:K+1<=cap:=by rw[<-i.out];omega
 have h4:dO.wrap ((dp:Int)+1)=(dp:Int)+1:=by rw[kW];exact FC ω ω
 have g9:on*6+4<K*6:=ω
 replace a0:=Q.cell a0 ω;replace a1:=Q.cell a1 ω;replace U:=Q.cell U ω;replace z:=Q.cell z O;replace g1:=Q.cell g1 O;have hh:=h.out.ext x0.out;have Y:=ah (hh.nds.rx Q a5);have d4:w5.cell? ⟨b,on*6+4,none⟩=some (Vi (dp:Int)):=by
  have:=Q.cell (b7.out _ x0.out).c4 a5;rw[bH,a8.out] at this;exact this
 have a6:GrT w5 g l ns:=⟨hh.ok,hh.kn,b,0,cap,by rw[i.out];exact z,hh.room,Y.out.row⟩;have Dm:=ah (λ(W:aj) (hW:RB b (K*6) w5 W)=>b8.out W ⟨a6.ok,a6.kn,b,0,cap,by rw[i.out];exact hW.rx.cell z h.out.gb,a6.cells.elim λ_ hh=>hh.elim λ_ hh=>hh.elim λ_ hh=>by rw[i.out];omega,hW.row Y.out.row (by rw[e8.out,i.out];exact aD _)⟩);have g8:=ah (Q.blk hh.box O);have f0:=ah (show vJ w5 mb (F7 (l++[x])) by rw[yA.out,i.out];exact m5);have e5:=ah (RX.down (d6.trans x0.out) h.out.XA Q);have b5:Hid (ns.length=K):=ah (by rw[e8.out,i.out]);clear m5 g5 Q hh a6 b8 b7 x0 yA w4;have e0:=ah h.out.aan;have e2:=ah h.out.aao;have f7:=ah h.out.XA;clear h d6
 go_wp2_with fail
 generalize g6:x.c=c at*;generalize f9:x.k=k at*;refine tY 24 23 [rwI 20 (Vi (fr:Int)),rw1 22 (λz9 W=>∃q,z9= .slice (some ⟨q,0,none⟩) 1 1/\q≠b/\NdB W q 1 [⟨(c,k),on,rr,dp+1,fr⟩]),rw1 23 (λz9 W=>z9= .slice (some ⟨b,0,none⟩) (K+1) cap/\NdB W b cap (ns++[⟨(c,k),on,rr,dp+1,fr⟩]))] (RB b (K*6) _) (λW=>NdB W b cap ns) Ext (RB b (K*6)) (RB.ext ((Ext.refl _).drew)) (Y.out.ext ((Ext.refl _).drew)) (λ_ _ h e=>h.trans (RB.ext e)) (λ_ _ h e=>h.ext e) ⟨λ_ _ _ _ _ _=>trivial,λ_ _ _ _ _ _ _ _=>trivial,(by rintro _ _ _ _ ⟨q,h1,h2,h3⟩ e;exact⟨q,h1,h2,h3.ext e⟩),(λ_ _=>by rintro _ _ _ _ ⟨q,h1,h2,h3⟩ e;exact⟨q,h1,h2,h3.rx e.rx h2⟩),(λ_ _ _ _ h e=>⟨h.1,h.2.ext e⟩),(λ_ h=>absurd rfl h),trivial⟩ λρ hI=>?_
 refine .s1 20 false [] (λW u _ _=>by
  have q0:=u.rx.cell z Z;have q1:=u.rx.cell a0 ω;have q2:=u.rx.cell a1 ω;have q3:=u.rx.cell U ω;have q4:=u.low _ _ g9 d4;exact oz) ?_
 refine .kv1 hI 0 _ (λW u=>(Dm.out W u).mono (by rintro e W1 ⟨rfl,h1⟩;exact⟨rfl,h1⟩)) ?_;refine .s1 1 false [] (λW u _ _=>oz) ?_;refine .o1 1 false [] (λW u _ _ N hN=>?_) ?_
 ·have h7:b<W.heap.size:=Nat.lt_of_lt_of_le Y.out.lt u.rx.size
  go_simp
  exact hN _ _ (λ_ e=>by cases e) ⟨_,rfl,ω,NdB.new W ⟨(c,k),on,rr,dp+1,fr⟩⟩ ((Ext.refl W).alloc _)
 refine .o0 2 [1] (λW u I f N hN=>?_) ?_
 ·obtain⟨⟨q,b3,h5,f5⟩,_⟩:=f
  obtain⟨W1,f4,b2,d7⟩:=aio W 128 b cap K ns b5.out I b0 q 1 ⟨(c,k),on,rr,dp+1,fr⟩ f5.row;have b3:ρ 22=_:=b3;simp only[execOp,resolve,invoke,builtin,fQ,kP,eD,iV,bU,fH,Act.eval,Act.put,List.setIfInBounds_toArray,List.set_cons_succ,List.set_cons_zero,Array.getD_eq_getD_getElem?,List.getElem?_toArray,List.getElem?_cons_succ,List.getElem?_cons_zero,Option.getD_some,b3,f4];exact hN _ _ (λ_ e=>by cases e) ⟨rfl,b2⟩ (u.trans (RB.of d7 I b2 (by rw[b5.out]))) (RB.of d7 I b2 (by rw[b5.out]))
 refine .fin λW hR ⟨_,_,pE,_⟩=>?_
 obtain⟨g7,pE⟩:=pE rfl;rw[show ρ 23=_ from g7];have a7:=hR.rx.blk g8.out Z;have m6:vJ W mb (F7 (l++[x])):=f0.out.kept hR.rx (λe=>a5 (by injection e with e;exact e.symm));have e6:=ah (RX.down e5.out e2.out hR.rx);have f6:=frozen_of_row W g 0 _ _ a7;have r7:RX g W (W.setCell ⟨g,0,none⟩ (.slice (some ⟨b,0,none⟩) (K+1) cap)):=RX.set (RX.refl g W) 0 _ (.inr rfl);have e4:(W.setCell ⟨g,0,none⟩ (.slice (some ⟨b,0,none⟩) (K+1) cap)).heap[g]? =some (.cells #[.slice (some ⟨b,0,none⟩) (K+1) cap,.map (some mb)] 131 (0,0)):=aB _ _ 0 _ _ _ a7;have b9:=pE.rx r7 (λe=>Z e.symm);have m7:=m6.kept r7 (λe=>O (by injection e with e;exact e.symm));have e7:=ah (RX.down e6.out e0.out r7);have e1:=ah (show GrO w0 (W.setCell ⟨g,0,none⟩ (.slice (some ⟨b,0,none⟩) (K+1) cap)) g b cap mb (l++[x]) (ns++[⟨(c,k),on,rr,dp+1,fr⟩]) from
  ⟨by rw[<-g6,<-f9];exact a9.out,hk,by rw[ay,List.length_singleton,i.out];exact e4,b9,m7,e0.out,e2.out,f7.out,Z,O,a5⟩)
 have i1:W.cell? ⟨g,0,none⟩=some (.slice (some ⟨b,0,none⟩) (l.length+1) cap):=by rw[ak W g 0 _ _ _ a7];rfl
 clear pE r7 a7 m6 e6 e4 b9 m7;go_wp2;exact bodyPost_end (v:= .tuple #[]) (by simp[dK,Tryz.results56,go_sem]) rfl ⟨rfl,⟨_,e1.out⟩,e7.out⟩
end
theorem Xz (z:Array aI) (n:Nat) (i:z.size=6) (q:1<=n):(jo z (n*6)).toList.take 6=z.toList:=by
 have j:6<=n*6:=ω
 unfold jo;rw[Array.toList_map,<-List.map_take,Array.toList_range,List.take_range,Nat.min_eq_left j];obtain⟨l⟩:=z
 match l,i with
 |[a,b,c,d,e,f],_=>rfl
theorem TP (n:Nat) (q:n<=5026338869800) (W:aj):(mZ 128 (.int .i64 1) (.int .i64 ((n+1:Nat):Int))).run Tryz.prog W= .ok (.slice (some ⟨W.heap.size,0,none⟩) 1 (n+1)) (W.alloc (.cells (jo #[.int .u32 0,.int .u32 0,.int .i64 0,.bool false,.int .i64 0,.int .i64 0] ((n+1)*6)) 141))/\
  NdB (W.alloc (.cells (jo #[.int .u32 0,.int .u32 0,.int .i64 0,.bool false,.int .i64 0,.int .i64 0] ((n+1)*6)) 141)) W.heap.size (n+1) [nd0]:=by
 obtain⟨i,hi,f,e,a⟩:=gJ VL;have j:=run_make (P:=Tryz.prog) W 128 141 i _ Tryz.underlying128 hi f .i64 .i64 1 ((n+1:Nat):Int) ω ω (by rw[a];omega) ω;rw[e] at j;refine⟨j,_,aT W _,?_,ι,?_⟩
 ·rw[size_madeCells]
 ·show(jo _ _).toList.take 6=_
  rw[Xz _ _ rfl ω];rfl
structure GrZ (s0:Nat) (W:aj) (g b cap mb:Nat):Prop where
 box:W.heap[g]? =some (.cells #[.slice (some ⟨b,0,none⟩) 1 cap,.map (some mb)] 131 (0,0))
 nds:NdB W b cap [nd0]
 map:vJ W mb []
 aan:s0<=g
 aao:s0<=b
 XA:s0<=mb
 gb:g≠b
 gm:g≠mb
theorem GrZ.ext {e:Nat} {W W':aj} {g b cap f:Nat} (h:GrZ e W g b cap f) (a:Ext W W'):GrZ e W' g b cap f:=
 ⟨(aJ a g (aC.1 h.box).1).trans h.box,h.nds.ext a,h.map.ext a,h.aan,h.aao,h.XA,h.gb,h.gm⟩
theorem GrZ.boxed {a:Nat} {W:aj} {b cap e:Nat} (i:NdB W b cap [nd0]) (f:vJ W e []) (u:a<=W.heap.size) (q:a<=b) (j:a<=e):
  GrZ a (W.alloc (.cells #[.slice (some ⟨b,0,none⟩) 1 cap,.map (some e)] 131)) W.heap.size b cap e:=
 ⟨aT W _,i.ext ((Ext.refl _).alloc _),f.ext ((Ext.refl _).alloc _),u,q,j,by have:=i.lt;omega,by have:=f.lt;omega⟩
theorem GrZ.grown {w W:aj} {g b cap a:Nat} (h:GrZ w.heap.size W g b cap a):GrO w W g b cap a [] [nd0]:=
 ⟨GrN.nil,rfl,h.box,h.nds,h.map,h.aan,h.aao,h.XA,h.gb,h.gm,λe=>by
  obtain⟨j,f,_⟩:=h.nds;obtain⟨u,q,i,_⟩:=h.map;rw[e,i] at f;cases f⟩
theorem aa7 (A:Option Addr) (n cap:Nat) (l:List It) (w:aj) (hv:ItS w A l) (hk:og l=true) (hn:l.length=n) (e7:n<=cap) (hb:n<=5026338869800):
  aX Tryz.prog 38 #[.slice A n cap] w λe w'=>∃g b c X J,e= .returned (.pointer (some ⟨g,0,none⟩))/\GrO w w' g b c X l J/\Ext w w':=by
 replace hn:=ah hn;replace hv:=ah hv;replace hk:=ah hk;have e4:wrap64 ((n:Int)+1)=((n+1:Nat):Int):=by rw[FC ω ω];rfl
 have e3:dO.wrap ((n:Int)+1)=(n:Int)+1:=by rw[kW];exact FC ω ω
 obtain⟨U,H⟩:∃U,w.heap.size=U:=⟨_,rfl⟩;replace H:=ah H;go_enter Tryz.func38,Tryz.ntmps38
 go_wp2_with fail
 refine qX 9 [rw1 3 (λQ W=>∃q,Q= .slice (some ⟨q,0,none⟩) 1 (n+1)/\U<=q/\NdB W q (n+1) [nd0]),rw1 6 (λQ W=>∃q,Q= .map (some q)/\U<=q/\vJ W q []),rw1 7 (λQ W=>∃u a,Q= .agg #[.slice (some ⟨u,0,none⟩) 1 (n+1),.map (some a)]/\U<=u/\U<=a/\NdB W u (n+1) [nd0]/\vJ W a []),rw1 8 (λQ W=>∃g u a,Q= .pointer (some ⟨g,0,none⟩)/\GrZ U W g u (n+1) a)] ⟨by rintro _ _ _ _ ⟨q,h1,h2,O⟩ e;exact⟨q,h1,h2,O.ext e⟩,by rintro _ _ _ _ ⟨q,h1,h2,O⟩ e;exact⟨q,h1,h2,O.ext e⟩,by rintro _ _ _ _ ⟨u,a,h1,h2,O,h4,h5⟩ e;exact⟨u,a,h1,h2,O,h4.ext e,h5.ext e⟩,by rintro _ _ _ _ ⟨g,u,a,h1,h2⟩ e;exact⟨g,u,a,h1,h2.ext e⟩,trivial⟩ λρ _=>?_
 refine .s 3 (λW z y=>oz) ?_;refine .o 0 [] (λW z y _ N hN=>?_) ?_
 ·obtain⟨b8,d5⟩:=TP n hb W
  replace b8:(mZ 128 (.int .i64 1) (.int .i64 ((n:Int)+1))).run Tryz.prog W=_:=b8
  go_simp
  exact hN _ _ (λ_ e=>by cases e) ⟨_,rfl,H.out▸z.size,d5⟩ ((Ext.refl W).alloc _)
 refine .s 2 (λW z y=>oz) ?_;refine .o 1 [] (λW z y _ N hN=>?_) ?_
 ·have hm:=aam Tryz.underlying129
  go_simp
  exact hN _ _ (λ_ e=>by cases e) ⟨_,rfl,H.out▸z.size,vJ.made W⟩ ((Ext.refl W).alloc _)
 refine .o 2 [0,1] (λW z y f N hN=>?_) ?_
 ·obtain⟨⟨u,I,a9,a7⟩,⟨a,b7,a8,Z⟩,_⟩:=f
  have I:ρ 3=_:=I;have b7:ρ 6=_:=b7
  go_simp
  exact hN _ _ (λ_ e=>by cases e) ⟨u,a,rfl,a9,a8,a7,Z⟩ (Ext.refl W)
 refine .o 3 [2] (λW z y f N hN=>?_) ?_
 ·obtain⟨⟨u,a,I,a9,a8,a7,Z⟩,_⟩:=f
  have I:ρ 7=_:=I
  go_simp
  exact hN _ _ (λ_ e=>by cases e) ⟨_,u,a,rfl,GrZ.boxed a7 Z (H.out▸z.size) a9 a8⟩ ((Ext.refl W).alloc _)
 refine .fin λW hR ⟨_,_,_,h8,_⟩=>?_
 obtain⟨q8,b3,b2,e8,h8⟩:=h8;rw[show ρ 8=_ from e8];have d1:=ah (show GrO w W q8 b3 (n+1) b2 (l.take 0) [nd0] from GrZ.grown (H.out.symm▸h8));have b5:=ah hR;clear hR h8;generalize q8=g at*;generalize b3=b at*;generalize b2=X at*;go_wp2
 go_loopw [17] (λi W=>∃(j:Nat),j<=n/\i=Vi (j:Int)/\(∃J,Hid (GrO w W g b (n+1) X (l.take j) J))/\Hid (Ext w W)) (λi _=>n-(intOf i).toNat)
 case atStart=>exact⟨0,Nat.zero_le _,rfl,⟨_,d1⟩,b5⟩
 case round=>
  clear d1 b5;obtain⟨j,hj,rfl,⟨J,ho⟩,z⟩:=hrel;by_cases d6:j<n
  ·obtain⟨bx,o,x,hA,hp,d⟩:=(hv.out.ext z.out).at (k:=j) (by rw[hn.out];exact d6)
   obtain⟨c0,c1,c2,c3,c4,c5,c6⟩:=d;have e6:(0:Int)<=(j:Int):=ω
   have e5:(j:Int)<(n:Int):=ω
   have b9:=(zI hk.out hp).1;have b6:=ah (Zk hp);have d7:=ah (show og (l.take j++[x])=true by rw[<-b6.out];exact Ag hk.out _);have Y:=ah (show(l.take j).length=j by rw[bN,hn.out];omega);have b0:=oD b9;subst hA;clear hp;generalize l.take j=l0 at*;obtain⟨R,hR⟩:∃R,hgP l0 x=R:=⟨_,rfl⟩;have Ug:=ah (λ(W:aj) (M:Ext wr W)=>af8 g l0 x W (λe1 e2 W2 d9=>Nq g l0 J x.rc x.rk x.lc x.lk W2 (ho.out.read.ext (M.trans d9)) (b0.2.2.2.resolve_left e1) (b0.2.2.1.resolve_left e2) (by rw[Y.out];omega)));have b1:=ah (λ(W:aj) (M:Ext wr W)=>aep g b (n+1) X l0 J x w W (ho.out.ext M) d7.out (z.out.trans M) (by rw[Y.out];omega) (by rw[Y.out];omega));rw[hR] at Ug b1;clear b9 b0 hR;have x1:Ext wr (wr.alloc (.cells #[.int .u32 x.c,.int .u32 x.k,.int .u32 x.lc,.int .u32 x.lk,.int .u32 x.rc,.int .u32 x.rk,.int .i32 x.ch] 57)):=(Ext.refl _).alloc _;have a0:(wr.alloc (.cells #[.int .u32 x.c,.int .u32 x.k,.int .u32 x.lc,.int .u32 x.lk,.int .u32 x.rc,.int .u32 x.rk,.int .i32 x.ch] 57)).cell? ⟨wr.heap.size,0,none⟩=some (Vu x.c):=σ
   have a1:(wr.alloc (.cells #[.int .u32 x.c,.int .u32 x.k,.int .u32 x.lc,.int .u32 x.lk,.int .u32 x.rc,.int .u32 x.rk,.int .i32 x.ch] 57)).cell? ⟨wr.heap.size,1,none⟩=some (Vu x.k):=σ
   have a2:(wr.alloc (.cells #[.int .u32 x.c,.int .u32 x.k,.int .u32 x.lc,.int .u32 x.lk,.int .u32 x.rc,.int .u32 x.rk,.int .i32 x.ch] 57)).cell? ⟨wr.heap.size,2,none⟩=some (Vu x.lc):=σ
   have a3:(wr.alloc (.cells #[.int .u32 x.c,.int .u32 x.k,.int .u32 x.lc,.int .u32 x.lk,.int .u32 x.rc,.int .u32 x.rk,.int .i32 x.ch] 57)).cell? ⟨wr.heap.size,3,none⟩=some (Vu x.lk):=σ
   have a4:(wr.alloc (.cells #[.int .u32 x.c,.int .u32 x.k,.int .u32 x.lc,.int .u32 x.lk,.int .u32 x.rc,.int .u32 x.rk,.int .i32 x.ch] 57)).cell? ⟨wr.heap.size,4,none⟩=some (Vu x.rc):=σ
   have a5:(wr.alloc (.cells #[.int .u32 x.c,.int .u32 x.k,.int .u32 x.lc,.int .u32 x.lk,.int .u32 x.rc,.int .u32 x.rk,.int .i32 x.ch] 57)).cell? ⟨wr.heap.size,5,none⟩=some (Vu x.rk):=σ
   have a6:(wr.alloc (.cells #[.int .u32 x.c,.int .u32 x.k,.int .u32 x.lc,.int .u32 x.lk,.int .u32 x.rc,.int .u32 x.rk,.int .i32 x.ch] 57)).cell? ⟨wr.heap.size,6,none⟩=some (.int .i32 x.ch):=σ
   replace x1:=ah x1
   go_wp2_with fail
   generalize wr.alloc (.cells #[.int .u32 x.c,.int .u32 x.k,.int .u32 x.lc,.int .u32 x.lk,.int .u32 x.rc,.int .u32 x.rk,.int .i32 x.ch] 57)=w1 at*;generalize wr.heap.size=xb at*;have d3:=ah (λ(W:aj) (M:Ext w1 W)=>Ug.out W (x1.out.trans M));have d2:=ah (λ(W:aj) (M:Ext w1 W)=>b1.out W (x1.out.trans M));clear Ug b1 c0 c1 c2 c3 c4 c5 c6;refine qX 7 [rwI 6 (hgv R)] ⟨λ_ _ _ _ _ _=>trivial,trivial⟩ λρ hI=>?_
   refine .s 6 (λW z y=>oz) ?_;refine .kv hI 0 (hgv R) d3.out ?_;refine .fin λW hR _=>?_
   clear a0 a1 a2 a3 a4 a5 a6 d3 ho
   go_wp2_with fail
   refine(d2.out _ hR).mono ?_;rintro e w3 ⟨rfl,⟨b4,O⟩,x3⟩;have e0:=ah (show GrO w w3 g b (n+1) X (l.take (j+1)) b4 by rw[b6.out];exact O);replace x3:=ah x3;clear O;go_wp2
   go_roundw
   case rel=>
        exact⟨j+1,ω,ν,⟨b4,e0⟩,x3⟩
   case measure=>simp[intOf];omega
  ·have d8:j=n:=ω
   subst d8;have d4:=ah (show GrO w wr g b (j+1) X l J by
        have:=ho.out;rwa[bI (by rw[hn.out];omega)] at this)
   go_wp2;go_ret;exact⟨g,b,_,X,J,rfl,d4.out,z.out⟩
theorem Tq (A:Option Addr) (n cap q:Nat) (l:List It) (u j i f:Int) (w:aj) (g0:w.cell? ⟨q,0,none⟩=some (.slice A n cap)) (hv:ItS w A l) (hk:og l=true) (ha:nZ l (u,j)=true) (M:nZ l (i,f)=true) (X:l.length=n) (Y:n<=cap) (hb:n<=5026338869800):
  aX Tryz.prog 219 #[idv u j,idv i f,.pointer (some ⟨q,0,none⟩)] w λe w'=>e= .returned (.bool (uO l (paths l) (u,j) (i,f)))/\Ext w w':=by
 have O:=ah (λ(W:aj) (N:Ext w W)=>aa7 A n cap l W (hv.ext N) hk X Y hb);have H:=ah (λ(g:Nat) (a:List Nd) (W:aj) (N:GrS W g l a)=>Nq g l a u j i f W N ha M (by rw[X];omega));obtain⟨B,hB⟩:∃B,uO l (paths l) (u,j) (i,f)=B:=⟨_,rfl⟩;rw[hB] at H⊢;clear hv hk ha M X hB;have x0:=((Ext.refl w).alloc (.cells #[.int .u32 u,.int .u32 j] 55)).alloc (.cells #[.int .u32 i,.int .u32 f] 55);have k0:((w.alloc (.cells #[.int .u32 u,.int .u32 j] 55)).alloc (.cells #[.int .u32 i,.int .u32 f] 55)).cell? ⟨w.heap.size,0,none⟩=some (Vu u):=σ
 have k1:((w.alloc (.cells #[.int .u32 u,.int .u32 j] 55)).alloc (.cells #[.int .u32 i,.int .u32 f] 55)).cell? ⟨w.heap.size,1,none⟩=some (Vu j):=σ
 have k2:((w.alloc (.cells #[.int .u32 u,.int .u32 j] 55)).alloc (.cells #[.int .u32 i,.int .u32 f] 55)).cell? ⟨w.heap.size+1,0,none⟩=some (Vu i):=σ
 have k3:((w.alloc (.cells #[.int .u32 u,.int .u32 j] 55)).alloc (.cells #[.int .u32 i,.int .u32 f] 55)).cell? ⟨w.heap.size+1,1,none⟩=some (Vu f):=σ
 replace g0:=x0.keep g0;replace x0:=ah x0;go_enter Tryz.func219,Tryz.ntmps219
 go_wp2_with fail
 generalize(w.alloc (.cells #[.int .u32 u,.int .u32 j] 55)).alloc (.cells #[.int .u32 i,.int .u32 f] 55)=w1 at*;generalize w.heap.size=pa at*;obtain⟨pb,J⟩:∃pb,pa+1=pb:=⟨_,rfl⟩;rw[J] at k2 k3⊢;clear J;have z:=ah (λ(W:aj) (N:Ext w1 W)=>O.out W (x0.out.trans N));clear O;refine qX 4 [rw1 1 λQ W=>∃g,Q= .pointer (some ⟨g,0,none⟩)/\∃a,GrS W g l a] ⟨by rintro _ _ _ _ ⟨g,h0,a,I⟩ e;exact⟨g,h0,a,I.ext e⟩,trivial⟩ λρ _=>?_
 refine .s 1 (λW U y=>oz) ?_;refine .k 0 (R:=λQ W=>∃g,Q= .pointer (some ⟨g,0,none⟩)/\∃a,GrS W g l a) (λW U=>(z.out W U).mono (by rintro e W1 ⟨g,b,c,mb,a,rfl,I,h2⟩;exact⟨_,rfl,⟨g,rfl,a,I.read⟩,h2⟩)) ?_;refine .s 2 (λW U y=>oz) ?_;refine .fin λW hR ⟨I,_⟩=>?_
 obtain⟨q1,e1,I⟩:=I;rw[show ρ 1=_ from e1];obtain⟨a,hG⟩:=I;have Z:=ah (x0.out.trans hR);clear k0 k1 k2 k3 g0 z
 go_wp2_with fail
 refine(H.out q1 a W hG).mono ?_;rintro e w3 ⟨rfl,x3⟩;replace Z:=ah (Z.out.trans x3);clear x3 hG;go_wp2;go_ret;exact⟨rfl,Z.out⟩
theorem ZT (A:Option Addr) (n cap:Nat) (l:List It) (x:It) (w:aj) (hv:ItS w A l) (X:og l=true) (N:pQ l x=true) (Q:l.length=n) (H:n<=cap) (hb:n<=5026338869800):
  aX Tryz.prog 180 #[.slice A n cap,itv x] w λe w'=>e= .returned (hgv (hgP l x))/\Ext w w':=by
 obtain⟨_,_,U,O⟩:=oD N;have a:=ah (λ(q:Nat) (W:aj) (hW:Ext w W) (z:W.cell? ⟨q,0,none⟩=some (.slice A n cap))=>af9 q l x W (λe1 e2 W2 u=>Tq A n cap q l x.rc x.rk x.lc x.lk W2 (u.keep z) (hv.ext (hW.trans u)) X (O.resolve_left e1) (U.resolve_left e2) Q H hb));obtain⟨R,Y⟩:∃R,hgP l x=R:=⟨_,rfl⟩;rw[Y] at a⊢;clear U O Y N X Q hv;obtain⟨⟨K,J⟩,I⟩:=R;go_enter Tryz.func180,Tryz.ntmps180
 go_wp2_with fail
 have x0:Ext w (((w.alloc (.cells #[.slice A n cap] 39)).alloc (.cells #[.int .u32 x.c,.int .u32 x.k,.int .u32 x.lc,.int .u32 x.lk,.int .u32 x.rc,.int .u32 x.rk,.int .i32 x.ch] 57)).alloc (.cells #[.int .u32 0,.int .u32 0,.bool false] 134)):=(((Ext.refl w).alloc _).alloc _).alloc _;have z:(((w.alloc (.cells #[.slice A n cap] 39)).alloc (.cells #[.int .u32 x.c,.int .u32 x.k,.int .u32 x.lc,.int .u32 x.lk,.int .u32 x.rc,.int .u32 x.rk,.int .i32 x.ch] 57)).alloc (.cells #[.int .u32 0,.int .u32 0,.bool false] 134)).cell? ⟨w.heap.size,0,none⟩=some (.slice A n cap):=σ
 have i:y7 (((w.alloc (.cells #[.slice A n cap] 39)).alloc (.cells #[.int .u32 x.c,.int .u32 x.k,.int .u32 x.lc,.int .u32 x.lk,.int .u32 x.rc,.int .u32 x.rk,.int .i32 x.ch] 57)).alloc (.cells #[.int .u32 0,.int .u32 0,.bool false] 134)) (w.heap.size+2) ⟨(0,0),false⟩:=by
  have:=y7.new ((w.alloc (.cells #[.slice A n cap] 39)).alloc (.cells #[.int .u32 x.c,.int .u32 x.k,.int .u32 x.lc,.int .u32 x.lk,.int .u32 x.rc,.int .u32 x.rk,.int .i32 x.ch] 57)) 0 0 false;rwa[show((w.alloc (.cells #[.slice A n cap] 39)).alloc (.cells #[.int .u32 x.c,.int .u32 x.k,.int .u32 x.lc,.int .u32 x.lk,.int .u32 x.rc,.int .u32 x.rk,.int .i32 x.ch] 57)).heap.size=w.heap.size+2 by simp] at this
 refine(a.out w.heap.size _ x0 z).mono ?_;rintro e w1 ⟨rfl,x1⟩;replace i:=ah (i.ext x1);have xw:=x0.trans x1;clear z x0 x1;have f:w.heap.size<=w.heap.size+2:=ω
 obtain⟨M,j⟩:∃M,w.heap.size+2=M:=⟨_,rfl⟩;rw[j] at i f⊢;clear j;obtain⟨k0,k1,k2⟩:=i.out.cells;have f0:=i.out.thaw 0;have f1:=i.out.thaw 1;have f2:=i.out.thaw 2;obtain⟨z0,z1,Z⟩:=(i.out.store K J I).cells;go_wp2;exact aN (v:=hgv ⟨(K,J),I⟩) (by simp[dK,Tryz.results180,go_sem,z0,z1,Z]) rfl ⟨rfl,((xw.setCell f _).setCell f _).setCell f _⟩
end
end Go.Proofs.YtejbpijamdlgcaaGreatDoor

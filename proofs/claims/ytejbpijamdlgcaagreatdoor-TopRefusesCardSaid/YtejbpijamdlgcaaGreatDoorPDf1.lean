/-
  Lemmas of this seat; no claim.
-/
import Derived.Stop.Asserts
import Derived.Test.YtejbpijamdlgcaaGreatDoorPLf1
import Derived.Test.YtejbpijamdlgcaaGreatDoorPdMP
import Derived.Test.YtejbpijamdlgcaaGreatDoorPVf1
import Derived.Test.YtejbpijamdlgcaaGreatDoorDfMP
import Derived.Test.YtejbpijamdlgcaaGreatDoorBMayP
set_option linter.unusedVariables false
set_option linter.unusedSimpArgs false
set_option maxRecDepth 100000
set_option maxHeartbeats 4000000
open Bool renaming and_eq_true→aQ,eq_iff_iff→gu,false_eq_true→mh,false_or→fU,not_eq_true'→iL,or_eq_false_iff→ig,or_eq_true→dV
open Go renaming Value→aI,World→aj,method→kG
open Go.Extern.ReflectliteType renaming abiMethod→iO,assignableTo→jX,elem→lF,implements_→ko,method→gZ,relation→gL,toType→kT,typeOf→je
open Go.Extern.ReflectliteValue renaming elem→jg,flagAddr→kE,isNil→iZ,methodAny→jZ,method→gV,parts→eH,set→kX,unpack→gU,valueError→eB
open Go.Lib renaming hid→ah
open Go.Result renaming andThen→dh
open Go.RowKit.Below renaming block→aJ
open Go.Sem renaming run_bind→fQ
open Go.Value renaming int→aG
open Go.World renaming block_lt_of_cell?→eO,cell?_alloc_lt→kr,frozen?_alloc_old→mU
open Int renaming le_refl→jH
open List renaming append_assoc→aY,append_nil→bZ,countP_cons→jO,filter_append→iC,length_append→ay,length_cons→aH,length_map→gI,length_nil→aR,length_singleton→dJ,mem_append_left→dG,mem_append→aZ,mem_cons_of_mem→aU,mem_cons→aS,mem_filter→iG,mem_map→dH,mem_of_getElem?→aP,mem_singleton→cu,pairwise_append→gq,pairwise_cons→bM,singleton_append→jY
open Nat renaming le_refl→aD,le_trans→aM
open Prod.mk renaming injEq→dI
namespace Go.Proofs.YtejbpijamdlgcaaGreatDoor
section
open Go.RowKit Go.Extern.Stop Go.Stop Go.Extern
theorem asV (t:Addr) (w:aj):(gU (.iface 116 (.pointer (some t)))).run Tryz.prog w
  = .ok (.agg #[.pointer (some ⟨3,116,none⟩),.pointer (some ⟨w.heap.size,0,none⟩),.int .u64 150]) (w.alloc (.cells #[.pointer (some t)] 116)):=κ
theorem asT (a:Addr) (w:aj):(jZ (eB "reflectlite.Value.Type" 0) (λt _ _ _=>kT t) #[.agg #[.pointer (some ⟨3,116,none⟩),.pointer (some a),.int .u64 150]]).run Tryz.prog w
  = .ok (.iface 234 (.agg #[.pointer (some ⟨3,116,none⟩)])) w:=κ
theorem asK (w:aj):((iO λt=>(λa:Nat=>aG IntKind.u8 (a:Int))<$>Rtype.kind t) #[.pointer (some ⟨3,116,none⟩)]).run Tryz.prog w= .ok (.int .u8 22) w:=κ
theorem ajA (w:aj):((iO λt=>(λa:Nat=>aG IntKind.u8 (a:Int))<$>Rtype.kind t) #[.pointer (some ⟨3,75,none⟩)]).run Tryz.prog w= .ok (.int .u8 2) w:=κ
theorem asP (a:Addr) (w:aj):(eH (.agg #[.pointer (some ⟨3,116,none⟩),.pointer (some a),.int .u64 150])).run Tryz.prog w= .ok (some (116,a,150)) w:=κ
theorem aii (a p:Addr) (W:aj) (e:W.cell? a=some (.pointer (some p))):
  (gV (eB "reflectlite.Value.IsNil" 0) iZ #[.agg #[.pointer (some ⟨3,116,none⟩),.pointer (some a),.int .u64 150]]).run Tryz.prog W= .ok (.bool false) W:=by
 show(eH (.agg #[.pointer (some ⟨3,116,none⟩),.pointer (some a),.int .u64 150])>>=_:Sem aI).run _ _=_;simp only[fQ,asP,dh];simp[iZ,loadVar,isAgg,underlying,Tryz.underlying116,e,dh]
theorem agG (w:aj):(gZ lF #[.agg #[.pointer (some ⟨3,116,none⟩)]]).run Tryz.prog w= .ok (.iface 234 (.agg #[.pointer (some ⟨3,75,none⟩)])) w:=κ
theorem agF (w:aj):(gL "Implements" ko #[.agg #[.pointer (some ⟨3,75,none⟩)],.iface 234 (.agg #[.pointer (some ⟨3,29,none⟩)])]).run Tryz.prog w= .ok (.bool true) w:=κ
theorem aic (v:aI) (w:aj):(je #[.iface 75 v]).run Tryz.prog w= .ok (.iface 234 (.agg #[.pointer (some ⟨3,75,none⟩)])) w:=κ
theorem ail (w:aj):(gL "AssignableTo" jX #[.agg #[.pointer (some ⟨3,75,none⟩)],.iface 234 (.agg #[.pointer (some ⟨3,75,none⟩)])]).run Tryz.prog w= .ok (.bool true) w:=κ
theorem ajt (c:Int) (w:aj):(gU (.iface 75 (.int .i64 c))).run Tryz.prog w
  = .ok (.agg #[.pointer (some ⟨3,75,none⟩),.pointer (some ⟨w.heap.size,0,none⟩),.int .u64 130]) (w.alloc (.cells #[.int .i64 c] 75)):=κ
theorem ajB (w:aj):(Rtype.elem? 116).run Tryz.prog w= .ok (some 75) w:=κ
theorem ajv (p:Addr) (w:aj):(ReflectliteValue.mk 75 p kE).run Tryz.prog w= .ok (.agg #[.pointer (some ⟨3,75,none⟩),.pointer (some p),.int .u64 386]) w:=κ
theorem aij (a p:Addr) (W:aj) (e:W.cell? a=some (.pointer (some p))):
  (gV (eB "reflectlite.Value.Elem" 0) jg #[.agg #[.pointer (some ⟨3,116,none⟩),.pointer (some a),.int .u64 150]]).run Tryz.prog W
   = .ok (.agg #[.pointer (some ⟨3,75,none⟩),.pointer (some p),.int .u64 386]) W:=by
 show(eH (.agg #[.pointer (some ⟨3,116,none⟩),.pointer (some a),.int .u64 150])>>=_:Sem aI).run _ _=_;simp only[fQ,asP,dh];simp[jg,loadVar,isAgg,underlying,Tryz.underlying116,e,dh,ajB,ajv]
theorem aif (a:Addr) (w:aj):(eH (.agg #[.pointer (some ⟨3,75,none⟩),.pointer (some a),.int .u64 386])).run Tryz.prog w= .ok (some (75,a,386)) w:=κ
theorem aju (a:Addr) (w:aj):(eH (.agg #[.pointer (some ⟨3,75,none⟩),.pointer (some a),.int .u64 130])).run Tryz.prog w= .ok (some (75,a,130)) w:=κ
theorem aik (w:aj):(Rtype.directlyAssignable 75 75).run Tryz.prog w= .ok true w:=κ
theorem aie (a b:Addr) (c:Int) (e:aI) (W:aj) (j:W.cell? b=some (.int .i64 c)) (f:W.cell? a=some e) (i:W.frozen? a=false):
  (kX #[.agg #[.pointer (some ⟨3,75,none⟩),.pointer (some a),.int .u64 386],.agg #[.pointer (some ⟨3,75,none⟩),.pointer (some b),.int .u64 130]]).run Tryz.prog W
   = .ok (.tuple #[]) (W.setCell a (.int .i64 c)):=by
 show(eH (.agg #[.pointer (some ⟨3,75,none⟩),.pointer (some a),.int .u64 386])>>=_:Sem aI).run _ _=_;rw[fQ,aif];show(eH (.agg #[.pointer (some ⟨3,75,none⟩),.pointer (some b),.int .u64 130])>>=_:Sem aI).run _ _=_;simp only[fQ,aif,aju,dh];simp[kE,loadVar,isAgg,underlying,Tryz.underlying75,j,dh,aik,storeVar,Value.cells,storeCells,Addr.add];rw[run_store Tryz.prog W a _ _ (by rfl)];simp[f,i]
theorem ajz (h:aI) (w:aj):(kG 504 234 (.agg #[h]) "AssignableTo").run Tryz.prog w= .ok (307,.agg #[h]) w:=κ
theorem agE (c:Int) (t q:Addr) (a:aI) (w:aj) (u:w.cell? q=some (.pointer (some t))) (j:w.cell? t=some a) (z:w.frozen? t=false):
  Calls Tryz.prog 86 #[.iface 75 (.int .i64 c),.iface 116 (.pointer (some t)),.agg #[.pointer (some ⟨3,116,none⟩),.pointer (some q),.int .u64 150],.iface 234 (.agg #[.pointer (some ⟨3,75,none⟩)])] w λe w'=>e= .returned (.bool true)/\w'=((w.alloc (.cells #[.pointer (some ⟨3,116,none⟩),.pointer (some q),.int .u64 150] 174)).alloc (.cells #[.int .i64 c] 75)).setCell t (.int .i64 c):=by
 have U:=@run_callFunc_extern Tryz.prog 123 _ je Tryz.func123 κ κ κ κ;have Q:=@run_callFunc_extern Tryz.prog 307 _ (gL "AssignableTo" jX) Tryz.func307 κ κ κ κ
 have O:=@run_callFunc_extern Tryz.prog 124 _ (gV (eB "reflectlite.Value.Elem" 0) jg) Tryz.func124 κ κ κ κ
 have N:=@run_callFunc_extern Tryz.prog 125 _ kX Tryz.func125 κ κ κ κ;have M:=@run_callFunc_extern Tryz.prog 83 _ (λargs=>gU (args.getD 0 (.tuple #[]))) Tryz.func83 κ κ κ κ;have I:=aic;have K:=ajz;have X:=ail;have H:=ajt;have f:=eO w t j;have i:=eO w q u;have W:=aij q t (w.alloc (.cells #[.pointer (some ⟨3,116,none⟩),.pointer (some q),.int .u64 150] 174)) (by rw[kr _ _ q i];exact u);have J:=aie t ⟨w.heap.size+1,0,none⟩ c a ((w.alloc (.cells #[.pointer (some ⟨3,116,none⟩),.pointer (some q),.int .u64 150] 174)).alloc (.cells #[.int .i64 c] 75))
  (by rw[World.cell?_alloc_at _ _ _ _ ι];rfl)
  (by rw[kr _ _ t (by simp;omega),kr _ _ t f];exact j)
  (by rw[mU _ _ t (by simp;omega),mU _ _ t (Nat.ne_of_lt f)];exact z)
 go_enter Tryz.func86,Tryz.ntmps86;go_wp2;refine wp_loop_rounds 1 ?_;rw[rounds_succ];go_wp2;go_ret;exact⟨rfl,rfl⟩
theorem ajw (h:aI) (w:aj):(kG 504 234 (.agg #[h]) "Kind").run Tryz.prog w= .ok (290,h) w:=κ
theorem ajy (h:aI) (w:aj):(kG 504 234 (.agg #[h]) "Elem").run Tryz.prog w= .ok (309,.agg #[h]) w:=κ
theorem ajx (h:aI) (w:aj):(kG 504 234 (.agg #[h]) "Implements").run Tryz.prog w= .ok (310,.agg #[h]) w:=κ
theorem agX (c:Int) (t:Addr) (i:aI) (w:aj) (H:w.cell? ⟨0,0,none⟩=some (.iface 234 (.agg #[.pointer (some ⟨3,29,none⟩)]))) (q:w.cell? t=some i) (M:w.frozen? t=false):
  Calls Tryz.prog 48 #[.iface 75 (.int .i64 c),.iface 116 (.pointer (some t))] w λe w'=>e= .returned (.bool true)/\∃u,Ext w u/\w'=u.setCell t (.int .i64 c):=by
 have h1:=@run_callFunc_extern Tryz.prog 83 _ (λargs=>gU (args.getD 0 (.tuple #[]))) Tryz.func83 κ κ κ κ;have h2:=@run_callFunc_extern Tryz.prog 84 _ (jZ (eB "reflectlite.Value.Type" 0) (λt _ _ _=>kT t)) Tryz.func84 κ κ κ κ
 have Z:=@run_callFunc_extern Tryz.prog 85 _ (gV (eB "reflectlite.Value.IsNil" 0) iZ) Tryz.func85 κ κ κ κ
 have Y:=@run_callFunc_extern Tryz.prog 290 _ (iO λt=>do pure (.int .u8 (←Rtype.kind t))) Tryz.func290 κ κ κ κ;have X:=@run_callFunc_extern Tryz.prog 309 _ (gZ lF) Tryz.func309 κ κ κ κ;have W:=@run_callFunc_extern Tryz.prog 310 _ (gL "Implements" ko) Tryz.func310 κ κ κ κ
 have f1:=asV;have f2:=asT;have f3:=ajw;have f4:=ajy;have f5:=ajx;have f6:=asK;have f7:=ajA;have f8:=agG;have f9:=agF;have I:=eO w t q;have J:=eO w _ H;obtain⟨f,a⟩:∃f,(w.alloc (.cells #[.pointer (some t)] 116)).alloc (.cells #[.pointer (some ⟨3,116,none⟩),.pointer (some ⟨w.heap.size,0,none⟩),.int .u64 150] 174)=f:=⟨_,rfl⟩;have j:Ext w f:=by rw[<-a];exact((Ext.refl w).alloc _).alloc _
 have z:f.cell? ⟨w.heap.size,0,none⟩=some (.pointer (some t)):=by rw[<-a];simp[go_sem]
 have k0:f.cell? ⟨w.heap.size+1,0,none⟩=some (.pointer (some ⟨3,116,none⟩)):=by rw[<-a];simp[go_sem]
 have Q:f.cell? ⟨w.heap.size+1,1,none⟩=some (.pointer (some ⟨w.heap.size,0,none⟩)):=by rw[<-a];simp[go_sem]
 have O:f.cell? ⟨w.heap.size+1,2,none⟩=some (.int .u64 150):=by rw[<-a];simp[go_sem]
 have U:=aii ⟨w.heap.size,0,none⟩ t f z;have K:=j.keep H;have N:=ah (agE c t ⟨w.heap.size,0,none⟩ i f z (j.keep q) (j.thaw q M));go_enter Tryz.func48,Tryz.ntmps48
 go_wp2_with fail
 refine N.out.mono ?_;rintro e w' ⟨rfl,rfl⟩;go_wp2;go_ret;refine⟨rfl,_,?_,rfl⟩;exact(j.alloc _).alloc _
end
section
open Go.ChangeShapes Go.WideShapes Go.ChangeAt Go.RowKit Go.Sort
attribute [local go_sem] World.cell?_alloc_some
def zR (w:aj):Prop:=w.cell? ⟨0,0,none⟩=some (.iface 234 (.agg #[.pointer (some ⟨3,29,none⟩)]))
theorem zR.ext {w w':aj} (h:zR w) (x:Ext w w'):zR w':=x.keep h
def aiz (w:aj) (s:ByteArray) (c:Int) (v:aI):Prop:=∃q,v= .iface 117 (.pointer (some ⟨q,0,none⟩))/\w.heap[q]? =some (.cells #[.string s,.int .i64 c] 119 (0,0))
theorem Na (s:ByteArray) (c:Int) (w:aj) (u:zR w):
  Calls Tryz.prog 27 #[.string s,.iface 75 (.int .i64 c)] w λe w'=>∃v,e= .returned v/\aiz w' s c v/\Ext w w':=by
 have x1:Ext w (w.alloc (.cells #[.int .i64 0] 75)):=(Ext.refl w).alloc _;have z:=ah (agX c ⟨w.heap.size,0,none⟩ (.int .i64 0) (w.alloc (.cells #[.int .i64 0] 75)) (x1.keep u) σ σ);go_enter Tryz.func27,Tryz.ntmps27
 go_wp2_with fail
 refine z.out.mono ?_;rintro e w' ⟨rfl,a,x2,rfl⟩;have j:a.heap[w.heap.size]? =some (.cells #[.int .i64 0] 75 (0,0)):=by
  have r:=heap_alloc_new w (.cells #[.int .i64 0] 75);exact(aJ x2 _ (Array.getElem?_eq_some_iff.1 r).1).trans r
 have i:(a.setCell ⟨w.heap.size,0,none⟩ (.int .i64 c)).heap[w.heap.size]? =some (.cells #[.int .i64 c] 75 (0,0)):=heap_setCell_same a w.heap.size 0 _ _ _ j;have c1:=cell_of_row _ w.heap.size 0 _ _ _ i;have x3:Ext w (a.setCell ⟨w.heap.size,0,none⟩ (.int .i64 c)):=(x1.trans x2).setCell (p:=⟨w.heap.size,0,none⟩) (aD _) _;generalize a.setCell ⟨w.heap.size,0,none⟩ (.int .i64 c)=W at*;clear j i x1 x2 z u;generalize w.heap.size=q at*;replace c1:W.cell? ⟨q,0,none⟩=some (.int .i64 c):=c1;have f:=ah (heap_alloc_new W (.cells #[.string s,.int .i64 c] 119));go_wp2;go_ret;exact⟨_,rfl,⟨_,rfl,f.out⟩,x3.alloc _⟩
end
section
open Go.Lib
section
structure DS where
 cl:Int
 lim:Int
 L:List It
 V:List (Int×Int)
 Wt:List It
 D:List (Int×Int×Int)
 ver:Nat
 closed:Bool
def gdL (D:List (Int×Int×Int)) (L:List It):List I2:=(L.map iid).filter λa=>oL D a.1 a.2
variable {D:List (Int×Int×Int)} {L:List It} {S:DS} {b:List UInt8} {ds:List Sp} {m n:Nat} {rs:List Rn}
theorem Ul {a:I2}:a∈gdL D L↔nZ L a=true/\oL D a.1 a.2=true:=by
 unfold gdL;rw[iG,dH,oP]
theorem adJ {a:I2} (h:nZ L a=true):rR (gdL D L) a=oL D a.1 a.2:=by
 rw[gu,uT,Ul];exact⟨λg=>g.2,λg=>⟨h,g⟩⟩
theorem Ry (G H:List I2) (a:I2):rR (G++H) a=(rR G a||rR H a):=by unfold rR;rw[List.any_append]
def Marks (D:List (Int×Int×Int)) (L:List It) (G:List I2):Prop:=∀a,nZ L a=true->rR G a=oL D a.1 a.2
def DS.E (S:DS):List En:=oQ S.L (gdL S.D S.L)
theorem Yq {G:List I2} (e:og L=true) (h:Marks D L G):oQ L G=oQ L (gdL D L):=
 abp e e (λ_=>Iff.rfl) λa f=>by rw[h a f,adJ f]
def Fh:List It->List It->Bool
 |_,[]=>true
 |L,x::M=>Px L x&&Fh (L++[x]) M
theorem YE {x:It} (h:Px L x=true) (a:og L=true):og (L++[x])=true:=by
 rw[Wv,aQ] at h;rw[pJ,a,h.1];rfl
theorem Ee:∀{M L:List It},Fh L M=true->og L=true->og (L++M)=true
 |[],L,_,h=>by rw[bZ];exact h
 |x::M,L,h,hk=>by
  rw[Fh,aQ] at h;have:=Ee h.2 (YE h.1 hk);rwa[aY] at this
structure DOK (S:DS):Prop where
 c0:0<S.cl
 c1:S.cl<=4294967295
 l0:0<=S.lim
 l1:S.lim<=4294967294
 kn:og S.L=true
 wfL:∀x∈S.L,wfI x/\okB x.ch=true
 BM:oq 0 S.V=true
 wfV:wfC S.V
 cnt:∀c k,nZ S.L (c,k)=true↔0<=k/\k<nW S.V c
 rise:uE S.Wt
 wfW:∀x∈S.Wt,wfI x/\okW x/\okB x.ch=true/\x.c≠S.cl/\nW S.V x.c<=x.k
 DY:oC zS S.D=true
 wfD:wfS S.D
 own:nW S.V S.cl<=S.lim+1
theorem Iw:∀{l:List (Int×Int)} (c:Int),wfC l->0<=nW l c/\nW l c<=4294967295
 |[],c,_=>by simp[nW]
 |p::l,c,h=>by
  have e:=h p ι;have:=Iw (l:=l) c λq a=>h q (aU _ a)
  simp only[nW]
  split <;> omega
theorem Ru (L M:List It) (a:I2):nZ (L++M) a=(nZ L a||nZ M a):=by unfold nZ;rw[List.any_append]
def nxt (S:DS):Int:=nW S.V S.cl
def yV (S:DS) (p:Int) (t:List UInt8):Int:=if S.closed then 6 else if validD t=false then 1 else if p<0\/((om S.E).length:Int)<p then 3 else if S.lim+1<nxt S+(oJ t).length then 4 else 0
def BO (S:DS) (p:Int) (t:List UInt8):List It:=pF S.cl (nxt S) (xW S.E p.toNat).1.1 (xW S.E p.toNat).1.2 (xW S.E p.toNat).2.1 (xW S.E p.toNat).2.2 (oJ t)
def Ba (S:DS) (p:Int) (t:List UInt8):DS:=if yV S p t=0/\t≠[] then{ S with L:=S.L++BO S p t,V:=setOf S.V S.cl (nxt S+(oJ t).length),ver:=S.ver+1 } else S
def Fa (S:DS) (p m:Int):Int:=if S.closed then 6 else if p<0\/m<0\/((om S.E).length:Int)<p\/((om S.E).length:Int)-p<m then 3 else 0
def spA (a:I2):Int×Int×Int:=(a.1,a.2,a.2+1)
def E9 (S:DS) (p m:Int):DS:=if Fa S p m=0/\m≠0 then{ S with D:=pY (S.D++(uX S.E p.toNat m.toNat).map spA),ver:=S.ver+1 } else S
def hasK (S:DS) (x:It):Bool:=nZ S.L (iid x)||nZ S.Wt (iid x)
def ae8 (S:DS) (x:It):It:=if nZ S.L (iid x) then yU S.L (iid x) else yU S.Wt (iid x)
def eqI (x y:It):Bool:=decide (iid x=iid y)&&(decide (ilf x=ilf y)&&(decide (irt x=irt y)&&decide (x.ch=y.ch)))
theorem V6 {x y:It}:eqI x y=true↔x=y:=by
 cases x;cases y;simp[eqI,iid,ilf,irt];omega
def Dr (S:DS) (x:It):Bool:=if hasK S x then !eqI (ae8 S x) x else decide (x.c=S.cl)
def rU (S:DS) (l:List It):List It:=l.filter λx=> !hasK S x
def zP (S:DS) (b:List UInt8):Int:=if S.closed then 6 else match uo b with
 |none=>2
 |some (rs,ds)=>if(nY rs).any (Dr S) then 2 else if 1000<(r9 S.V (S.Wt++rU S (nY rs))).2.1.length then 5 else 0
def Du (S:DS) (b:List UInt8):DS:=if zP S b=0 then match uo b with
 |none=>S
 |some (rs,ds)=>let t:=r9 S.V (S.Wt++rU S (nY rs));{ S with L:=S.L++t.1,V:=t.2.2,Wt:=t.2.1,D:=pY (S.D++ds),ver:=if rU S (nY rs)≠[]\/t.1≠[]\/pY (S.D++ds)≠S.D then S.ver+1 else S.ver } else S
theorem abb {c rc rk:Int} (f:c≠0):∀(a:List Nat) (L:List It) (k lc lk:Int),(∀n∈a,okB (n:Int)=true)->(lc=0\/nZ L (lc,lk)=true)->(rc=0\/nZ L (rc,rk)=true)->(∀j,k<=j->nZ L (c,j)=false)->Fh L (pF c k lc lk rc rk a)=true
 |[],L,k,lc,lk,_,_,_,_=>rfl
 |n::a,L,k,lc,lk,hn,hl,hr,hf=>by
  rw[sV,Fh,aQ];refine⟨?_,abb f a _ (k+1) c k (λm i=>hn m (aU _ i)) (.inr ?_) (hr.imp id λh=>?_) λj q=>?_⟩
  ·unfold Px
   simp only[aQ,dV,decide_eq_true_eq,iL,ig,decide_eq_false_iff_not];exact⟨⟨⟨⟨f,hf k (jH _)⟩,hl⟩,hr⟩,hn n ι⟩
  ·rw[qH];simp[iid]
  ·rw[qH,h];rfl
  ·rw[qH,hf j ω]
   rw[fU,decide_eq_false_iff_not];intro e;have:=congrArg Prod.snd e;simp only[iid] at this;omega
theorem aa9 {c rc rk:Int}:∀(a:List Nat) (k lc lk d j:Int),nZ (pF c k lc lk rc rk a) (d,j)=decide (d=c/\k<=j/\j<k+a.length)
 |[],k,lc,lk,d,j=>by
  unfold pF;simp[nZ]
  try omega
 |n::a,k,lc,lk,d,j=>by
  rw[sV];have:nZ (⟨c,k,lc,lk,rc,rk,(n:Int)⟩::pF c (k+1) c k rc rk a) (d,j)=(decide (iid ⟨c,k,lc,lk,rc,rk,(n:Int)⟩=(d,j))||nZ (pF c (k+1) c k rc rk a) (d,j)):=by unfold nZ;rw[List.any_cons]
  rw[this,aa9 a (k+1) c k d j,gu];simp only[iid,dV,decide_eq_true_eq,dI,aH];omega
theorem Ja (t:List UInt8) (n:Nat) (h:n∈oJ t):okB (n:Int)=true:=by
 have:=LY t.length t (aD _) n h;unfold okB;rw[decide_eq_true_eq];exact this
theorem OL (a:og L=true) (G:List I2) (i:Nat):(uY (oQ L G) i).1=0\/nZ L (uY (oQ L G) i)=true:=by
 cases h:(oQ L G)[i]? with
 |none=>unfold uY;rw[h];exact .inl rfl
 |some x=>
  rw[vW h,<-xk a G];exact .inr (ES.2 ⟨x,aP h,by simp[qY]⟩)
theorem agv (a:og L=true) (G:List I2) (k:Nat):((xW (oQ L G) k).1.1=0\/nZ L (xW (oQ L G) k).1=true)/\((xW (oQ L G) k).2.1=0\/nZ L (xW (oQ L G) k).2=true):=by
 cases k with
 |zero=>exact⟨.inl rfl,OL a G 0⟩
 |succ k=>exact⟨OL a G _,OL a G _⟩
theorem aaJ (f:∀x∈L,wfI x/\okB x.ch=true) (a:I2) (h:nZ L a=true):0<=a.1/\a.1<=4294967295/\0<=a.2/\a.2<=4294967295:=by
 obtain⟨x,e,rfl⟩:=oP.1 h;have:=(f x e).1;unfold wfI at this;unfold iid;omega
theorem OJ (e:og L=true) (a:∀x∈L,wfI x/\okB x.ch=true) (G:List I2) (i:Nat):0<=(uY (oQ L G) i).1/\(uY (oQ L G) i).1<=4294967295/\0<=(uY (oQ L G) i).2/\(uY (oQ L G) i).2<=4294967295:=by
 cases h:(oQ L G)[i]? with
 |none=>unfold uY;rw[h];decide
 |some x=>
  refine aaJ a _ ?_;rw[vW h,<-xk e G];exact ES.2 ⟨x,aP h,by simp[qY]⟩
theorem ab5 (e:og L=true) (a:∀x∈L,wfI x/\okB x.ch=true) (G:List I2) (k:Nat):(0<=(xW (oQ L G) k).1.1/\(xW (oQ L G) k).1.1<=4294967295/\0<=(xW (oQ L G) k).1.2/\(xW (oQ L G) k).1.2<=4294967295)/\0<=(xW (oQ L G) k).2.1/\(xW (oQ L G) k).2.1<=4294967295/\0<=(xW (oQ L G) k).2.2/\(xW (oQ L G) k).2.2<=4294967295:=by
 cases k with
 |zero=>exact⟨by show(0:Int)<=0/\(0:Int)<=4294967295/\(0:Int)<=0/\(0:Int)<=4294967295;decide,OJ e a G 0⟩
 |succ k=>exact⟨OJ e a G _,OJ e a G _⟩
theorem go_wf {c rc rk:Int} (i:0<=c/\c<=4294967295) (j:0<=rc/\rc<=4294967295/\0<=rk/\rk<=4294967295):∀(e:List Nat) (k lc lk:Int),0<=k->k+e.length<=4294967295->(0<=lc/\lc<=4294967295/\0<=lk/\lk<=4294967295)->(∀n∈e,okB (n:Int)=true)->∀x∈pF c k lc lk rc rk e,wfI x/\okB x.ch=true
 |[],k,lc,lk,_,_,_,_=>λx a=>by simp[pF] at a
 |n::e,k,lc,lk,h0,h1,hl,hn=>λx a=>by
  rw[aH] at h1;rw[sV] at a;rcases aS.1 a with rfl|a
  ·have f:=hn n ι
   refine⟨?_,f⟩;have:=of_decide_eq_true f;unfold wfI;simp only;omega
  ·exact go_wf i j e (k+1) c k ω ω ⟨i.1,i.2,h0,ω⟩ (λm q=>hn m (aU _ q)) x a
theorem Tz (h:DOK S):0<=nxt S/\nxt S<=S.lim+1:=⟨(Iw _ h.wfV).1,h.own⟩
theorem QY {p:Int} {t:List UInt8} (h:yV S p t=0):S.closed=false/\validD t=true/\0<=p/\p<=((om S.E).length:Int)/\nxt S+(oJ t).length<=S.lim+1:=by
 unfold yV at h
 split at h
 ·cases h
 ·split at h
  ·cases h
  ·split at h
   ·cases h
   ·split at h
    ·cases h
    ·rename_i e a i f
     refine⟨by simpa using e,by simpa using a,ω,ω,ω⟩
theorem VK (h:DOK S) {p:Int} {t:List UInt8} (z:yV S p t=0):Fh S.L (BO S p t)=true/\∀x∈BO S p t,wfI x/\okB x.ch=true:=by
 obtain⟨_,hv,K,J,I⟩:=QY z;have f:=agv h.kn (gdL S.D S.L) p.toNat;have e:=ab5 h.kn h.wfL (gdL S.D S.L) p.toNat;have i:=Tz h;have H:=h.l1;refine⟨abb (by have:=h.c0;omega) _ _ _ _ _ (λn a=>Ja t n a) f.1 f.2 λj u=>?_,go_wf ⟨by have:=h.c0;omega,h.c1⟩ e.2 _ _ _ _ i.1 ω e.1 λn a=>Ja t n a⟩;cases q:nZ S.L (S.cl,j) with
 |false=>rfl
 |true=>
  have:=(h.cnt S.cl j).1 q;unfold nxt at u;omega
theorem aaC (h:DOK S) (p:Int) (t:List UInt8):DOK (Ba S p t):=by
 unfold Ba
 split
 ·rename_i f
  obtain⟨f,q⟩:=f;obtain⟨_,hv,Q,O,u⟩:=QY f;obtain⟨H,z⟩:=VK h f;have a:=Tz h;have N:=h.l1;have i:∀d,nW (setOf S.V S.cl (nxt S+(oJ t).length)) d=if d=S.cl then nxt S+(oJ t).length else nW S.V d:=λd=>ug _ _ d h.BM
  refine⟨h.c0,h.c1,h.l0,h.l1,Ee H h.kn,λx a=>?_,Oa h.BM h.c0 ω,N8 h.wfV (by have:=h.c0;omega) h.c1 ω ω,λc k=>?_,h.rise,λx a=>?_,h.DY,h.wfD,?_⟩
  ·rcases aZ.1 a with a|a
   ·exact h.wfL x a
   ·exact z x a
  ·show nZ (S.L++BO S p t) (c,k)=true↔0<=k/\k<nW (setOf S.V S.cl (nxt S+(oJ t).length)) c
   rw[Ru,dV,h.cnt,i];unfold BO;rw[aa9,decide_eq_true_eq];by_cases e:c=S.cl
   ·subst e
    rw[if_pos rfl];unfold nxt at a⊢;omega
   ·rw[if_neg e]
    omega
  ·obtain⟨M,K,J,j,I⟩:=h.wfW x a
   refine⟨M,K,J,j,?_⟩;show nW (setOf S.V S.cl (nxt S+(oJ t).length)) x.c<=x.k;rw[i,if_neg j];exact I
  ·show nW (setOf S.V S.cl (nxt S+(oJ t).length)) S.cl<=S.lim+1
   rw[i,if_pos rfl];exact u
 ·exact h
theorem ags (h:DOK S) (p m:Int):DOK (E9 S p m):=by
 unfold E9
 split
 ·refine⟨h.c0,h.c1,h.l0,h.l1,h.kn,h.wfL,h.BM,h.wfV,h.cnt,h.rise,h.wfW,tH _,I9 ?_,h.own⟩
  intro q e;rcases aZ.1 e with e|e
  ·exact h.wfD q e
  ·obtain⟨a,u,rfl⟩:=dH.1 e
   unfold uX at u;obtain⟨i,hi,rfl⟩:=dH.1 u;have z:=zm S.E 0 i (List.mem_of_mem_drop (List.mem_of_mem_take hi));have j:nZ S.L (uY S.E i)=true:=by
        have f:S.E[i]? =some (S.E[i]'(by omega)):=List.getElem?_eq_getElem ω;rw[vW f,<-xk h.kn (gdL S.D S.L)];exact ES.2 ⟨_,aP f,by simp[qY]⟩
   have J:=aaJ h.wfL _ j;have I:=(h.cnt (uY S.E i).1 (uY S.E i).2).1 j;have H:=(Iw (uY S.E i).1 h.wfV).2;unfold spA;simp only;omega
 ·exact h
theorem Ji {l:List It} (h:uE l):wT l:=List.Pairwise.imp (λ{a b} g e=>by rw[e] at g;exact EJ _ g) h
theorem Qp:∀{l:List It},Oh l=true->uE l
 |[],_=> .nil
 |[x],_=>List.pairwise_singleton _ _
 |x::y::l,h=>by
  rw[Iq,aQ] at h;have ih:=Qp h.2;have e:ltI (iid x) (iid y)=true:=by
   rw[wu];exact of_decide_eq_true h.1
  refine bM.2 ⟨λz a=>?_,ih⟩;rcases aS.1 a with rfl|a
  ·exact e
  ·exact vV e ((bM.1 ih).1 z a)
theorem Vh:∀{M:List It} {v u:List (Int×Int)} {L:List It},PG v M u->oq 0 v=true->(∀c k,nZ L (c,k)=true↔0<=k/\k<nW v c)->(∀x∈M,wfI x/\okW x/\okB x.ch=true)->Fh L M=true/\∀c k,nZ (L++M) (c,k)=true↔0<=k/\k<nW u c
 |[],v,u,L,h,hv,hc,hw=>by
  cases h;rw[bZ];exact⟨rfl,hc⟩
 |x::M,v,u,L,h,hv,hc,hw=>by
  obtain⟨f,a,w3⟩:=hw x ι;cases h with
  |cons N K=>
   obtain⟨O,j,i⟩:=CW.1 N;have ih:=Vh (L:=L++[x]) K (EA hv a) (λc k=>by
        rw[qH,dV,hc,ug x.c (x.k+1) c hv,decide_eq_true_eq];unfold iid;rw[dI];have:=a.2.2.1;by_cases e:c=x.c
        ·subst e
         rw[if_pos rfl];omega
        ·rw[if_neg e]
         constructor
         ·rintro(g|g)
          ·exact g
          ·exact absurd g.1.symm e
         ·exact .inl) λy q=>hw y (aU _ q)
   rw[aY] at ih;refine⟨?_,ih.2⟩;rw[Fh,ih.1,Bool.and_true];unfold Px;have J:x.lc=0\/nZ L (x.lc,x.lk)=true:=j.imp id λg=>(hc _ _).2 ⟨by unfold wfI at f;omega,g⟩
   have z:x.rc=0\/nZ L (x.rc,x.rk)=true:=i.imp id λg=>(hc _ _).2 ⟨by unfold wfI at f;omega,g⟩
   have I:nZ L (x.c,x.k)=false:=by
        cases H:nZ L (x.c,x.k) with
        |false=>rfl
        |true=>have:=(hc _ _).1 H;omega
   have Q:=a.1;simp only[aQ,dV,decide_eq_true_eq,iL,ig,decide_eq_false_iff_not];exact⟨⟨⟨⟨ω,I⟩,J⟩,z⟩,w3⟩
structure BOK (rs:List Rn) (ds:List Sp):Prop where
 may:∀r∈rs,rW r=true
 rise:uE (nY rs)
 wf:∀x∈nY rs,wfI x/\okW x/\okB x.ch=true
 DY:oC zS ds=true
 wfD:wfS ds
theorem adh {r:Rn} (h:rW r=true) (i:wfR r):∀x∈rX r,wfI x/\okW x/\okB x.ch=true:=by
 have q:=of_decide_eq_true h;unfold wfR at i;have ok:∀(f:List Nat) (k lc lk:Int),0<=k->k+f.length<=4294967295->∀x∈pF r.c k lc lk r.rc r.rk f,okW x:=by
  intro f
  induction f with
  |nil=>intro k lc lk _ _ x e;simp[pF] at e
  |cons n f ih=>
   intro k lc lk z u x e;rw[aH] at u;rw[sV] at e;rcases aS.1 e with rfl|e
   ·have:=q.2.2.1
    unfold okW;simp only;omega
   ·exact ih (k+1) r.c k ω ω x e
 intro x e;unfold rX at e;have a:=go_wf (c:=r.c) (rc:=r.rc) (rk:=r.rk) ⟨ω,ω⟩ ω (oJ r.t) r.k r.lc r.lk ω ω ω (λn j=>Ja r.t n j) x e;exact⟨a.1,ok _ _ _ _ ω ω x e,a.2⟩
theorem UW (h:uo b=some (rs,ds)):BOK rs ds/\(nY rs).length<=b.length/\b.length<=20000:=by
 obtain⟨I,a,H,z,u⟩:=Hw h;unfold Ia at a;simp only[aQ] at a;have i:∀r∈rs,rW r=true:=λr f=>List.all_eq_true.1 a.1.1.1 r f
 refine⟨⟨i,Qp a.1.1.2,λx e=>?_,a.2,λq j=>z q j⟩,?_,u⟩
 ·unfold nY at e
  obtain⟨r,f,e⟩:=List.mem_flatMap.1 e;exact adh (i r f) (H r f).1 x e
 ·have:=aaA rs ds
  rwa[I] at this
theorem Sv (h:zP S b=0):S.closed=false/\∃rs ds,uo b=some (rs,ds)/\(nY rs).any (Dr S)=false/\(r9 S.V (S.Wt++rU S (nY rs))).2.1.length<=1000:=by
 unfold zP at h
 split at h
 ·cases h
 ·rename_i f
  cases a:uo b with
  |none=>rw[a] at h;cases h
  |some q=>
   obtain⟨rs,ds⟩:=q;rw[a] at h;simp only at h
   split at h
   ·cases h
   ·split at h
    ·cases h
    ·rename_i e i
     exact⟨by simpa using f,rs,ds,rfl,by simpa using e,ω⟩
theorem Y5 (h:DOK S) (H:BOK rs ds) (u:(nY rs).any (Dr S)=false):
  wT (S.Wt++rU S (nY rs))/\∀x∈S.Wt++rU S (nY rs),wfI x/\okW x/\okB x.ch=true/\x.c≠S.cl/\nW S.V x.c<=x.k:=by
 have z:∀x∈rU S (nY rs),x∈nY rs/\nZ S.L (iid x)=false/\nZ S.Wt (iid x)=false:=λx f=>by
  obtain⟨j,i⟩:=iG.1 f;rw[iL,hasK,ig] at i;exact⟨j,i⟩
 refine⟨gq.2 ⟨Ji h.rise,Ji (List.Pairwise.sublist List.filter_sublist H.rise),λx f y J e=>?_⟩,λx f=>?_⟩
 ·have:=(z y J).2.2
  rw[<-e,oP.2 ⟨x,f,rfl⟩] at this;cases this
 ·rcases aZ.1 f with f|f
  ·exact h.wfW x f
  ·obtain⟨j,i,M⟩:=z x f
   obtain⟨I,q,w3⟩:=H.wf x j;refine⟨I,q,w3,?_,?_⟩
   ·have a:Dr S x=false:=by
     cases K:Dr S x with
     |false=>rfl
     |true=>rw[List.any_eq_true.2 ⟨x,j,K⟩] at u;cases u
    unfold Dr at a;rw[show hasK S x=false by unfold hasK;rw[i,M];rfl,if_neg ι] at a;exact of_decide_eq_false a
   ·have:=mt (h.cnt x.c x.k).2 (by rw[show nZ S.L (x.c,x.k)=false from i];simp)
    have:=q.2.2.1;omega
structure aiD (S:DS) (rs:List Rn) (ds:List Sp):Prop where
 bok:BOK rs ds
 apart:wT (S.Wt++rU S (nY rs))
 all:∀x∈S.Wt++rU S (nY rs),wfI x/\okW x/\okB x.ch=true/\x.c≠S.cl/\nW S.V x.c<=x.k
 tk:ae3 S.V (S.Wt++rU S (nY rs)) (r9 S.V (S.Wt++rU S (nY rs))).1 (r9 S.V (S.Wt++rU S (nY rs))).2.1 (r9 S.V (S.Wt++rU S (nY rs))).2.2
 can:Fh S.L (r9 S.V (S.Wt++rU S (nY rs))).1=true
 cnt:∀c k,nZ (S.L++(r9 S.V (S.Wt++rU S (nY rs))).1) (c,k)=true↔0<=k/\k<nW (r9 S.V (S.Wt++rU S (nY rs))).2.2 c
 wf:∀x∈(r9 S.V (S.Wt++rU S (nY rs))).1,wfI x/\okB x.ch=true
theorem UY (h:DOK S) (z:uo b=some (rs,ds)) (u:(nY rs).any (Dr S)=false):aiD S rs ds:=by
 obtain⟨i,_⟩:=UW z;obtain⟨q,j⟩:=Y5 h i u;have t:=acH (v:=S.V) q;have e:∀x∈(r9 S.V (S.Wt++rU S (nY rs))).1,wfI x/\okW x/\okB x.ch=true:=λx a=>by
  obtain⟨J,I,H,_⟩:=j x (t.perm.mem_iff.1 (dG _ a));exact⟨J,I,H⟩
 have f:=Vh t.run h.BM h.cnt e;exact⟨i,q,j,t,f.1,f.2,λx a=>⟨(e x a).1,(e x a).2.2⟩⟩
theorem ace (h:DOK S) (b:List UInt8):DOK (Du S b):=by
 unfold Du
 split
 ·rename_i N
  obtain⟨_,rs,ds,z,K,Z⟩:=Sv N;rw[z];have q:=UY h z K;have ok:∀x∈(r9 S.V (S.Wt++rU S (nY rs))).1,okW x:=λx a=>(q.all x (q.tk.perm.mem_iff.1 (dG _ a))).2.1
  obtain⟨I,H,_⟩:=Oe q.tk.run h.BM h.wfV ok;have u:∀x∈(r9 S.V (S.Wt++rU S (nY rs))).1,x∈S.Wt++rU S (nY rs):=λx a=>q.tk.perm.mem_iff.1 (dG _ a)
  refine⟨h.c0,h.c1,h.l0,h.l1,Ee q.can h.kn,λx a=>?_,I,H,q.cnt,q.tk.rise,λx a=>?_,tH _,I9 ?_,?_⟩
  ·rcases aZ.1 a with a|a
   ·exact h.wfL x a
   ·exact q.wf x a
  ·have f:=q.tk.perm.mem_iff.1 (List.mem_append_right (r9 S.V (S.Wt++rU S (nY rs))).1 a)
   obtain⟨X,W,U,Q,a5⟩:=q.all x f;refine⟨X,W,U,Q,Y4 (wait:=[]) q.apart h.BM (λy e=>(q.all y e).2.1) (λy e=>(q.all y e).2.2.2.2) q.tk.run u x f λj=>?_⟩;have nd:=Aq q.tk.perm.symm q.apart;exact(gq.1 nd).2.2 x j x a rfl
  ·intro p i
   rcases aZ.1 i with i|i
   ·exact h.wfD p i
   ·exact q.bok.wfD p i
  ·obtain⟨Y,J⟩:=Je q.tk.run h.BM ok
   show nW (r9 S.V (S.Wt++rU S (nY rs))).2.2 S.cl<=S.lim+1;apply Int.not_lt.1;intro M;have:=h.own;obtain⟨y,e,O,_⟩:=(J S.cl (nW S.V S.cl)).1 ⟨jH _,ω⟩;exact(q.all y (u y e)).2.2.2.1 O
 ·exact h
structure GN (S:DS) (n m:Nat):Prop where
 lw:S.L.length+S.Wt.length<=n
 v:S.V.length<=S.L.length
 d:S.D.length<=m
theorem VJ (h:GN S n m) (p:Int) (t:List UInt8) (e:t.length<=60):GN (Ba S p t) (n+600) (m+n):=by
 unfold Ba;have H:=h.lw;have i:=h.v;have z:=h.d
 split
 ·rename_i f
  have u:(BO S p t).length<=60:=by unfold BO;rw[wF];exact aM (xI t) e
  have q:0<(BO S p t).length:=by
   unfold BO;rw[wF];cases e:t with
   |nil=>exact absurd e f.2
   |cons a r=>rw[uh _ ι];simp
  have j:=Ob S.V S.cl (nxt S+(oJ t).length);refine⟨?_,?_,?_⟩
  ·show(S.L++BO S p t).length+S.Wt.length<=n+600
   rw[ay];omega
  ·show(setOf S.V S.cl (nxt S+(oJ t).length)).length<=(S.L++BO S p t).length
   rw[ay];omega
  ·show S.D.length<=m+n
   omega
 ·exact⟨ω,i,ω⟩
theorem adX (e:og S.L=true) (h:GN S n m) (p k:Int):GN (E9 S p k) (n+600) (m+n):=by
 unfold E9;have q:=h.lw;have a:=h.v;have j:=h.d
 split
 ·refine⟨by show S.L.length+S.Wt.length<=n+600;omega,a,?_⟩
  show(pY (S.D++(uX S.E p.toNat k.toNat).map spA)).length<=m+n;refine aM (CS _) ?_;rw[ay,gI];have:(uX S.E p.toNat k.toNat).length<=(om S.E).length:=by
   unfold uX;rw[gI,List.length_take,List.length_drop];omega
  have i:=rO S.E 0;have f:S.E.length=S.L.length:=KD e _;unfold om at this;omega
 ·exact⟨ω,a,ω⟩
theorem WG (e:DOK S) (h:GN S n m) (b:List UInt8) (N:b.length<=600) (z:∀rs ds,uo b=some (rs,ds)->ds.length<=600):GN (Du S b) (n+600) (m+n+600):=by
 unfold Du;have Q:=h.lw;have I:=h.v;have O:=h.d
 split
 ·rename_i H
  obtain⟨_,rs,ds,a,j,K⟩:=Sv H;rw[a];have q:=UY e a j;have hi:=(UW a).2.1;have u:=z rs ds a;have ok:∀x∈(r9 S.V (S.Wt++rU S (nY rs))).1,okW x:=λx f=>(q.all x (q.tk.perm.mem_iff.1 (dG _ f))).2.1
  obtain⟨_,_,J⟩:=Oe q.tk.run e.BM e.wfV ok;have i:=q.tk.perm.length_eq;have M:(rU S (nY rs)).length<=(nY rs).length:=List.length_filter_le _ _;rw[ay,ay] at i;refine⟨?_,?_,?_⟩
  ·show(S.L++(r9 S.V (S.Wt++rU S (nY rs))).1).length+(r9 S.V (S.Wt++rU S (nY rs))).2.1.length<=n+600
   rw[ay];omega
  ·show(r9 S.V (S.Wt++rU S (nY rs))).2.2.length<=(S.L++(r9 S.V (S.Wt++rU S (nY rs))).1).length
   rw[ay];omega
  ·show(pY (S.D++ds)).length<=m+n+600
   refine aM (CS _) ?_;rw[ay];omega
 ·exact⟨ω,I,ω⟩
end
section
def uw (a b:Int×Int×Int):Bool:=decide (a.1<b.1\/a.1=b.1/\a.2.2<=b.2.1)
variable {a b:List (Int×Int×Int)}
theorem GJ {a b:Int×Int×Int}:uw a b=true↔(a.1<b.1\/a.1=b.1/\a.2.2<=b.2.1):=by simp[uw]
theorem sN {a b:Int×Int×Int}:uw a b=false↔¬(a.1<b.1\/a.1=b.1/\a.2.2<=b.2.1):=by rw[<-GJ];simp
def Eb (s:Int×Int×Int):List (Int×Int×Int):=if s.2.1<s.2.2 then [s] else []
def xS (s:Int×Int×Int):List (Int×Int×Int)->List (Int×Int×Int)
 |[]=>Eb s
 |o::r=>if uw s o then Eb s else(if s.2.1<o.2.1 then [(s.1,s.2.1,o.2.1)] else [])++xS (s.1,o.2.2,s.2.2) r
def wB (s:Int×Int×Int):List (Int×Int×Int)->List (Int×Int×Int)
 |[]=>[]
 |o::r=>if uw o s then wB s r else o::r
def AZ:List (Int×Int×Int)->List (Int×Int×Int)->List (Int×Int×Int)
 |[],_=>[]
 |s::a,b=>xS s (wB s b)++AZ a (wB s b)
theorem Va:∀{r:List (Int×Int×Int)} {s z:Int×Int×Int},oC s r=true->z.1=s.1->z.2.2<=s.2.2->oC z r=true
 |[],s,z,h,h1,h2=>rfl
 |p::r,s,z,h,h1,h2=>by
  rw[oN] at h⊢;refine⟨?_,h.2⟩;have:=h.1;omega
theorem Ph:∀{set rest:List (Int×Int×Int)} {x y s:Int×Int×Int},oC y set=true->(∀o∈set,uw o s=false)->0<s.1->(x.1<s.1\/x.1=s.1/\x.2.2<s.2.1)->oC s rest=true->oC x rest=true->oC x (xS s set++rest)=true
 |[],rest,x,y,s,hm,hn,hc,hx,hr,hxr=>by
  unfold xS Eb
  split
  ·rw[jY,oN]
   exact⟨hx,hc,by assumption,hr⟩
  ·exact hxr
 |o::set,rest,x,y,s,hm,hn,hc,hx,hr,hxr=>by
  rw[oN] at hm;have u:=sN.1 (hn o ι);unfold xS
  split
  ·unfold Eb
   split
   ·rw[jY,oN]
    exact⟨hx,hc,by assumption,hr⟩
   ·exact hxr
  ·rename_i g
   have z:=sN.1 (by simpa using g);have e:∀q∈set,uw q (s.1,o.2.2,s.2.2)=false:=λq i=>by
        have:=yJ hm.2.2.2 q i;rw[sN];simp only;omega
   have f:oC (s.1,o.2.2,s.2.2) rest=true:=Va hr rfl (jH _)
   split
   ·rename_i j
    rw[aY,jY,oN];refine⟨hx,hc,j,Ph hm.2.2.2 e hc (.inr ⟨rfl,hm.2.2.1⟩) f (Va hr rfl ?_)⟩;simp only;omega
   ·rw[List.nil_append]
    refine Ph hm.2.2.2 e hc ?_ f hxr;simp only;omega
theorem Ew:∀{b:List (Int×Int×Int)} {y s:Int×Int×Int},oC y b=true->s.2.1<s.2.2->∀o∈wB s b,uw o s=false
 |[],y,s,hm,hs,o,e=>by simp[wB] at e
 |p::b,y,s,hm,hs,o,e=>by
  rw[oN] at hm;unfold wB at e
  split at e
  ·exact Ew hm.2.2.2 hs o e
  ·rename_i g
   have f:=sN.1 (by simpa using g);rcases aS.1 e with rfl|e
   ·simpa using g
   ·have:=yJ hm.2.2.2 o e
    rw[sN];omega
theorem Bh:∀{b:List (Int×Int×Int)} {y s:Int×Int×Int},oC y b=true->oC zS (wB s b)=true
 |[],y,s,hm=>rfl
 |p::b,y,s,hm=>by
  unfold wB
  split
  ·rw[oN] at hm
   exact Bh hm.2.2.2
  ·exact Xw hm
theorem I5:∀(b:List (Int×Int×Int)) (s:Int×Int×Int),(wB s b).Sublist b
 |[],s=> .slnil
 |p::b,s=>by
  unfold wB
  split
  ·exact(I5 b s).cons p
  ·exact .refl _
theorem Em:∀{a b:List (Int×Int×Int)} {x y:Int×Int×Int},oC x a=true->oC y b=true->oC x (AZ a b)=true
 |[],b,x,y,ha,hb=>rfl
 |s::a,b,x,y,ha,hb=>by
  rw[oN] at ha;obtain⟨j,q,i,f⟩:=ha;have e:=Bh (s:=s) hb;exact Ph e (Ew hb i) q j (Em f e) (Em (MI f i j) e)
theorem V8 (s:Int×Int×Int) (c k:Int):oL (Eb s) c k=inS s c k:=by
 unfold Eb
 split
 ·simp[oL]
 ·rw[oL,gu,rD]
  simp;omega
theorem Wi:∀{set:List (Int×Int×Int)} {y s:Int×Int×Int},oC y set=true->(∀o∈set,uw o s=false)->∀c k,oL (xS s set) c k=(inS s c k&& !oL set c k)
 |[],y,s,hm,hn,c,k=>by
  unfold xS;rw[V8];simp[oL]
 |o::set,y,s,hm,hn,c,k=>by
  rw[oN] at hm;have J:=sN.1 (hn o ι);have f:(c<o.1\/c=o.1/\k<=o.2.2)->oL set c k=false:=rV hm.2.2.2;unfold xS
  split
  ·rename_i g
   have z:=GJ.1 g;rw[V8,gu,aQ,rD,iL,oL,ig,yL];constructor
   ·intro h
    exact⟨h,ω,f ω⟩
   ·exact λh=>h.1
  ·rename_i g
   have z:=sN.1 (by simpa using g);have e:∀q∈set,uw q (s.1,o.2.2,s.2.2)=false:=λq u=>by
        have:=yJ hm.2.2.2 q u;rw[sN];simp only;omega
   rw[qc,Wi hm.2.2.2 e c k,oL];have H:oL (if s.2.1<o.2.1 then [(s.1,s.2.1,o.2.1)] else []) c k=decide (s.1=c/\s.2.1<=k/\k<o.2.1):=by
        split
        ·rw[oL,oL,Bool.or_false,inS]
        ·rw[oL,eq_comm,decide_eq_false_iff_not]
         omega
   rw[H,gu];simp only[dV,aQ,iL,ig,decide_eq_true_eq,rD,yL];constructor
   ·rintro(h|⟨h,j⟩)
    ·exact⟨ω,ω,f ω⟩
    ·exact⟨ω,ω,j⟩
   ·rintro⟨h,j,i⟩
    by_cases I:k<o.2.1
    ·exact .inl ω
    ·exact .inr ⟨ω,i⟩
theorem Qb:∀{b:List (Int×Int×Int)} {s:Int×Int×Int} {c k:Int},(s.1<c\/s.1=c/\s.2.1<=k)->oL (wB s b) c k=oL b c k
 |[],s,c,k,h=>rfl
 |p::b,s,c,k,h=>by
  unfold wB
  split
  ·rename_i g
   have e:=GJ.1 g;rw[Qb h,oL,show inS p c k=false by rw[yL];omega,fU]
  ·rfl
theorem NM:∀{a b:List (Int×Int×Int)} {x y:Int×Int×Int},oC x a=true->oC y b=true->∀c k,oL (AZ a b) c k=(oL a c k&& !oL b c k)
 |[],b,x,y,ha,hb,c,k=>rfl
 |s::a,b,x,y,ha,hb,c,k=>by
  rw[oN] at ha;obtain⟨z,u,q,i⟩:=ha;have e:=Bh (s:=s) hb;have f:(c<s.1\/c=s.1/\k<=s.2.2)->oL a c k=false:=rV i;rw[AZ,qc,Wi e (Ew hb q),NM i e,oL];by_cases j:s.1<c\/s.1=c/\s.2.1<=k
  ·rw[Qb j,Bool.and_or_distrib_right]
  ·rw[f ω,show inS s c k=false by rw[yL];omega]
   rfl
theorem Wm:∀{set:List (Int×Int×Int)} {y s:Int×Int×Int},oC y set=true->(∀o∈set,uw o s=false)->(xS s set).length<=1+set.countP λo=>inS s o.1 o.2.1
 |[],y,s,hm,hn=>by
  unfold xS Eb
  split <;> simp
 |o::set,y,s,hm,hn=>by
  rw[oN] at hm;have j:=sN.1 (hn o ι);unfold xS
  split
  ·unfold Eb
   split
   ·rw[dJ];omega
   ·rw[aR];omega
  ·rename_i g
   have z:=sN.1 (by simpa using g);have e:∀q∈set,uw q (s.1,o.2.2,s.2.2)=false:=λq f=>by
        have:=yJ hm.2.2.2 q f;rw[sN];simp only;omega
   have ih:=Wm hm.2.2.2 e;have i:set.countP (λq=>inS (s.1,o.2.2,s.2.2) q.1 q.2.1)<=set.countP λq=>inS s q.1 q.2.1:=List.countP_mono_left λq _ f=>by
        rw[rD] at f⊢;simp only at f;omega
   rw[ay,jO]
   split
   ·rename_i u
    rw[if_pos (by rw[rD];omega),dJ];omega
   ·rw[aR]
    omega
theorem U7:∀{a b:List (Int×Int×Int)} {x y:Int×Int×Int},oC x a=true->oC y b=true->(AZ a b).length<=a.length+b.countP λo=>oL a o.1 o.2.1
 |[],b,x,y,ha,hb=>by simp[AZ]
 |s::a,b,x,y,ha,hb=>by
  rw[oN] at ha;obtain⟨H,z,q,f⟩:=ha;have e:=Bh (s:=s) hb;have l1:=Wm e (Ew hb q);have u:=U7 f e;have key:∀l:List (Int×Int×Int),(l.countP λo=>inS s o.1 o.2.1)+(l.countP λo=>oL a o.1 o.2.1)<=l.countP λo=>oL (s::a) o.1 o.2.1:=by
   intro l
   induction l with
   |nil=>simp
   |cons o l ih=>
    rw[jO,jO,jO,oL];cases j:inS s o.1 o.2.1 with
    |false=>simp only[fU,mh,if_false];omega
    |true=>
     rw[rD] at j;rw[rV f ω];simp only[Bool.true_or,mh,if_false,if_true];omega
  have:=key (wB s b);have i:=(I5 b s).countP_le (p:=λo=>oL (s::a) o.1 o.2.1);rw[AZ,ay,aH];omega
theorem LB {x y:Int×Int×Int} (f:oC x a=true) (e:oC y b=true):(AZ a b).length<=a.length+b.length:=by
 have:=U7 f e;have:=List.countP_le_length (p:=λo:Int×Int×Int=>oL a o.1 o.2.1) (l:=b);omega
theorem PO (f:oC zS a=true) (e:oC zS b=true):pY (b++AZ a b)=pY (b++a):=by
 refine EB (tH _) (tH _) λc k=>?_
 rw[uR,uR,iC,iC,qc,qc,tq (Em f e),tq e,tq f,NM f e];cases oL b c k <;> simp
theorem Y1 (f:oC zS a=true) (e:oC zS b=true):AZ a b=[]↔pY (b++a)=b:=by
 constructor
 ·intro h
  rw[<-PO f e,h,bZ,SV e]
 ·intro h
  refine EB (Em f e) (a:=zS) (b:=zS) rfl λc k=>?_
  rw[NM f e];have i:oL (pY (b++a)) c k=oL b c k:=by rw[h]
  rw[uR,iC,qc,tq e,tq f] at i;cases j:oL b c k
  ·rw[j,fU] at i
   rw[i];rfl
  ·simp[oL]
theorem abI:∀{set:List (Int×Int×Int)} {s:Int×Int×Int},wfS set->wfS [s]->wfS (xS s set)
 |[],s,hw,hs=>by
  unfold xS Eb
  split
  ·exact hs
  ·intro p e;cases e
 |o::set,s,hw,hs=>by
  have i:=hw o ι;have j:=hs s ι;unfold xS
  split
  ·unfold Eb
   split
   ·exact hs
   ·intro p e;cases e
  ·intro p e
   rcases aZ.1 e with e|e
   ·split at e
    ·rcases cu.1 e with rfl
     simp only;omega
    ·cases e
   ·refine abI (λq f=>hw q (aU _ f)) (λq f=>?_) p e
    rcases cu.1 f with rfl;simp only;omega
theorem Y0:∀{a b:List (Int×Int×Int)},wfS a->wfS b->wfS (AZ a b)
 |[],b,ha,hb=>λp e=>by cases e
 |s::a,b,ha,hb=>λp e=>by
  have i:wfS (wB s b):=λq f=>hb q ((I5 b s).subset f)
  rcases aZ.1 e with e|e
  ·exact abI i (λq f=>by rcases cu.1 f with rfl;exact ha _ ι) p e
  ·exact Y0 (λq f=>ha q (aU _ f)) i p e
end
def yY (L:List It) (c:Int):Int->Nat->List It
 |_,0=>[]
 |k,n+1=>yU L (c,k)::yY L c (k+1) n
def xH (L:List It):List (Int×Int)->List (Int×Int)->List It
 |[],_=>[]
 |p::V,v=>yY L p.1 (nW v p.1) (p.2-nW v p.1).toNat++xH L V v
theorem TY {L:List It} {a:I2} (h:nZ L a=true):yU L a∈L/\iid (yU L a)=a:=by
 obtain⟨i,x,j,e,f⟩:=EX h;rw[Gl j e];exact⟨aP e,f⟩
theorem afG {L:List It} (e:og L=true) {x:It} (a:x∈L):yU L (iid x)=x:=by
 obtain⟨i,f⟩:=TY (oP.2 ⟨x,a,rfl⟩);exact JU e i a f
theorem IG {L:List It} {c:Int}:∀{n:Nat} {k:Int} {x:It},(∀j,k<=j->j<k+n->nZ L (c,j)=true)->x∈yY L c k n->x∈L/\x.c=c/\k<=x.k/\x.k<k+n
 |0,k,x,h,a=>by simp[yY] at a
 |n+1,k,x,h,a=>by
  rw[yY] at a;rcases aS.1 a with rfl|a
  ·obtain⟨f,e⟩:=TY (h k (jH _) ω)
   have i:=congrArg Prod.fst e;have q:=congrArg Prod.snd e;simp only[iid] at i q;exact⟨f,i,ω,ω⟩
  ·have:=IG (λj f e=>h j ω ω) a
   exact⟨this.1,this.2.1,ω,ω⟩
theorem abN {L:List It} (a:og L=true):∀{n:Nat} {k:Int} {x:It},x∈L->k<=x.k->x.k<k+n->x∈yY L x.c k n
 |0,k,x,hx,h1,h2=>by omega
 |n+1,k,x,hx,h1,h2=>by
  rw[yY];by_cases e:x.k=k
  ·refine aS.2 (.inl ?_)
   have:=afG a hx;unfold iid at this;rw[e] at this;exact this.symm
  ·exact aS.2 (.inr (abN a hx ω ω))
theorem R6 {L:List It} {c:Int}:∀{n:Nat} {k:Int},(∀j,k<=j->j<k+n->nZ L (c,j)=true)->uE (yY L c k n)
 |0,k,h=> .nil
 |n+1,k,h=>by
  rw[yY];have a:∀j,k+1<=j->j<k+1+n->nZ L (c,j)=true:=λj u e=>h j ω ω
  refine bM.2 ⟨λy f=>?_,R6 a⟩;obtain⟨_,e⟩:=TY (h k (jH _) ω);obtain⟨_,q,i,_⟩:=IG a f;rw[e,wu];unfold iid;simp only;omega
theorem NY {L:List It} (H:og L=true) (v:List (Int×Int)):∀{V:List (Int×Int)} {a:Int},oq a V=true->(∀c k,a<c->(nZ L (c,k)=true↔0<=k/\k<nW V c))->(∀c,0<=nW v c)->∀x,x∈xH L V v↔x∈L/\a<x.c/\nW v x.c<=x.k
 |[],a,hV,hc,hv,x=>by
  constructor
  ·intro h;simp[xH] at h
  ·rintro⟨f,i,q⟩
   have:=(hc x.c x.k i).1 (oP.2 ⟨x,f,rfl⟩);simp[nW] at this;omega
 |p::V,a,hV,hc,hv,x=>by
  rw[oO] at hV;have J:∀c,p.1<c->nW (p::V) c=nW V c:=λc h=>by
   simp only[nW];rw[if_neg ω]
  have z:nW (p::V) p.1=p.2:=by simp[nW]
  have ih:=NY H v (V:=V) (a:=p.1) hV.2.2 (λc k h=>by rw[hc c k ω,J c h]) hv x;have hh:∀j,nW v p.1<=j->j<nW v p.1+((p.2-nW v p.1).toNat:Int)->nZ L (p.1,j)=true:=λj f i=>(hc p.1 j hV.1).2 ⟨by have:=hv p.1;omega,by rw[z];omega⟩
  rw[xH,aZ,ih];constructor
  ·rintro(h|h)
   ·obtain⟨f,i,q,K⟩:=IG hh h
    exact⟨f,ω,by rw[i];exact q⟩
   ·exact⟨h.1,ω,h.2.2⟩
  ·rintro⟨f,i,q⟩
   have I:=(hc x.c x.k i).1 (oP.2 ⟨x,f,rfl⟩);by_cases e:x.c=p.1
   ·refine .inl ?_
    have u:=I.2;rw[e,z] at u;have:=abN H (n:=(p.2-nW v p.1).toNat) (k:=nW v p.1) f (by rw[<-e];exact q) ω;rwa[e] at this
   ·refine .inr ⟨f,?_,q⟩
    rcases Int.lt_or_gt_of_ne e with g|g
    ·have:nW (p::V) x.c=0:=ru (a:=x.c) (oO.2 ⟨g,hV.2⟩) (jH _)
     omega
    ·exact g
theorem Qc {L:List It} (f:og L=true) (v:List (Int×Int)):∀{V:List (Int×Int)} {a:Int},oq a V=true->(∀c k,a<c->(nZ L (c,k)=true↔0<=k/\k<nW V c))->(∀c,0<=nW v c)->uE (xH L V v)
 |[],a,hV,hc,hv=> .nil
 |p::V,a,hV,hc,hv=>by
  rw[oO] at hV;have z:∀c,p.1<c->nW (p::V) c=nW V c:=λc h=>by
   simp only[nW];rw[if_neg ω]
  have u:nW (p::V) p.1=p.2:=by simp[nW]
  have e:∀c k,p.1<c->(nZ L (c,k)=true↔0<=k/\k<nW V c):=λc k h=>by rw[hc c k ω,z c h]
  have hh:∀j,nW v p.1<=j->j<nW v p.1+((p.2-nW v p.1).toNat:Int)->nZ L (p.1,j)=true:=λj I H=>(hc p.1 j hV.1).2 ⟨by have:=hv p.1;omega,by rw[u];omega⟩
  rw[xH];refine gq.2 ⟨R6 hh,Qc f v hV.2.2 e hv,λx q y i=>?_⟩;obtain⟨_,H,_⟩:=IG hh q;have:=(NY f v hV.2.2 e hv y).1 i;rw[wu];unfold iid;simp only;omega
def qV (S:DS) (v:List (Int×Int)):List It:=xH S.L S.V v
theorem Zy {S:DS} (h:DOK S) {v:List (Int×Int)} (hv:oq 0 v=true):uE (qV S v)/\∀x,x∈qV S v↔x∈S.L/\nW v x.c<=x.k:=by
 have f:∀c,0<=nW v c:=λc=>sO c hv
 refine⟨Qc h.kn v h.BM (λc k _=>h.cnt c k) f,λx=>?_⟩;have:=NY h.kn v h.BM (λc k _=>h.cnt c k) f x;unfold qV;rw[this];constructor
 ·exact λg=>⟨g.1,g.2.2⟩
 ·rintro⟨e,i⟩
  refine⟨e,?_,i⟩;have j:=(h.cnt x.c x.k).1 (oP.2 ⟨x,e,rfl⟩);have:=(h.wfL x e).1;unfold wfI at this;apply Int.not_le.1;intro a;have:nW S.V x.c=0:=ru h.BM a;omega
theorem Pn (L:List It) (c:Int):∀(n:Nat) (k:Int),(yY L c k n).length=n
 |0,k=>rfl
 |n+1,k=>by rw[yY,aH,Pn]
end
section
open Go.RowKit Go.Extern.Stop Go.Stop Go.Extern
theorem aiO (w:aj):((gZ λt=>do Rtype.noPackHeld "Comparable" t;(λa=>Value.bool a.comparable)<$>typeInfo t) #[.agg #[.pointer (some ⟨3,75,none⟩)]]).run Tryz.prog w= .ok (.bool true) w:=κ
theorem aiN (h:aI) (w:aj):(kG 504 234 h "Comparable").run Tryz.prog w= .ok (308,h) w:=κ
theorem nil_eq (c:Int) (W:aj):(binOp .eql 29 .nilIface (.iface 75 (.int .i64 c))).run Tryz.prog W= .ok (.bool false) W:=by
 have deep:∀d:Nat,(Op.equalIn (d+1) 29 .nilIface (.iface 75 (.int .i64 c))).run Tryz.prog W= .ok false W:=λd=>by simp[Op.equalIn,run_underlying Tryz.underlying29]
 simp only[binOp];simp[Op.equal,Op.maxDepth,deep 9999]
theorem ahd (w:aj):Calls Tryz.prog 116 #[.nilIface,.iface 75 (.int .i64 1)] w λe w'=>e= .returned (.bool false)/\Ext w w':=by
 have a:=nil_eq 1;go_enter Tryz.func116,Tryz.ntmps116;go_wp2;go_ret;exact⟨rfl,Ext.refl _⟩
theorem ahe (w:aj):Calls Tryz.prog 151 #[.iface 75 (.int .i64 1),.iface 75 (.int .i64 1),.bool true] w λe w'=>e= .returned (.bool true)/\Ext w w':=by
 have a:∀W:aj,(binOp .eql 29 (.iface 75 (.int .i64 1)) (.iface 75 (.int .i64 1))).run Tryz.prog W= .ok (.bool true) W:=λW=>adO 1 1 W
 go_enter Tryz.func151,Tryz.ntmps151;go_wp2;refine wp_loop_rounds 1 ?_;rw[rounds_succ];go_wp2;go_ret;exact⟨rfl,Ext.refl _⟩
theorem afH (w:aj):Calls Tryz.prog 116 #[.iface 75 (.int .i64 1),.iface 75 (.int .i64 1)] w λe w'=>e= .returned (.bool true)/\Ext w w':=by
 have f:=@run_callFunc_extern Tryz.prog 123 _ je Tryz.func123 κ κ κ κ;have a:=@run_callFunc_extern Tryz.prog 308 _ (gZ λt=>do Rtype.noPackHeld "Comparable" t;pure (.bool (←typeInfo t).comparable)) Tryz.func308 κ κ κ κ
 have q:=aic;have j:=aiO;have i:=aiN;go_enter Tryz.func116,Tryz.ntmps116
 go_wp2_with fail
 refine(ahe _).mono ?_;rintro e w' ⟨rfl,x⟩;go_wp2;go_ret;exact⟨rfl,x⟩
end
end Go.Proofs.YtejbpijamdlgcaaGreatDoor

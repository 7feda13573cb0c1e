/-
  Lemmas of this seat; no claim.
-/
import Derived.Stop.Asserts
import Derived.Test.YtncfhbpejchbfaaGreatDoorPLf1
import Derived.Test.YtncfhbpejchbfaaGreatDoorPdMP
import Derived.Test.YtncfhbpejchbfaaGreatDoorPVf1
import Derived.Test.YtncfhbpejchbfaaGreatDoorDfMP
import Derived.Test.YtncfhbpejchbfaaGreatDoorBMayP
set_option linter.unusedVariables false
set_option linter.unusedSimpArgs false
set_option maxRecDepth 100000
set_option maxHeartbeats 4000000
open Bool renaming and_eq_true→aC,eq_iff_iff→dC,false_eq_true→iy,false_or→dv,not_eq_true'→eB,or_eq_false_iff→dV,or_eq_true→cE
open Go renaming Value→au,World→ae,method→gp
open Go.Extern.ReflectliteType renaming abiMethod→eF,assignableTo→fW,elem→gZ,implements_→gc,method→dU,relation→dN,toType→gH,typeOf→eT
open Go.Extern.ReflectliteValue renaming elem→eZ,flagAddr→gh,isNil→eO,methodAny→fZ,method→dR,parts→cW,set→gO,unpack→dQ,valueError→cR
open Go.Lib renaming hid→ac
open Go.Result renaming andThen→bH
open Go.RowKit.Below renaming block→av
open Go.Sem renaming run_bind→dG
open Go.Value renaming int→ao
open Go.World renaming block_lt_of_cell?→cK,cell?_alloc_lt→ge,frozen?_alloc_old→iO
open Int renaming le_refl→fy
open List renaming append_assoc→aK,append_nil→bB,countP_cons→fL,filter_append→fK,length_append→ag,length_cons→ar,length_nil→aG,length_singleton→cy,mem_append_left→aX,mem_append→aA,mem_cons_of_mem→aF,mem_cons→aE,mem_filter→dY,mem_of_getElem?→aD,mem_singleton→aN,pairwise_append→co,pairwise_cons→bd,singleton_append→fX
open Nat renaming le_refl→am,le_trans→az
open Prod.mk renaming injEq→bg
open Go.Proofs.Tryz
open Go.Proofs.Tryz renaming prog→pg
namespace Go.Proofs.YtncfhbpejchbfaaGreatDoor
section
open Go.RowKit Go.Extern.Stop Go.Stop Go.Extern
theorem asV (t:Addr) (w:ae):(dQ (.iface 86 (.pointer (some t)))).run pg w
  = .ok (.agg #[.pointer (some ⟨3,86,none⟩),.pointer (some ⟨w.heap.size,0,none⟩),.int .u64 150]) (w.alloc (.cells #[.pointer (some t)] 86)):=κ
theorem asT (a:Addr) (w:ae):(fZ (cR "reflectlite.Value.Type" 0) (λt _ _ _=>gH t) #[.agg #[.pointer (some ⟨3,86,none⟩),.pointer (some a),.int .u64 150]]).run pg w
  = .ok (.iface 190 (.agg #[.pointer (some ⟨3,86,none⟩)])) w:=κ
theorem asK (w:ae):((eF λt=>(λa:Nat=>ao IntKind.u8 (a:Int))<$>Rtype.kind t) #[.pointer (some ⟨3,86,none⟩)]).run pg w= .ok (.int .u8 22) w:=κ
theorem ah1 (w:ae):((eF λt=>(λa:Nat=>ao IntKind.u8 (a:Int))<$>Rtype.kind t) #[.pointer (some ⟨3,56,none⟩)]).run pg w= .ok (.int .u8 2) w:=κ
theorem asP (a:Addr) (w:ae):(cW (.agg #[.pointer (some ⟨3,86,none⟩),.pointer (some a),.int .u64 150])).run pg w= .ok (some (86,a,150)) w:=κ
theorem agD (a p:Addr) (W:ae) (e:W.cell? a=some (.pointer (some p))):
  (dR (cR "reflectlite.Value.IsNil" 0) eO #[.agg #[.pointer (some ⟨3,86,none⟩),.pointer (some a),.int .u64 150]]).run pg W= .ok (.bool false) W:=by
 show(cW (.agg #[.pointer (some ⟨3,86,none⟩),.pointer (some a),.int .u64 150])>>=_:Sem au).run _ _=_;simp only[dG,asP,bH];simp[eO,loadVar,isAgg,underlying,underlying86,e,bH]
theorem aeY (w:ae):(dU gZ #[.agg #[.pointer (some ⟨3,86,none⟩)]]).run pg w= .ok (.iface 190 (.agg #[.pointer (some ⟨3,56,none⟩)])) w:=κ
theorem aeX (w:ae):(dN "Implements" gc #[.agg #[.pointer (some ⟨3,56,none⟩)],.iface 190 (.agg #[.pointer (some ⟨3,27,none⟩)])]).run pg w= .ok (.bool true) w:=κ
theorem agA (v:au) (w:ae):(eT #[.iface 56 v]).run pg w= .ok (.iface 190 (.agg #[.pointer (some ⟨3,56,none⟩)])) w:=κ
theorem agG (w:ae):(dN "AssignableTo" fW #[.agg #[.pointer (some ⟨3,56,none⟩)],.iface 190 (.agg #[.pointer (some ⟨3,56,none⟩)])]).run pg w= .ok (.bool true) w:=κ
theorem ahU (c:Int) (w:ae):(dQ (.iface 56 (.int .i64 c))).run pg w
  = .ok (.agg #[.pointer (some ⟨3,56,none⟩),.pointer (some ⟨w.heap.size,0,none⟩),.int .u64 130]) (w.alloc (.cells #[.int .i64 c] 56)):=κ
theorem ah2 (w:ae):(Rtype.elem? 86).run pg w= .ok (some 56) w:=κ
theorem ahW (p:Addr) (w:ae):(ReflectliteValue.mk 56 p gh).run pg w= .ok (.agg #[.pointer (some ⟨3,56,none⟩),.pointer (some p),.int .u64 386]) w:=κ
theorem agE (a p:Addr) (W:ae) (e:W.cell? a=some (.pointer (some p))):
  (dR (cR "reflectlite.Value.Elem" 0) eZ #[.agg #[.pointer (some ⟨3,86,none⟩),.pointer (some a),.int .u64 150]]).run pg W
   = .ok (.agg #[.pointer (some ⟨3,56,none⟩),.pointer (some p),.int .u64 386]) W:=by
 show(cW (.agg #[.pointer (some ⟨3,86,none⟩),.pointer (some a),.int .u64 150])>>=_:Sem au).run _ _=_;simp only[dG,asP,bH];simp[eZ,loadVar,isAgg,underlying,underlying86,e,bH,ah2,ahW]
theorem agC (a:Addr) (w:ae):(cW (.agg #[.pointer (some ⟨3,56,none⟩),.pointer (some a),.int .u64 386])).run pg w= .ok (some (56,a,386)) w:=κ
theorem ahV (a:Addr) (w:ae):(cW (.agg #[.pointer (some ⟨3,56,none⟩),.pointer (some a),.int .u64 130])).run pg w= .ok (some (56,a,130)) w:=κ
theorem agF (w:ae):(Rtype.directlyAssignable 56 56).run pg w= .ok true w:=κ
theorem agB (a b:Addr) (c:Int) (e:au) (W:ae) (j:W.cell? b=some (.int .i64 c)) (f:W.cell? a=some e) (i:W.frozen? a=false):
  (gO #[.agg #[.pointer (some ⟨3,56,none⟩),.pointer (some a),.int .u64 386],.agg #[.pointer (some ⟨3,56,none⟩),.pointer (some b),.int .u64 130]]).run pg W
   = .ok (.tuple #[]) (W.setCell a (.int .i64 c)):=by
 show(cW (.agg #[.pointer (some ⟨3,56,none⟩),.pointer (some a),.int .u64 386])>>=_:Sem au).run _ _=_;rw[dG,agC];show(cW (.agg #[.pointer (some ⟨3,56,none⟩),.pointer (some b),.int .u64 130])>>=_:Sem au).run _ _=_;simp only[dG,agC,ahV,bH];simp[gh,loadVar,isAgg,underlying,underlying56,j,bH,agF,storeVar,Value.cells,storeCells,Addr.add];rw[run_store pg W a _ _ (by rfl)];simp[f,i]
theorem ah0 (h:au) (w:ae):(gp 455 190 (.agg #[h]) "AssignableTo").run pg w= .ok (251,.agg #[h]) w:=κ
theorem aeW (c:Int) (t q:Addr) (a:au) (w:ae) (u:w.cell? q=some (.pointer (some t))) (j:w.cell? t=some a) (z:w.frozen? t=false):
  Calls pg 59 #[.iface 56 (.int .i64 c),.iface 86 (.pointer (some t)),.agg #[.pointer (some ⟨3,86,none⟩),.pointer (some q),.int .u64 150],.iface 190 (.agg #[.pointer (some ⟨3,56,none⟩)])] w λe w'=>e= .returned (.bool true)/\w'=((w.alloc (.cells #[.pointer (some ⟨3,86,none⟩),.pointer (some q),.int .u64 150] 133)).alloc (.cells #[.int .i64 c] 56)).setCell t (.int .i64 c):=by
 have U:=@run_callFunc_extern pg 91 _ eT func91 κ κ κ κ;have Q:=@run_callFunc_extern pg 251 _ (dN "AssignableTo" fW) func251 κ κ κ κ
 have O:=@run_callFunc_extern pg 92 _ (dR (cR "reflectlite.Value.Elem" 0) eZ) func92 κ κ κ κ
 have N:=@run_callFunc_extern pg 93 _ gO func93 κ κ κ κ;have M:=@run_callFunc_extern pg 56 _ (λargs=>dQ (args.getD 0 (.tuple #[]))) func56 κ κ κ κ;have I:=agA;have K:=ah0;have X:=agG;have H:=ahU;have f:=cK w t j;have i:=cK w q u;have W:=agE q t (w.alloc (.cells #[.pointer (some ⟨3,86,none⟩),.pointer (some q),.int .u64 150] 133)) (by rw[ge _ _ q i];exact u);have J:=agB t ⟨w.heap.size+1,0,none⟩ c a ((w.alloc (.cells #[.pointer (some ⟨3,86,none⟩),.pointer (some q),.int .u64 150] 133)).alloc (.cells #[.int .i64 c] 56))
  (by rw[World.cell?_alloc_at _ _ _ _ ι];rfl)
  (by rw[ge _ _ t (by simp;omega),ge _ _ t f];exact j)
  (by rw[iO _ _ t (by simp;omega),iO _ _ t (Nat.ne_of_lt f)];exact z)
 go_enter func59,ntmps59;go_wp2;refine wp_loop_rounds 1 ?_;rw[rounds_succ];go_wp2;go_ret;exact⟨rfl,rfl⟩
theorem ahX (h:au) (w:ae):(gp 455 190 (.agg #[h]) "Kind").run pg w= .ok (234,h) w:=κ
theorem ahZ (h:au) (w:ae):(gp 455 190 (.agg #[h]) "Elem").run pg w= .ok (253,.agg #[h]) w:=κ
theorem ahY (h:au) (w:ae):(gp 455 190 (.agg #[h]) "Implements").run pg w= .ok (254,.agg #[h]) w:=κ
theorem afd (c:Int) (t:Addr) (i:au) (w:ae) (H:w.cell? ⟨0,0,none⟩=some (.iface 190 (.agg #[.pointer (some ⟨3,27,none⟩)]))) (q:w.cell? t=some i) (M:w.frozen? t=false):
  Calls pg 29 #[.iface 56 (.int .i64 c),.iface 86 (.pointer (some t))] w λe w'=>e= .returned (.bool true)/\∃u,Ext w u/\w'=u.setCell t (.int .i64 c):=by
 have h1:=@run_callFunc_extern pg 56 _ (λargs=>dQ (args.getD 0 (.tuple #[]))) func56 κ κ κ κ;have Z:=@run_callFunc_extern pg 57 _ (fZ (cR "reflectlite.Value.Type" 0) (λt _ _ _=>gH t)) func57 κ κ κ κ
 have Y:=@run_callFunc_extern pg 58 _ (dR (cR "reflectlite.Value.IsNil" 0) eO) func58 κ κ κ κ
 have X:=@run_callFunc_extern pg 234 _ (eF λt=>do pure (.int .u8 (←Rtype.kind t))) func234 κ κ κ κ;have W:=@run_callFunc_extern pg 253 _ (dU gZ) func253 κ κ κ κ;have U:=@run_callFunc_extern pg 254 _ (dN "Implements" gc) func254 κ κ κ κ
 have f1:=asV;have f2:=asT;have f3:=ahX;have f4:=ahZ;have f5:=ahY;have f6:=asK;have f7:=ah1;have f8:=aeY;have f9:=aeX;have I:=cK w t q;have J:=cK w _ H;obtain⟨f,a⟩:∃f,(w.alloc (.cells #[.pointer (some t)] 86)).alloc (.cells #[.pointer (some ⟨3,86,none⟩),.pointer (some ⟨w.heap.size,0,none⟩),.int .u64 150] 133)=f:=⟨_,rfl⟩;have j:Ext w f:=by rw[<-a];exact((Ext.refl w).alloc _).alloc _
 have z:f.cell? ⟨w.heap.size,0,none⟩=some (.pointer (some t)):=by rw[<-a];simp[go_sem]
 have k0:f.cell? ⟨w.heap.size+1,0,none⟩=some (.pointer (some ⟨3,86,none⟩)):=by rw[<-a];simp[go_sem]
 have Q:f.cell? ⟨w.heap.size+1,1,none⟩=some (.pointer (some ⟨w.heap.size,0,none⟩)):=by rw[<-a];simp[go_sem]
 have O:f.cell? ⟨w.heap.size+1,2,none⟩=some (.int .u64 150):=by rw[<-a];simp[go_sem]
 have hn:=agD ⟨w.heap.size,0,none⟩ t f z;have K:=j.keep H;have N:=ac (aeW c t ⟨w.heap.size,0,none⟩ i f z (j.keep q) (j.thaw q M));go_enter func29,ntmps29
 go_wp2_with fail
 refine N.out.mono ?_;rintro e w' ⟨rfl,rfl⟩;go_wp2;go_ret;refine⟨rfl,_,?_,rfl⟩;exact(j.alloc _).alloc _
end
section
open Go.ChangeShapes Go.WideShapes Go.ChangeAt Go.RowKit Go.Sort
attribute [local go_sem] World.cell?_alloc_some
def wJ (w:ae):Prop:=w.cell? ⟨0,0,none⟩=some (.iface 190 (.agg #[.pointer (some ⟨3,27,none⟩)]))
theorem wJ.ext {w w':ae} (h:wJ w) (x:Ext w w'):wJ w':=x.keep h
def agS (w:ae) (s:ByteArray) (c:Int) (v:au):Prop:=∃q,v= .iface 87 (.pointer (some ⟨q,0,none⟩))/\w.heap[q]? =some (.cells #[.string s,.int .i64 c] 89 (0,0))
theorem Wx (s:ByteArray) (c:Int) (w:ae) (u:wJ w):
  Calls pg 16 #[.string s,.iface 56 (.int .i64 c)] w λe w'=>∃v,e= .returned v/\agS w' s c v/\Ext w w':=by
 have x1:Ext w (w.alloc (.cells #[.int .i64 0] 56)):=(Ext.refl w).alloc _;have z:=ac (afd c ⟨w.heap.size,0,none⟩ (.int .i64 0) (w.alloc (.cells #[.int .i64 0] 56)) (x1.keep u) σ σ);go_enter func16,ntmps16
 go_wp2_with fail
 refine z.out.mono ?_;rintro e w' ⟨rfl,a,x2,rfl⟩;have j:a.heap[w.heap.size]? =some (.cells #[.int .i64 0] 56 (0,0)):=by
  have r:=heap_alloc_new w (.cells #[.int .i64 0] 56);exact(av x2 _ (Array.getElem?_eq_some_iff.1 r).1).trans r
 have i:(a.setCell ⟨w.heap.size,0,none⟩ (.int .i64 c)).heap[w.heap.size]? =some (.cells #[.int .i64 c] 56 (0,0)):=heap_setCell_same a w.heap.size 0 _ _ _ j;have c1:=cell_of_row _ w.heap.size 0 _ _ _ i;have x3:Ext w (a.setCell ⟨w.heap.size,0,none⟩ (.int .i64 c)):=(x1.trans x2).setCell (p:=⟨w.heap.size,0,none⟩) (am _) _;generalize a.setCell ⟨w.heap.size,0,none⟩ (.int .i64 c)=W at*;clear j i x1 x2 z u;generalize w.heap.size=q at*;replace c1:W.cell? ⟨q,0,none⟩=some (.int .i64 c):=c1;have f:=ac (heap_alloc_new W (.cells #[.string s,.int .i64 c] 89));go_wp2;go_ret;exact⟨_,rfl,⟨_,rfl,f.out⟩,x3.alloc _⟩
end
section
open Go.Lib
section
structure DS where
 cl:Int
 lim:Int
 L:List It
 V:List (Int×Int)
 Wt:List It
 D:List (Int×Int×Int)
 ver:Nat
 closed:Bool
def gdL (D:List (Int×Int×Int)) (L:List It):List I2:=(L.map iid).filter λa=>jJ D a.1 a.2
variable {D:List (Int×Int×Int)} {L:List It} {S:DS} {b:List UInt8} {ds:List Sp} {rs:List Rn}
theorem Rt {a:I2}:a∈gdL D L↔jw L a=true/\jJ D a.1 a.2=true:=by
 unfold gdL;rw[dY,List.mem_map,jO]
theorem MK {a:I2} (h:jw L a=true):mW (gdL D L) a=jJ D a.1 a.2:=by
 rw[dC,pY,Rt];exact⟨λg=>g.2,λg=>⟨h,g⟩⟩
theorem Ph (G H:List I2) (a:I2):mW (G++H) a=(mW G a||mW H a):=by unfold mW;rw[List.any_append]
def Marks (D:List (Int×Int×Int)) (L:List It) (G:List I2):Prop:=∀a,jw L a=true->mW G a=jJ D a.1 a.2
def DS.E (S:DS):List En:=kr S.L (gdL S.D S.L)
theorem Wz {G:List I2} (e:jy L=true) (h:Marks D L G):kr L G=kr L (gdL D L):=
 PD e e (λ_=>Iff.rfl) λa f=>by rw[h a f,MK f]
def CB:List It->List It->Bool
 |_,[]=>true
 |L,x::M=>M4 L x&&CB (L++[x]) M
theorem WU {x:It} (h:M4 L x=true) (a:jy L=true):jy (L++[x])=true:=by
 rw[Uf,aC] at h;rw[jZ,a,h.1];rfl
theorem AY:∀{M L:List It},CB L M=true->jy L=true->jy (L++M)=true
 |[],L,_,h=>by rw[bB];exact h
 |x::M,L,h,hk=>by
  rw[CB,aC] at h;have:=AY h.2 (WU h.1 hk);rwa[aK] at this
structure DOK (S:DS):Prop where
 c0:0<S.cl
 c1:S.cl<=4294967295
 l0:0<=S.lim
 l1:S.lim<=4294967294
 kn:jy S.L=true
 wfL:∀x∈S.L,wfI x/\okB x.ch=true
 yB:jB 0 S.V=true
 wfV:wfC S.V
 cnt:∀c k,jw S.L (c,k)=true↔0<=k/\k<jq S.V c
 rise:oV S.Wt
 wfW:∀x∈S.Wt,wfI x/\okW x/\okB x.ch=true/\x.c≠S.cl/\jq S.V x.c<=x.k
 Aj:jE zS S.D=true
 wfD:wfS S.D
 own:jq S.V S.cl<=S.lim+1
theorem Lx:∀{l:List (Int×Int)} (c:Int),wfC l->0<=jq l c/\jq l c<=4294967295
 |[],c,_=>by simp[jq]
 |p::l,c,h=>by
  have e:=h p ι;have:=Lx (l:=l) c λq a=>h q (aF _ a)
  simp only[jq]
  split <;> omega
theorem O8 (L M:List It) (a:I2):jw (L++M) a=(jw L a||jw M a):=by unfold jw;rw[List.any_append]
def nxt (S:DS):Int:=jq S.V S.cl
def zD (S:DS) (p:Int) (t:List UInt8):Int:=if S.closed then 6 else if validD t=false then 1 else if p<0\/((jC S.E).length:Int)<p then 3 else if S.lim+1<nxt S+(jK t).length then 4 else 0
def yE (S:DS) (p:Int) (t:List UInt8):List It:=jT S.cl (nxt S) (tN S.E p.toNat).1.1 (tN S.E p.toNat).1.2 (tN S.E p.toNat).2.1 (tN S.E p.toNat).2.2 (jK t)
def yD (S:DS) (p:Int) (t:List UInt8):DS:=if zD S p t=0/\t≠[] then{ S with L:=S.L++yE S p t,V:=setOf S.V S.cl (nxt S+(jK t).length),ver:=S.ver+1 } else S
def ahN (S:DS) (p m:Int):Int:=if S.closed then 6 else if p<0\/m<0\/((jC S.E).length:Int)<p\/((jC S.E).length:Int)-p<m then 3 else 0
def spA (a:I2):Int×Int×Int:=(a.1,a.2,a.2+1)
def agp (S:DS) (p m:Int):DS:=if ahN S p m=0/\m≠0 then{ S with D:=kW (S.D++(ag9 S.E p.toNat m.toNat).map spA),ver:=S.ver+1 } else S
def hasK (S:DS) (x:It):Bool:=jw S.L (iid x)||jw S.Wt (iid x)
def Ni (S:DS) (x:It):It:=if jw S.L (iid x) then uV S.L (iid x) else uV S.Wt (iid x)
def eqI (x y:It):Bool:=decide (iid x=iid y)&&(decide (ilf x=ilf y)&&(decide (irt x=irt y)&&decide (x.ch=y.ch)))
theorem Fv {x y:It}:eqI x y=true↔x=y:=by
 cases x;cases y;simp[eqI,iid,ilf,irt];omega
def uY (S:DS) (x:It):Bool:=if hasK S x then !eqI (Ni S x) x else decide (x.c=S.cl)
def lq (S:DS) (l:List It):List It:=l.filter λx=> !hasK S x
def qE (S:DS) (b:List UInt8):Int:=if S.closed then 6 else match kT b with
 |none=>2
 |some (rs,ds)=>if(jr rs).any (uY S) then 2 else if 1000<(lJ S.V (S.Wt++lq S (jr rs))).2.1.length then 5 else 0
def mG (S:DS) (b:List UInt8):DS:=if qE S b=0 then match kT b with
 |none=>S
 |some (rs,ds)=>let t:=lJ S.V (S.Wt++lq S (jr rs));{ S with L:=S.L++t.1,V:=t.2.2,Wt:=t.2.1,D:=kW (S.D++ds),ver:=if lq S (jr rs)≠[]\/t.1≠[]\/kW (S.D++ds)≠S.D then S.ver+1 else S.ver } else S
theorem ZF {c rc rk:Int} (f:c≠0):∀(a:List Nat) (L:List It) (k lc lk:Int),(∀n∈a,okB (n:Int)=true)->(lc=0\/jw L (lc,lk)=true)->(rc=0\/jw L (rc,rk)=true)->(∀j,k<=j->jw L (c,j)=false)->CB L (jT c k lc lk rc rk a)=true
 |[],L,k,lc,lk,_,_,_,_=>rfl
 |n::a,L,k,lc,lk,hn,hl,hr,hf=>by
  rw[nG,CB,aC];refine⟨?_,ZF f a _ (k+1) c k (λm hm=>hn m (aF _ hm)) (.inr ?_) (hr.imp id λh=>?_) λj i=>?_⟩
  ·unfold M4
   simp only[aC,cE,decide_eq_true_eq,eB,dV,decide_eq_false_iff_not];exact⟨⟨⟨⟨f,hf k (fy _)⟩,hl⟩,hr⟩,hn n ι⟩
  ·rw[lD];simp[iid]
  ·rw[lD,h];rfl
  ·rw[lD,hf j ω]
   rw[dv,decide_eq_false_iff_not];intro e;have:=congrArg Prod.snd e;simp only[iid] at this;omega
theorem ZE {c rc rk:Int}:∀(a:List Nat) (k lc lk d j:Int),jw (jT c k lc lk rc rk a) (d,j)=decide (d=c/\k<=j/\j<k+a.length)
 |[],k,lc,lk,d,j=>by
  unfold jT;simp[jw]
  try omega
 |n::a,k,lc,lk,d,j=>by
  rw[nG];have:jw (⟨c,k,lc,lk,rc,rk,(n:Int)⟩::jT c (k+1) c k rc rk a) (d,j)=(decide (iid ⟨c,k,lc,lk,rc,rk,(n:Int)⟩=(d,j))||jw (jT c (k+1) c k rc rk a) (d,j)):=by unfold jw;rw[List.any_cons]
  rw[this,ZE a (k+1) c k d j,dC];simp only[iid,cE,decide_eq_true_eq,bg,ar];omega
theorem FX (t:List UInt8) (n:Nat) (h:n∈jK t):okB (n:Int)=true:=by
 have:=Jo t.length t (am _) n h;unfold okB;rw[decide_eq_true_eq];exact this
theorem LX (a:jy L=true) (G:List I2) (i:Nat):(rH (kr L G) i).1=0\/jw L (rH (kr L G) i)=true:=by
 cases h:(kr L G)[i]? with
 |none=>unfold rH;rw[h];exact .inl rfl
 |some x=>
  rw[DL h,<-wW a G];exact .inr (MF.2 ⟨x,aD h,by simp[mJ]⟩)
theorem aeN (a:jy L=true) (G:List I2) (k:Nat):((tN (kr L G) k).1.1=0\/jw L (tN (kr L G) k).1=true)/\((tN (kr L G) k).2.1=0\/jw L (tN (kr L G) k).2=true):=by
 cases k with
 |zero=>exact⟨.inl rfl,LX a G 0⟩
 |succ k=>exact⟨LX a G _,LX a G _⟩
theorem afA (f:∀x∈L,wfI x/\okB x.ch=true) (a:I2) (h:jw L a=true):0<=a.1/\a.1<=4294967295/\0<=a.2/\a.2<=4294967295:=by
 obtain⟨x,e,rfl⟩:=jO.1 h;have:=(f x e).1;unfold wfI at this;unfold iid;omega
theorem LW (e:jy L=true) (a:∀x∈L,wfI x/\okB x.ch=true) (G:List I2) (i:Nat):0<=(rH (kr L G) i).1/\(rH (kr L G) i).1<=4294967295/\0<=(rH (kr L G) i).2/\(rH (kr L G) i).2<=4294967295:=by
 cases h:(kr L G)[i]? with
 |none=>unfold rH;rw[h];decide
 |some x=>
  refine afA a _ ?_;rw[DL h,<-wW e G];exact MF.2 ⟨x,aD h,by simp[mJ]⟩
theorem aay (e:jy L=true) (a:∀x∈L,wfI x/\okB x.ch=true) (G:List I2) (k:Nat):(0<=(tN (kr L G) k).1.1/\(tN (kr L G) k).1.1<=4294967295/\0<=(tN (kr L G) k).1.2/\(tN (kr L G) k).1.2<=4294967295)/\0<=(tN (kr L G) k).2.1/\(tN (kr L G) k).2.1<=4294967295/\0<=(tN (kr L G) k).2.2/\(tN (kr L G) k).2.2<=4294967295:=by
 cases k with
 |zero=>exact⟨by show(0:Int)<=0/\(0:Int)<=4294967295/\(0:Int)<=0/\(0:Int)<=4294967295;decide,LW e a G 0⟩
 |succ k=>exact⟨LW e a G _,LW e a G _⟩
theorem go_wf {c rc rk:Int} (i:0<=c/\c<=4294967295) (j:0<=rc/\rc<=4294967295/\0<=rk/\rk<=4294967295):∀(e:List Nat) (k lc lk:Int),0<=k->k+e.length<=4294967295->(0<=lc/\lc<=4294967295/\0<=lk/\lk<=4294967295)->(∀n∈e,okB (n:Int)=true)->∀x∈jT c k lc lk rc rk e,wfI x/\okB x.ch=true
 |[],k,lc,lk,_,_,_,_=>λx a=>by simp[jT] at a
 |n::e,k,lc,lk,h0,h1,hl,hn=>λx a=>by
  rw[ar] at h1;rw[nG] at a;rcases aE.1 a with rfl|a
  ·have f:=hn n ι
   refine⟨?_,f⟩;have:=of_decide_eq_true f;unfold wfI;simp only;omega
  ·exact go_wf i j e (k+1) c k ω ω ⟨i.1,i.2,h0,ω⟩ (λm hm=>hn m (aF _ hm)) x a
theorem QE (h:DOK S):0<=nxt S/\nxt S<=S.lim+1:=⟨(Lx _ h.wfV).1,h.own⟩
theorem OL {p:Int} {t:List UInt8} (h:zD S p t=0):S.closed=false/\validD t=true/\0<=p/\p<=((jC S.E).length:Int)/\nxt S+(jK t).length<=S.lim+1:=by
 unfold zD at h
 split at h
 ·cases h
 ·split at h
  ·cases h
  ·split at h
   ·cases h
   ·split at h
    ·cases h
    ·rename_i e a i f
     refine⟨by simpa using e,by simpa using a,ω,ω,ω⟩
theorem Tq (h:DOK S) {p:Int} {t:List UInt8} (u:zD S p t=0):CB S.L (yE S p t)=true/\∀x∈yE S p t,wfI x/\okB x.ch=true:=by
 obtain⟨_,hv,J,I,H⟩:=OL u;have e:=aeN h.kn (gdL S.D S.L) p.toNat;have a:=aay h.kn h.wfL (gdL S.D S.L) p.toNat;have f:=QE h;have z:=h.l1;refine⟨ZF (by have:=h.c0;omega) _ _ _ _ _ (λn hn=>FX t n hn) e.1 e.2 λj q=>?_,go_wf ⟨by have:=h.c0;omega,h.c1⟩ a.2 _ _ _ _ f.1 ω a.1 λn hn=>FX t n hn⟩;cases i:jw S.L (S.cl,j) with
 |false=>rfl
 |true=>
  have:=(h.cnt S.cl j).1 i;unfold nxt at q;omega
theorem ad3 (h:DOK S) (p:Int) (t:List UInt8):DOK (yD S p t):=by
 unfold yD
 split
 ·rename_i f
  obtain⟨f,j⟩:=f;obtain⟨_,hv,O,N,q⟩:=OL f;obtain⟨z,u⟩:=Tq h f;have a:=QE h;have M:=h.l1;have hn:∀d,jq (setOf S.V S.cl (nxt S+(jK t).length)) d=if d=S.cl then nxt S+(jK t).length else jq S.V d:=λd=>oG _ _ d h.yB
  refine⟨h.c0,h.c1,h.l0,h.l1,AY z h.kn,λx a=>?_,KX h.yB h.c0 ω,KU h.wfV (by have:=h.c0;omega) h.c1 ω ω,λc k=>?_,h.rise,λx a=>?_,h.Aj,h.wfD,?_⟩
  ·rcases aA.1 a with a|a
   ·exact h.wfL x a
   ·exact u x a
  ·show jw (S.L++yE S p t) (c,k)=true↔0<=k/\k<jq (setOf S.V S.cl (nxt S+(jK t).length)) c
   rw[O8,cE,h.cnt,hn];unfold yE;rw[ZE,decide_eq_true_eq];by_cases e:c=S.cl
   ·subst e
    rw[if_pos rfl];unfold nxt at a⊢;omega
   ·rw[if_neg e]
    omega
  ·obtain⟨K,J,I,i,H⟩:=h.wfW x a
   refine⟨K,J,I,i,?_⟩;show jq (setOf S.V S.cl (nxt S+(jK t).length)) x.c<=x.k;rw[hn,if_neg i];exact H
  ·show jq (setOf S.V S.cl (nxt S+(jK t).length)) S.cl<=S.lim+1
   rw[hn,if_pos rfl];exact q
 ·exact h
theorem F8 {l:List It} (h:oV l):oL l:=List.Pairwise.imp (λ{a b} g e=>by rw[e] at g;exact BL _ g) h
theorem NY:∀{l:List It},Le l=true->oV l
 |[],_=> .nil
 |[x],_=>List.pairwise_singleton _ _
 |x::y::l,h=>by
  rw[E8,aC] at h;have ih:=NY h.2;have e:ltI (iid x) (iid y)=true:=by
   rw[qZ];exact of_decide_eq_true h.1
  refine bd.2 ⟨λz a=>?_,ih⟩;rcases aE.1 a with rfl|a
  ·exact e
  ·exact qP e ((bd.1 ih).1 z a)
theorem SH:∀{M:List It} {v u:List (Int×Int)} {L:List It},wH v M u->jB 0 v=true->(∀c k,jw L (c,k)=true↔0<=k/\k<jq v c)->(∀x∈M,wfI x/\okW x/\okB x.ch=true)->CB L M=true/\∀c k,jw (L++M) (c,k)=true↔0<=k/\k<jq u c
 |[],v,u,L,h,hv,hc,hw=>by
  cases h;rw[bB];exact⟨rfl,hc⟩
 |x::M,v,u,L,h,hv,hc,hw=>by
  obtain⟨f,a,w3⟩:=hw x ι;cases h with
  |cons K J=>
   obtain⟨N,j,i⟩:=uH.1 K;have ih:=SH (L:=L++[x]) J (Bv hv a) (λc k=>by
        rw[lD,cE,hc,oG x.c (x.k+1) c hv,decide_eq_true_eq];unfold iid;rw[bg];have:=a.2.2.1;by_cases e:c=x.c
        ·subst e
         rw[if_pos rfl];omega
        ·rw[if_neg e]
         constructor
         ·rintro(g|g)
          ·exact g
          ·exact absurd g.1.symm e
         ·exact .inl) λy q=>hw y (aF _ q)
   rw[aK] at ih;refine⟨?_,ih.2⟩;rw[CB,ih.1,Bool.and_true];unfold M4;have I:x.lc=0\/jw L (x.lc,x.lk)=true:=j.imp id λg=>(hc _ _).2 ⟨by unfold wfI at f;omega,g⟩
   have z:x.rc=0\/jw L (x.rc,x.rk)=true:=i.imp id λg=>(hc _ _).2 ⟨by unfold wfI at f;omega,g⟩
   have hn:jw L (x.c,x.k)=false:=by
        cases H:jw L (x.c,x.k) with
        |false=>rfl
        |true=>have:=(hc _ _).1 H;omega
   have O:=a.1;simp only[aC,cE,decide_eq_true_eq,eB,dV,decide_eq_false_iff_not];exact⟨⟨⟨⟨ω,hn⟩,I⟩,z⟩,w3⟩
structure BOK (rs:List Rn) (ds:List Sp):Prop where
 may:∀r∈rs,mZ r=true
 rise:oV (jr rs)
 wf:∀x∈jr rs,wfI x/\okW x/\okB x.ch=true
 Aj:jE zS ds=true
 wfD:wfS ds
theorem abD {r:Rn} (h:mZ r=true) (i:wfR r):∀x∈mF r,wfI x/\okW x/\okB x.ch=true:=by
 have hm:=of_decide_eq_true h;unfold wfR at i;have ok:∀(f:List Nat) (k lc lk:Int),0<=k->k+f.length<=4294967295->∀x∈jT r.c k lc lk r.rc r.rk f,okW x:=by
  intro f
  induction f with
  |nil=>intro k lc lk _ _ x e;simp[jT] at e
  |cons n f ih=>
   intro k lc lk q j x e;rw[ar] at j;rw[nG] at e;rcases aE.1 e with rfl|e
   ·have:=hm.2.2.1
    unfold okW;simp only;omega
   ·exact ih (k+1) r.c k ω ω x e
 intro x e;unfold mF at e;have a:=go_wf (c:=r.c) (rc:=r.rc) (rk:=r.rk) ⟨ω,ω⟩ ω (jK r.t) r.k r.lc r.lk ω ω ω (λn hn=>FX r.t n hn) x e;exact⟨a.1,ok _ _ _ _ ω ω x e,a.2⟩
theorem Iz (h:kT b=some (rs,ds)):BOK rs ds/\(jr rs).length<=b.length/\b.length<=20000:=by
 obtain⟨H,a,z,u,j⟩:=ED h;unfold wR at a;simp only[aC] at a;have hm:∀r∈rs,mZ r=true:=λr f=>List.all_eq_true.1 a.1.1.1 r f
 refine⟨⟨hm,NY a.1.1.2,λx e=>?_,a.2,λq i=>u q i⟩,?_,j⟩
 ·unfold jr at e
  obtain⟨r,f,e⟩:=List.mem_flatMap.1 e;exact abD (hm r f) (z r f).1 x e
 ·have:=Y8 rs ds
  rwa[H] at this
theorem yR (h:qE S b=0):S.closed=false/\∃rs ds,kT b=some (rs,ds)/\(jr rs).any (uY S)=false/\(lJ S.V (S.Wt++lq S (jr rs))).2.1.length<=1000:=by
 unfold qE at h
 split at h
 ·cases h
 ·rename_i f
  cases a:kT b with
  |none=>rw[a] at h;cases h
  |some q=>
   obtain⟨rs,ds⟩:=q;rw[a] at h;simp only at h
   split at h
   ·cases h
   ·split at h
    ·cases h
    ·rename_i e i
     exact⟨by simpa using f,rs,ds,rfl,by simpa using e,ω⟩
theorem Xy (h:DOK S) (z:BOK rs ds) (hn:(jr rs).any (uY S)=false):
  oL (S.Wt++lq S (jr rs))/\∀x∈S.Wt++lq S (jr rs),wfI x/\okW x/\okB x.ch=true/\x.c≠S.cl/\jq S.V x.c<=x.k:=by
 have u:∀x∈lq S (jr rs),x∈jr rs/\jw S.L (iid x)=false/\jw S.Wt (iid x)=false:=λx f=>by
  obtain⟨j,i⟩:=dY.1 f;rw[eB,hasK,dV] at i;exact⟨j,i⟩
 refine⟨co.2 ⟨F8 h.rise,F8 (List.Pairwise.sublist List.filter_sublist z.rise),λx f y I e=>?_⟩,λx f=>?_⟩
 ·have:=(u y I).2.2
  rw[<-e,jO.2 ⟨x,f,rfl⟩] at this;cases this
 ·rcases aA.1 f with f|f
  ·exact h.wfW x f
  ·obtain⟨j,i,K⟩:=u x f
   obtain⟨H,q,w3⟩:=z.wf x j;refine⟨H,q,w3,?_,?_⟩
   ·have a:uY S x=false:=by
     cases J:uY S x with
     |false=>rfl
     |true=>rw[List.any_eq_true.2 ⟨x,j,J⟩] at hn;cases hn
    unfold uY at a;rw[show hasK S x=false by unfold hasK;rw[i,K];rfl,if_neg ι] at a;exact of_decide_eq_false a
   ·have:=mt (h.cnt x.c x.k).2 (by rw[show jw S.L (x.c,x.k)=false from i];simp)
    have:=q.2.2.1;omega
structure agX (S:DS) (rs:List Rn) (ds:List Sp):Prop where
 bok:BOK rs ds
 apart:oL (S.Wt++lq S (jr rs))
 all:∀x∈S.Wt++lq S (jr rs),wfI x/\okW x/\okB x.ch=true/\x.c≠S.cl/\jq S.V x.c<=x.k
 tk:adn S.V (S.Wt++lq S (jr rs)) (lJ S.V (S.Wt++lq S (jr rs))).1 (lJ S.V (S.Wt++lq S (jr rs))).2.1 (lJ S.V (S.Wt++lq S (jr rs))).2.2
 can:CB S.L (lJ S.V (S.Wt++lq S (jr rs))).1=true
 cnt:∀c k,jw (S.L++(lJ S.V (S.Wt++lq S (jr rs))).1) (c,k)=true↔0<=k/\k<jq (lJ S.V (S.Wt++lq S (jr rs))).2.2 c
 wf:∀x∈(lJ S.V (S.Wt++lq S (jr rs))).1,wfI x/\okB x.ch=true
theorem D8 (h:DOK S) (u:kT b=some (rs,ds)) (hn:(jr rs).any (uY S)=false):agX S rs ds:=by
 obtain⟨i,_⟩:=Iz u;obtain⟨q,j⟩:=Xy h i hn;have t:=aaY (v:=S.V) q;have e:∀x∈(lJ S.V (S.Wt++lq S (jr rs))).1,wfI x/\okW x/\okB x.ch=true:=λx a=>by
  obtain⟨I,H,z,_⟩:=j x (t.perm.mem_iff.1 (aX _ a));exact⟨I,H,z⟩
 have f:=SH t.run h.yB h.cnt e;exact⟨i,q,j,t,f.1,f.2,λx a=>⟨(e x a).1,(e x a).2.2⟩⟩
theorem aaC (h:DOK S) (b:List UInt8):DOK (mG S b):=by
 unfold mG
 split
 ·rename_i M
  obtain⟨_,rs,ds,z,hn,Y⟩:=yR M;rw[z];have q:=D8 h z hn;have ok:∀x∈(lJ S.V (S.Wt++lq S (jr rs))).1,okW x:=λx a=>(q.all x (q.tk.perm.mem_iff.1 (aX _ a))).2.1
  obtain⟨I,H,_⟩:=za q.tk.run h.yB h.wfV ok;have u:∀x∈(lJ S.V (S.Wt++lq S (jr rs))).1,x∈S.Wt++lq S (jr rs):=λx a=>q.tk.perm.mem_iff.1 (aX _ a)
  refine⟨h.c0,h.c1,h.l0,h.l1,AY q.can h.kn,λx a=>?_,I,H,q.cnt,q.tk.rise,λx a=>?_,vJ _,Yg ?_,?_⟩
  ·rcases aA.1 a with a|a
   ·exact h.wfL x a
   ·exact q.wf x a
  ·have f:=q.tk.perm.mem_iff.1 (List.mem_append_right (lJ S.V (S.Wt++lq S (jr rs))).1 a)
   obtain⟨W,U,Q,O,Z⟩:=q.all x f;refine⟨W,U,Q,O,Xx (wait:=[]) q.apart h.yB (λy e=>(q.all y e).2.1) (λy e=>(q.all y e).2.2.2.2) q.tk.run u x f λj=>?_⟩;have nd:=qR q.tk.perm.symm q.apart;exact(co.1 nd).2.2 x j x a rfl
  ·intro p i
   rcases aA.1 i with i|i
   ·exact h.wfD p i
   ·exact q.bok.wfD p i
  ·obtain⟨X,J⟩:=sV q.tk.run h.yB ok
   show jq (lJ S.V (S.Wt++lq S (jr rs))).2.2 S.cl<=S.lim+1;apply Int.not_lt.1;intro K;have:=h.own;obtain⟨y,e,N,_⟩:=(J S.cl (jq S.V S.cl)).1 ⟨fy _,ω⟩;exact(q.all y (u y e)).2.2.2.1 N
 ·exact h
structure CO (S:DS) (n m:Nat):Prop where
 lw:S.L.length+S.Wt.length<=n
 v:S.V.length<=S.L.length
 d:S.D.length<=m
theorem abF {n m:Nat} (h:CO S n m) (p:Int) (t:List UInt8) (e:t.length<=60):CO (yD S p t) (n+600) (m+n):=by
 unfold yD;have H:=h.lw;have i:=h.v;have z:=h.d
 split
 ·rename_i f
  have u:(yE S p t).length<=60:=by unfold yE;rw[pX];exact az (qL t) e
  have q:0<(yE S p t).length:=by
   unfold yE;rw[pX];cases e:t with
   |nil=>exact absurd e f.2
   |cons a r=>rw[oH _ ι];simp
  have j:=KY S.V S.cl (nxt S+(jK t).length);refine⟨?_,?_,?_⟩
  ·show(S.L++yE S p t).length+S.Wt.length<=n+600
   rw[ag];omega
  ·show(setOf S.V S.cl (nxt S+(jK t).length)).length<=(S.L++yE S p t).length
   rw[ag];omega
  ·show S.D.length<=m+n
   omega
 ·exact⟨ω,i,ω⟩
theorem acE (e:DOK S) {n m:Nat} (h:CO S n m) (b:List UInt8) (M:b.length<=600) (u:∀rs ds,kT b=some (rs,ds)->ds.length<=600):CO (mG S b) (n+600) (m+n+600):=by
 unfold mG;have O:=h.lw;have H:=h.v;have N:=h.d
 split
 ·rename_i z
  obtain⟨_,rs,ds,a,hn,J⟩:=yR z;rw[a];have q:=D8 e a hn;have hi:=(Iz a).2.1;have j:=u rs ds a;have ok:∀x∈(lJ S.V (S.Wt++lq S (jr rs))).1,okW x:=λx f=>(q.all x (q.tk.perm.mem_iff.1 (aX _ f))).2.1
  obtain⟨_,_,I⟩:=za q.tk.run e.yB e.wfV ok;have i:=q.tk.perm.length_eq;have K:(lq S (jr rs)).length<=(jr rs).length:=List.length_filter_le _ _;rw[ag,ag] at i;refine⟨?_,?_,?_⟩
  ·show(S.L++(lJ S.V (S.Wt++lq S (jr rs))).1).length+(lJ S.V (S.Wt++lq S (jr rs))).2.1.length<=n+600
   rw[ag];omega
  ·show(lJ S.V (S.Wt++lq S (jr rs))).2.2.length<=(S.L++(lJ S.V (S.Wt++lq S (jr rs))).1).length
   rw[ag];omega
  ·show(kW (S.D++ds)).length<=m+n+600
   refine az (Dc _) ?_;rw[ag];omega
 ·exact⟨ω,H,ω⟩
end
section
def oN (a b:Int×Int×Int):Bool:=decide (a.1<b.1\/a.1=b.1/\a.2.2<=b.2.1)
variable {a b:List (Int×Int×Int)}
theorem Ea {a b:Int×Int×Int}:oN a b=true↔(a.1<b.1\/a.1=b.1/\a.2.2<=b.2.1):=by simp[oN]
theorem nM {a b:Int×Int×Int}:oN a b=false↔¬(a.1<b.1\/a.1=b.1/\a.2.2<=b.2.1):=by rw[<-Ea];simp
def AO (s:Int×Int×Int):List (Int×Int×Int):=if s.2.1<s.2.2 then [s] else []
def tJ (s:Int×Int×Int):List (Int×Int×Int)->List (Int×Int×Int)
 |[]=>AO s
 |o::r=>if oN s o then AO s else(if s.2.1<o.2.1 then [(s.1,s.2.1,o.2.1)] else [])++tJ (s.1,o.2.2,s.2.2) r
def ru (s:Int×Int×Int):List (Int×Int×Int)->List (Int×Int×Int)
 |[]=>[]
 |o::r=>if oN o s then ru s r else o::r
def xJ:List (Int×Int×Int)->List (Int×Int×Int)->List (Int×Int×Int)
 |[],_=>[]
 |s::a,b=>tJ s (ru s b)++xJ a (ru s b)
theorem SF:∀{r:List (Int×Int×Int)} {s z:Int×Int×Int},jE s r=true->z.1=s.1->z.2.2<=s.2.2->jE z r=true
 |[],s,z,h,h1,h2=>rfl
 |p::r,s,z,h,h1,h2=>by
  rw[jM] at h⊢;refine⟨?_,h.2⟩;have:=h.1;omega
theorem MS:∀{set rest:List (Int×Int×Int)} {x y s:Int×Int×Int},jE y set=true->(∀o∈set,oN o s=false)->0<s.1->(x.1<s.1\/x.1=s.1/\x.2.2<s.2.1)->jE s rest=true->jE x rest=true->jE x (tJ s set++rest)=true
 |[],rest,x,y,s,hm,hn,hc,hx,hr,hxr=>by
  unfold tJ AO
  split
  ·rw[fX,jM]
   exact⟨hx,hc,by assumption,hr⟩
  ·exact hxr
 |o::set,rest,x,y,s,hm,hn,hc,hx,hr,hxr=>by
  rw[jM] at hm;have u:=nM.1 (hn o ι);unfold tJ
  split
  ·unfold AO
   split
   ·rw[fX,jM]
    exact⟨hx,hc,by assumption,hr⟩
   ·exact hxr
  ·rename_i g
   have z:=nM.1 (by simpa using g);have e:∀q∈set,oN q (s.1,o.2.2,s.2.2)=false:=λq i=>by
        have:=uK hm.2.2.2 q i;rw[nM];simp only;omega
   have f:jE (s.1,o.2.2,s.2.2) rest=true:=SF hr rfl (fy _)
   split
   ·rename_i j
    rw[aK,fX,jM];refine⟨hx,hc,j,MS hm.2.2.2 e hc (.inr ⟨rfl,hm.2.2.1⟩) f (SF hr rfl ?_)⟩;simp only;omega
   ·rw[List.nil_append]
    refine MS hm.2.2.2 e hc ?_ f hxr;simp only;omega
theorem Bo:∀{b:List (Int×Int×Int)} {y s:Int×Int×Int},jE y b=true->s.2.1<s.2.2->∀o∈ru s b,oN o s=false
 |[],y,s,hm,hs,o,e=>by simp[ru] at e
 |p::b,y,s,hm,hs,o,e=>by
  rw[jM] at hm;unfold ru at e
  split at e
  ·exact Bo hm.2.2.2 hs o e
  ·rename_i g
   have f:=nM.1 (by simpa using g);rcases aE.1 e with rfl|e
   ·simpa using g
   ·have:=uK hm.2.2.2 o e
    rw[nM];omega
theorem xQ:∀{b:List (Int×Int×Int)} {y s:Int×Int×Int},jE y b=true->jE zS (ru s b)=true
 |[],y,s,hm=>rfl
 |p::b,y,s,hm=>by
  unfold ru
  split
  ·rw[jM] at hm
   exact xQ hm.2.2.2
  ·exact Vh hm
theorem FR:∀(b:List (Int×Int×Int)) (s:Int×Int×Int),(ru s b).Sublist b
 |[],s=> .slnil
 |p::b,s=>by
  unfold ru
  split
  ·exact(FR b s).cons p
  ·exact .refl _
theorem Bg:∀{a b:List (Int×Int×Int)} {x y:Int×Int×Int},jE x a=true->jE y b=true->jE x (xJ a b)=true
 |[],b,x,y,ha,hb=>rfl
 |s::a,b,x,y,ha,hb=>by
  rw[jM] at ha;obtain⟨j,q,i,f⟩:=ha;have e:=xQ (s:=s) hb;exact MS e (Bo hb i) q j (Bg f e) (Bg (JD f i j) e)
theorem TT (s:Int×Int×Int) (c k:Int):jJ (AO s) c k=inS s c k:=by
 unfold AO
 split
 ·simp[jJ]
 ·rw[jJ,dC,mI]
  simp;omega
theorem TW:∀{set:List (Int×Int×Int)} {y s:Int×Int×Int},jE y set=true->(∀o∈set,oN o s=false)->∀c k,jJ (tJ s set) c k=(inS s c k&& !jJ set c k)
 |[],y,s,hm,hn,c,k=>by
  unfold tJ;rw[TT];simp[jJ]
 |o::set,y,s,hm,hn,c,k=>by
  rw[jM] at hm;have J:=nM.1 (hn o ι);have f:(c<o.1\/c=o.1/\k<=o.2.2)->jJ set c k=false:=mY hm.2.2.2;unfold tJ
  split
  ·rename_i g
   have z:=Ea.1 g;rw[TT,dC,aC,mI,eB,jJ,dV,uM];constructor
   ·intro h
    exact⟨h,ω,f ω⟩
   ·exact λh=>h.1
  ·rename_i g
   have z:=nM.1 (by simpa using g);have e:∀q∈set,oN q (s.1,o.2.2,s.2.2)=false:=λq u=>by
        have:=uK hm.2.2.2 q u;rw[nM];simp only;omega
   rw[kP,TW hm.2.2.2 e c k,jJ];have H:jJ (if s.2.1<o.2.1 then [(s.1,s.2.1,o.2.1)] else []) c k=decide (s.1=c/\s.2.1<=k/\k<o.2.1):=by
        split
        ·rw[jJ,jJ,Bool.or_false,inS]
        ·rw[jJ,eq_comm,decide_eq_false_iff_not]
         omega
   rw[H,dC];simp only[cE,aC,eB,dV,decide_eq_true_eq,mI,uM];constructor
   ·rintro(h|⟨h,j⟩)
    ·exact⟨ω,ω,f ω⟩
    ·exact⟨ω,ω,j⟩
   ·rintro⟨h,j,i⟩
    by_cases I:k<o.2.1
    ·exact .inl ω
    ·exact .inr ⟨ω,i⟩
theorem ND:∀{b:List (Int×Int×Int)} {s:Int×Int×Int} {c k:Int},(s.1<c\/s.1=c/\s.2.1<=k)->jJ (ru s b) c k=jJ b c k
 |[],s,c,k,h=>rfl
 |p::b,s,c,k,h=>by
  unfold ru
  split
  ·rename_i g
   have e:=Ea.1 g;rw[ND h,jJ,show inS p c k=false by rw[uM];omega,dv]
  ·rfl
theorem KH:∀{a b:List (Int×Int×Int)} {x y:Int×Int×Int},jE x a=true->jE y b=true->∀c k,jJ (xJ a b) c k=(jJ a c k&& !jJ b c k)
 |[],b,x,y,ha,hb,c,k=>rfl
 |s::a,b,x,y,ha,hb,c,k=>by
  rw[jM] at ha;obtain⟨z,u,q,i⟩:=ha;have e:=xQ (s:=s) hb;have f:(c<s.1\/c=s.1/\k<=s.2.2)->jJ a c k=false:=mY i;rw[xJ,kP,TW e (Bo hb q),KH i e,jJ];by_cases j:s.1<c\/s.1=c/\s.2.1<=k
  ·rw[ND j,Bool.and_or_distrib_right]
  ·rw[f ω,show inS s c k=false by rw[uM];omega]
   rfl
theorem TY:∀{set:List (Int×Int×Int)} {y s:Int×Int×Int},jE y set=true->(∀o∈set,oN o s=false)->(tJ s set).length<=1+set.countP λo=>inS s o.1 o.2.1
 |[],y,s,hm,hn=>by
  unfold tJ AO
  split <;> simp
 |o::set,y,s,hm,hn=>by
  rw[jM] at hm;have j:=nM.1 (hn o ι);unfold tJ
  split
  ·unfold AO
   split
   ·rw[cy];omega
   ·rw[aG];omega
  ·rename_i g
   have z:=nM.1 (by simpa using g);have e:∀q∈set,oN q (s.1,o.2.2,s.2.2)=false:=λq f=>by
        have:=uK hm.2.2.2 q f;rw[nM];simp only;omega
   have ih:=TY hm.2.2.2 e;have i:set.countP (λq=>inS (s.1,o.2.2,s.2.2) q.1 q.2.1)<=set.countP λq=>inS s q.1 q.2.1:=List.countP_mono_left λq _ f=>by
        rw[mI] at f⊢;simp only at f;omega
   rw[ag,fL]
   split
   ·rename_i u
    rw[if_pos (by rw[mI];omega),cy];omega
   ·rw[aG]
    omega
theorem SA:∀{a b:List (Int×Int×Int)} {x y:Int×Int×Int},jE x a=true->jE y b=true->(xJ a b).length<=a.length+b.countP λo=>jJ a o.1 o.2.1
 |[],b,x,y,ha,hb=>by simp[xJ]
 |s::a,b,x,y,ha,hb=>by
  rw[jM] at ha;obtain⟨z,u,j,f⟩:=ha;have e:=xQ (s:=s) hb;have l1:=TY e (Bo hb j);have q:=SA f e;have key:∀l:List (Int×Int×Int),(l.countP λo=>inS s o.1 o.2.1)+(l.countP λo=>jJ a o.1 o.2.1)<=l.countP λo=>jJ (s::a) o.1 o.2.1:=by
   intro l
   induction l with
   |nil=>simp
   |cons o l ih=>
    rw[fL,fL,fL,jJ];cases i:inS s o.1 o.2.1 with
    |false=>simp only[dv,iy,if_false];omega
    |true=>
     rw[mI] at i;rw[mY f ω];simp only[Bool.true_or,iy,if_false,if_true];omega
  have:=key (ru s b);have sub:=(FR b s).countP_le (p:=λo=>jJ (s::a) o.1 o.2.1);rw[xJ,ag,ar];omega
theorem Ja {x y:Int×Int×Int} (f:jE x a=true) (e:jE y b=true):(xJ a b).length<=a.length+b.length:=by
 have:=SA f e;have:=List.countP_le_length (p:=λo:Int×Int×Int=>jJ a o.1 o.2.1) (l:=b);omega
theorem Nh (f:jE zS a=true) (e:jE zS b=true):kW (b++xJ a b)=kW (b++a):=by
 refine Bw (vJ _) (vJ _) λc k=>?_
 rw[sI,sI,fK,fK,kP,kP,nI (Bg f e),nI e,nI f,KH f e];cases jJ b c k <;> simp
theorem Xt (f:jE zS a=true) (e:jE zS b=true):xJ a b=[]↔kW (b++a)=b:=by
 constructor
 ·intro h
  rw[<-Nh f e,h,bB,Qr e]
 ·intro h
  refine Bw (Bg f e) (a:=zS) (b:=zS) rfl λc k=>?_
  rw[KH f e];have i:jJ (kW (b++a)) c k=jJ b c k:=by rw[h]
  rw[sI,fK,kP,nI e,nI f] at i;cases j:jJ b c k
  ·rw[j,dv] at i
   rw[i];rfl
  ·simp[jJ]
theorem aad:∀{set:List (Int×Int×Int)} {s:Int×Int×Int},wfS set->wfS [s]->wfS (tJ s set)
 |[],s,hw,hs=>by
  unfold tJ AO
  split
  ·exact hs
  ·intro p e;cases e
 |o::set,s,hw,hs=>by
  have i:=hw o ι;have j:=hs s ι;unfold tJ
  split
  ·unfold AO
   split
   ·exact hs
   ·intro p e;cases e
  ·intro p e
   rcases aA.1 e with e|e
   ·split at e
    ·rcases aN.1 e with rfl
     simp only;omega
    ·cases e
   ·refine aad (λq f=>hw q (aF _ f)) (λq f=>?_) p e
    rcases aN.1 f with rfl;simp only;omega
theorem Xr:∀{a b:List (Int×Int×Int)},wfS a->wfS b->wfS (xJ a b)
 |[],b,ha,hb=>λp e=>by cases e
 |s::a,b,ha,hb=>λp e=>by
  have i:wfS (ru s b):=λq f=>hb q ((FR b s).subset f)
  rcases aA.1 e with e|e
  ·exact aad i (λq f=>by rcases aN.1 f with rfl;exact ha _ ι) p e
  ·exact Xr (λq f=>ha q (aF _ f)) i p e
end
def uX (L:List It) (c:Int):Int->Nat->List It
 |_,0=>[]
 |k,n+1=>uV L (c,k)::uX L c (k+1) n
def sU (L:List It):List (Int×Int)->List (Int×Int)->List It
 |[],_=>[]
 |p::V,v=>uX L p.1 (jq v p.1) (p.2-jq v p.1).toNat++sU L V v
theorem Ao {L:List It} {a:I2} (h:jw L a=true):uV L a∈L/\iid (uV L a)=a:=by
 obtain⟨i,x,j,e,f⟩:=Cb h;rw[DI j e];exact⟨aD e,f⟩
theorem adY {L:List It} (e:jy L=true) {x:It} (a:x∈L):uV L (iid x)=x:=by
 obtain⟨i,f⟩:=Ao (jO.2 ⟨x,a,rfl⟩);exact G7 e i a f
theorem FB {L:List It} {c:Int}:∀{n:Nat} {k:Int} {x:It},(∀j,k<=j->j<k+n->jw L (c,j)=true)->x∈uX L c k n->x∈L/\x.c=c/\k<=x.k/\x.k<k+n
 |0,k,x,h,a=>by simp[uX] at a
 |n+1,k,x,h,a=>by
  rw[uX] at a;rcases aE.1 a with rfl|a
  ·obtain⟨f,e⟩:=Ao (h k (fy _) ω)
   have i:=congrArg Prod.fst e;have q:=congrArg Prod.snd e;simp only[iid] at i q;exact⟨f,i,ω,ω⟩
  ·have:=FB (λj f e=>h j ω ω) a
   exact⟨this.1,this.2.1,ω,ω⟩
theorem aah {L:List It} (a:jy L=true):∀{n:Nat} {k:Int} {x:It},x∈L->k<=x.k->x.k<k+n->x∈uX L x.c k n
 |0,k,x,hx,h1,h2=>by omega
 |n+1,k,x,hx,h1,h2=>by
  rw[uX];by_cases e:x.k=k
  ·refine aE.2 (.inl ?_)
   have:=adY a hx;unfold iid at this;rw[e] at this;exact this.symm
  ·exact aE.2 (.inr (aah a hx ω ω))
theorem PU {L:List It} {c:Int}:∀{n:Nat} {k:Int},(∀j,k<=j->j<k+n->jw L (c,j)=true)->oV (uX L c k n)
 |0,k,h=> .nil
 |n+1,k,h=>by
  rw[uX];have a:∀j,k+1<=j->j<k+1+n->jw L (c,j)=true:=λj u e=>h j ω ω
  refine bd.2 ⟨λy f=>?_,PU a⟩;obtain⟨_,e⟩:=Ao (h k (fy _) ω);obtain⟨_,q,i,_⟩:=FB a f;rw[e,qZ];unfold iid;simp only;omega
theorem KQ {L:List It} (H:jy L=true) (v:List (Int×Int)):∀{V:List (Int×Int)} {a:Int},jB a V=true->(∀c k,a<c->(jw L (c,k)=true↔0<=k/\k<jq V c))->(∀c,0<=jq v c)->∀x,x∈sU L V v↔x∈L/\a<x.c/\jq v x.c<=x.k
 |[],a,hV,hc,hv,x=>by
  constructor
  ·intro h;simp[sU] at h
  ·rintro⟨f,i,q⟩
   have:=(hc x.c x.k i).1 (jO.2 ⟨x,f,rfl⟩);simp[jq] at this;omega
 |p::V,a,hV,hc,hv,x=>by
  rw[jP] at hV;have hn:∀c,p.1<c->jq (p::V) c=jq V c:=λc h=>by
   simp only[jq];rw[if_neg ω]
  have z:jq (p::V) p.1=p.2:=by simp[jq]
  have ih:=KQ H v (V:=V) (a:=p.1) hV.2.2 (λc k h=>by rw[hc c k ω,hn c h]) hv x;have hh:∀j,jq v p.1<=j->j<jq v p.1+((p.2-jq v p.1).toNat:Int)->jw L (p.1,j)=true:=λj f i=>(hc p.1 j hV.1).2 ⟨by have:=hv p.1;omega,by rw[z];omega⟩
  rw[sU,aA,ih];constructor
  ·rintro(h|h)
   ·obtain⟨f,i,q,J⟩:=FB hh h
    exact⟨f,ω,by rw[i];exact q⟩
   ·exact⟨h.1,ω,h.2.2⟩
  ·rintro⟨f,i,q⟩
   have I:=(hc x.c x.k i).1 (jO.2 ⟨x,f,rfl⟩);by_cases e:x.c=p.1
   ·refine .inl ?_
    have u:=I.2;rw[e,z] at u;have:=aah H (n:=(p.2-jq v p.1).toNat) (k:=jq v p.1) f (by rw[<-e];exact q) ω;rwa[e] at this
   ·refine .inr ⟨f,?_,q⟩
    rcases Int.lt_or_gt_of_ne e with g|g
    ·have:jq (p::V) x.c=0:=mD (a:=x.c) (jP.2 ⟨g,hV.2⟩) (fy _)
     omega
    ·exact g
theorem NG {L:List It} (f:jy L=true) (v:List (Int×Int)):∀{V:List (Int×Int)} {a:Int},jB a V=true->(∀c k,a<c->(jw L (c,k)=true↔0<=k/\k<jq V c))->(∀c,0<=jq v c)->oV (sU L V v)
 |[],a,hV,hc,hv=> .nil
 |p::V,a,hV,hc,hv=>by
  rw[jP] at hV;have hn:∀c,p.1<c->jq (p::V) c=jq V c:=λc h=>by
   simp only[jq];rw[if_neg ω]
  have u:jq (p::V) p.1=p.2:=by simp[jq]
  have e:∀c k,p.1<c->(jw L (c,k)=true↔0<=k/\k<jq V c):=λc k h=>by rw[hc c k ω,hn c h]
  have hh:∀j,jq v p.1<=j->j<jq v p.1+((p.2-jq v p.1).toNat:Int)->jw L (p.1,j)=true:=λj H z=>(hc p.1 j hV.1).2 ⟨by have:=hv p.1;omega,by rw[u];omega⟩
  rw[sU];refine co.2 ⟨PU hh,NG f v hV.2.2 e hv,λx q y i=>?_⟩;obtain⟨_,z,_⟩:=FB hh q;have:=(KQ f v hV.2.2 e hv y).1 i;rw[qZ];unfold iid;simp only;omega
def l6 (S:DS) (v:List (Int×Int)):List It:=sU S.L S.V v
theorem Ya {S:DS} (h:DOK S) {v:List (Int×Int)} (hv:jB 0 v=true):oV (l6 S v)/\∀x,x∈l6 S v↔x∈S.L/\jq v x.c<=x.k:=by
 have hn:∀c,0<=jq v c:=λc=>nO c hv
 refine⟨NG h.kn v h.yB (λc k _=>h.cnt c k) hn,λx=>?_⟩;have:=KQ h.kn v h.yB (λc k _=>h.cnt c k) hn x;unfold l6;rw[this];constructor
 ·exact λg=>⟨g.1,g.2.2⟩
 ·rintro⟨e,f⟩
  refine⟨e,?_,f⟩;have i:=(h.cnt x.c x.k).1 (jO.2 ⟨x,e,rfl⟩);have:=(h.wfL x e).1;unfold wfI at this;apply Int.not_le.1;intro a;have:jq S.V x.c=0:=mD h.yB a;omega
theorem MX (L:List It) (c:Int):∀(n:Nat) (k:Int),(uX L c k n).length=n
 |0,k=>rfl
 |n+1,k=>by rw[uX,ar,MX]
end
section
open Go.RowKit Go.Extern.Stop Go.Stop Go.Extern
theorem ag8 (w:ae):((dU λt=>do Rtype.noPackHeld "Comparable" t;(λa=>Value.bool a.comparable)<$>typeInfo t) #[.agg #[.pointer (some ⟨3,56,none⟩)]]).run pg w= .ok (.bool true) w:=κ
theorem ag7 (h:au) (w:ae):(gp 455 190 h "Comparable").run pg w= .ok (252,h) w:=κ
theorem nil_eq (c:Int) (W:ae):(binOp .eql 27 .nilIface (.iface 56 (.int .i64 c))).run pg W= .ok (.bool false) W:=by
 have deep:∀d:Nat,(Op.equalIn (d+1) 27 .nilIface (.iface 56 (.int .i64 c))).run pg W= .ok false W:=λd=>by simp[Op.equalIn,run_underlying underlying27]
 simp only[binOp];simp[Op.equal,Op.maxDepth,deep 9999]
theorem afw (w:ae):Calls pg 77 #[.nilIface,.iface 56 (.int .i64 1)] w λe w'=>e= .returned (.bool false)/\Ext w w':=by
 have a:=nil_eq 1;go_enter func77,ntmps77;go_wp2;go_ret;exact⟨rfl,Ext.refl _⟩
theorem afx (w:ae):Calls pg 111 #[.iface 56 (.int .i64 1),.iface 56 (.int .i64 1),.bool true] w λe w'=>e= .returned (.bool true)/\Ext w w':=by
 have a:∀W:ae,(binOp .eql 27 (.iface 56 (.int .i64 1)) (.iface 56 (.int .i64 1))).run pg W= .ok (.bool true) W:=λW=>ab5 1 1 W
 go_enter func111,ntmps111;go_wp2;refine wp_loop_rounds 1 ?_;rw[rounds_succ];go_wp2;go_ret;exact⟨rfl,Ext.refl _⟩
theorem adZ (w:ae):Calls pg 77 #[.iface 56 (.int .i64 1),.iface 56 (.int .i64 1)] w λe w'=>e= .returned (.bool true)/\Ext w w':=by
 have f:=@run_callFunc_extern pg 91 _ eT func91 κ κ κ κ;have a:=@run_callFunc_extern pg 252 _ (dU λt=>do Rtype.noPackHeld "Comparable" t;pure (.bool (←typeInfo t).comparable)) func252 κ κ κ κ
 have q:=agA;have j:=ag8;have i:=ag7;go_enter func77,ntmps77
 go_wp2_with fail
 refine(afx _).mono ?_;rintro e w' ⟨rfl,x⟩;go_wp2;go_ret;exact⟨rfl,x⟩
end
end Go.Proofs.YtncfhbpejchbfaaGreatDoor

/-
  Lemmas of this seat; no claim.
-/
import Derived.Test.YtejbpijamdlgcaaGreatDoorPDf1
import Derived.Test.YtejbpijamdlgcaaGreatDoorPL2
import Derived.Test.YtejbpijamdlgcaaGreatDoorPRf1
import Derived.Test.YtejbpijamdlgcaaGreatDoorPN1
set_option linter.unusedVariables false
set_option linter.unusedSimpArgs false
set_option maxRecDepth 100000
set_option maxHeartbeats 16000000
open And renaming intro→bq
open Array renaming getElem?_eq_some_iff→aC
open Bool renaming and_eq_true→aQ,eq_false_iff→lG,eq_iff_iff→gu,or_assoc→gB,or_eq_true→dV,or_false→jR
open Go renaming Calls→aX,Value→aI,World→aj,bodyPost_ret→aN,cell_of_row→ak,cell_regrown→av,frozen_of_row→aK,heap_alloc_new→aT,heap_setCell_same→aB,results→dK,wpQuiet_nil→bQ,wp_region_quiet_below→aL
open Go.Ending.returned renaming inj→lQ
open Go.IntKind renaming u32→aA
open Go.IntWalk renaming u32_in→iX
open Go.Lib renaming hid→ah
open Go.Obj renaming cells→bF
open Go.RowKit.Below renaming block→aJ
open Go.Value renaming int→aG
open Go.World renaming cell?_alloc_some→au
open List renaming append_assoc→aY,append_nil→bZ,cons_append→aV,filter_append→iC,getElem?_eq_getElem→aO,getElem?_eq_none→eF,getElem?_eq_some_iff→aF,length_append→ay,length_cons→aH,length_nil→aR,length_take→bN,mem_of_getElem?→aP,take_add_one→cZ,take_of_length_le→bI
open Nat renaming le_refl→aD,le_trans→aM,lt_of_lt_of_le→bD,lt_or_ge→dD,zero_add→bH,zero_le→cK
open Option.some renaming inj→fI
namespace Go.Proofs.YtejbpijamdlgcaaGreatDoor
open Go.ChangeShapes Go.WideShapes Go.ChangeAt Go.RowKit Go.Sort
section
attribute [local go_sem] au
structure DM where
 y:Lv
 A:Option Addr
 ca:Nat
 B:Option Addr
 cb:Nat
 C:Option Addr
 cc:Nat
 F:Nat->Prop
 G:List I2
def Lr (S:DS) (q:DM):Array aI:= #[Vu S.cl,Vu S.lim,.slice q.y.A q.y.n q.y.c,.pointer q.y.l,.pointer q.y.r,Vi q.y.h,Vi q.y.m,Vi q.y.s,Vq q.y.lo,Vq q.y.hi,.pointer q.y.p,.slice q.A S.V.length q.ca,.slice q.B S.Wt.length q.cb,.slice q.C S.D.length q.cc,Vi (S.ver:Int),.bool S.closed]
def LCx (F:Nat->Prop) (W:aj) (y:Lv) (L:List It) (G:List I2):Prop:=∃t ad,LC F W y L G t ad
theorem LCx.ext {F:Nat->Prop} {W W':aj} {y:Lv} {L:List It} {G:List I2} (h:LCx F W y L G) (a:Ext W W'):LCx F W' y L G:=by
 obtain⟨t,ad,h⟩:=h;exact⟨t,ad,h.ext a⟩
theorem LCx.frame {F:Nat->Prop} {W W':aj} {y:Lv} {L:List It} {G:List I2} (h:LCx F W y L G) (a:∀b,F b->W'.heap[b]? =W.heap[b]?):LCx F W' y L G:=by
 obtain⟨t,ad,h⟩:=h;exact⟨t,ad,h.frame a⟩
variable {R:Nat->Prop} {S:DS} {W:aj} {d:Nat} {q:DM}
theorem LCx.avoid {F:Nat->Prop} {y:Lv} {L:List It} {G:List I2} {q:Nat} (h:LCx F W y L G) (a:BxL W q zLv):LCx (λb=>F b/\b≠q) W y L G:=by
 obtain⟨t,ad,h⟩:=h;exact⟨t,ad,h.vY a⟩
theorem LCx.lt {F:Nat->Prop} {W:aj} {y:Lv} {L:List It} {G:List I2} (h:LCx F W y L G):∀b,F b->b<W.heap.size:=by
 obtain⟨t,ad,h⟩:=h;exact h.lt
theorem LCx.kn {F:Nat->Prop} {W:aj} {y:Lv} {L:List It} {G:List I2} (h:LCx F W y L G):og L=true:=by
 obtain⟨t,ad,h⟩:=h;exact h.nd.kn
theorem LCx.rx {F:Nat->Prop} {W':aj} {y:Lv} {L:List It} {G:List I2} {p:Nat} (h:LCx F W y L G) (f:RX p W W') (i:∀b,F b->b≠p):LCx F W' y L G:=
 h.frame λb a=>f.block b (h.lt b a) λe=>i b a (by injection e)
theorem Row.rx {p:Nat} {W':aj} {A:Option Addr} {xs:List aI} (h:Row W A xs) (f:RX p W W') (z:∀a,A=some a->a.block≠p):Row W' A xs:=λI=>by
 obtain⟨b,o,e,H⟩:=h I;exact⟨b,o,e,λj u i=>f.cell (H j u i) (z _ e)⟩
structure wK (R:Nat->Prop) (W:aj) (d:Nat) (S:DS) (q:DM):Prop where
 rd:R d
 ls:LCx q.F W q.y S.L q.G
 rF:∀b,q.F b->R b/\b≠d
 mks:Marks S.D S.L q.G
 vec:Vec W q.A S.V
 rA:∀a,q.A=some a->R a.block/\a.block≠d
 nA:S.V.length<=q.ca
 its:ItS W q.B S.Wt
 rB:∀a,q.B=some a->R a.block/\a.block≠d
 nB:S.Wt.length<=q.cb
 sps:SpS W q.C S.D
 rC:∀a,q.C=some a->R a.block/\a.block≠d
 nC:S.D.length<=q.cc
 low:d<W.heap.size
structure pK (R:Nat->Prop) (W:aj) (d:Nat) (S:DS) (q:DM):Prop where
 ou:wK R W d S q
 box:W.heap[d]? =some (.cells (Lr S q) 87 (0,0))
theorem wK.ext {R:Nat->Prop} {W W':aj} {d:Nat} {S:DS} {q:DM} (h:wK R W d S q) (a:Ext W W'):wK R W' d S q:=
 ⟨h.rd,h.ls.ext a,h.rF,h.mks,h.vec.ext a,h.rA,h.nA,h.its.ext a,h.rB,h.nB,h.sps.ext a,h.rC,h.nC,a.lt h.low⟩
theorem wK.rx {R:Nat->Prop} {W W':aj} {d:Nat} {S:DS} {q:DM} (h:wK R W d S q) (e:RX d W W'):wK R W' d S q:=
 ⟨h.rd,h.ls.rx e λb i=>(h.rF b i).2,h.rF,h.mks,Row.rx h.vec e λa f=>(h.rA a f).2,h.rA,h.nA,Row.rx h.its e λa f=>(h.rB a f).2,h.rB,h.nB,Row.rx h.sps e λa f=>(h.rC a f).2,h.rC,h.nC,bD h.low e.size⟩
theorem wK.flag (h:wK R W d S q) (n:Nat) (b:Bool):wK R W d { S with ver:=n,closed:=b } q:=
 ⟨h.rd,h.ls,h.rF,h.mks,h.vec,h.rA,h.nA,h.its,h.rB,h.nB,h.sps,h.rC,h.nC,h.low⟩
theorem pK.ext {R:Nat->Prop} {W W':aj} {d:Nat} {S:DS} {q:DM} (h:pK R W d S q) (a:Ext W W'):pK R W' d S q:=
 ⟨h.ou.ext a,(aJ a d h.ou.low).trans h.box⟩
theorem wK.ent (h:wK R W d S q):oQ S.L q.G=S.E:=Yq h.ls.kn h.mks
theorem pK.cell {R:Nat->Prop} {W:aj} {d:Nat} {S:DS} {q:DM} (h:pK R W d S q) {j:Nat} {v:aI} (a:(Lr S q)[j]? =some v):W.cell? ⟨d,j,none⟩=some v:=by
 rw[ak W d j _ _ _ h.box];exact a
theorem pK.thaw (h:pK R W d S q) (j:Nat):W.frozen? ⟨d,j,none⟩=false:=aK W d j _ _ h.box
theorem pK.BN (h:pK R W d S q):W.cell? ⟨d,2,none⟩=some (.slice q.y.A q.y.n q.y.c)/\W.cell? ⟨d,3,none⟩=some (.pointer q.y.l)/\W.cell? ⟨d,4,none⟩=some (.pointer q.y.r)/\W.cell? ⟨d,5,none⟩=some (Vi q.y.h)/\W.cell? ⟨d,6,none⟩=some (Vi q.y.m)/\W.cell? ⟨d,7,none⟩=some (Vi q.y.s)/\W.cell? ⟨d,8,none⟩=some (Vq q.y.lo)/\W.cell? ⟨d,9,none⟩=some (Vq q.y.hi)/\W.cell? ⟨d,10,none⟩=some (.pointer q.y.p):=
 ⟨h.cell rfl,h.cell rfl,h.cell rfl,h.cell rfl,h.cell rfl,h.cell rfl,h.cell rfl,h.cell rfl,h.cell rfl⟩
theorem Bc (h:pK R W d S q):aX Tryz.prog 25 #[.pointer (some ⟨d,0,none⟩)] W λe W'=>e= .returned (Vi (S.ver:Int))/\Ext W W':=by
 have c:=h.cell (j:=14) (v:=Vi (S.ver:Int)) rfl;go_enter Tryz.func25,Tryz.ntmps25;go_wp2;go_ret;exact⟨rfl,Ext.refl _⟩
theorem LD (h:pK R W d S q):aX Tryz.prog 23 #[.pointer (some ⟨d,0,none⟩)] W λe W'=>e= .returned (Vi (S.Wt.length:Int))/\Ext W W':=by
 have c:=h.cell (j:=12) (v:= .slice q.B S.Wt.length q.cb) rfl;go_enter Tryz.func23,Tryz.ntmps23;go_wp2;go_ret;exact⟨rfl,Ext.refl _⟩
theorem Es (h:pK R W d S q) (i:S.L.length<=300000):aX Tryz.prog 19 #[.pointer (some ⟨d,0,none⟩)] W λe W'=>e= .returned (.string (textE S.E))/\Ext W W':=by
 obtain⟨t,ad,a⟩:=h.ou.ls;have f:=ah (a.text ω);rw[h.ou.ent] at f;obtain⟨c2,c3,c4,c5,c6,c7,c8,c9,c10⟩:=h.BN;clear h a;go_enter Tryz.func19,Tryz.ntmps19
 go_wp2_with fail
 refine f.out.mono ?_;rintro e W' ⟨rfl,x⟩;go_wp2;go_ret;exact⟨rfl,x⟩
def aco (W:aj) (s:ByteArray) (c:Int) (v:aI):Prop:=(c=0/\v= .nilIface)\/(c≠0/\aiz W s c v)
theorem IL (h:pK R W d S q) (u:zR W) (s:ByteArray) (c:Int):aX Tryz.prog 45 #[.pointer (some ⟨d,0,none⟩),.string s,qD c] W λe W'=>∃v,e= .returned (.tuple #[Vi (if c=0 then(S.ver:Int) else 0),v])/\aco W' s c v/\Ext W W':=by
 have z:=h.cell (j:=14) (v:=Vi (S.ver:Int)) rfl;by_cases a:c=0
 ·subst a
  rw[if_pos rfl];have f:qD 0= .nilIface:=by simp[qD]
  rw[f];go_enter Tryz.func45,Tryz.ntmps45;go_wp2;exact aN (v:= .tuple #[Vi (S.ver:Int),.nilIface]) (by simp[dK,Tryz.results45,go_sem]) rfl ⟨_,rfl,.inl ⟨rfl,rfl⟩,Ext.refl _⟩
 ·rw[if_neg a]
  have f:qD c= .iface 75 (.int .i64 c):=by simp[qD,a]
  rw[f];have i:=ah (Na s c W u);replace a:=ah a;go_enter Tryz.func45,Tryz.ntmps45
  go_wp2_with fail
  refine i.out.mono ?_;rintro e W' ⟨v,rfl,hv,x⟩
  go_wp2_with fail
  exact aN (v:= .tuple #[Vi 0,v]) (by simp[dK,Tryz.results45,go_sem]) rfl ⟨_,rfl,.inr ⟨a.out,hv⟩,x⟩
theorem Yx (h:pK R W d S q) (J:zR W):aX Tryz.prog 24 #[.pointer (some ⟨d,0,none⟩)] W λe W'=>∃v,e= .returned v/\aco W' ⟨#[67,108,111,115,101]⟩ (if S.closed then 6 else 0) v/\pK R W' d { S with closed:=true } q/\RX d W W':=by
 have i:=h.cell (j:=15) (v:= .bool S.closed) rfl;have K:=h.thaw 15;cases f:S.closed with
 |true=>
  rw[f] at i;have I:=ah (Na ⟨#[67,108,111,115,101]⟩ 6 W J);have H:{ S with closed:=true }=S:=by cases S;simp only at f;subst f;rfl
  rw[H];have a:=ah (λ(W':aj) (x:Ext W W')=>h.ext x);clear H f h;go_enter Tryz.func24,Tryz.ntmps24
  go_wp2_with fail
  refine I.out.mono ?_;rintro e W' ⟨v,rfl,hv,x⟩;go_wp2;go_ret;exact⟨v,rfl,.inr ⟨δ,hv⟩,a.out _ x,RX.ext x⟩
 |false=>
  rw[f] at i;have z:(W.setCell ⟨d,15,none⟩ (.bool true)).heap[d]? =some (.cells (Lr { S with closed:=true } q) 87 (0,0)):=aB W d 15 _ _ _ h.box;have u:RX d W (W.setCell ⟨d,15,none⟩ (.bool true)):=(RX.refl d W).set 15 _ (.inr rfl);have a:=ah (show pK R (W.setCell ⟨d,15,none⟩ (.bool true)) d { S with closed:=true } q from⟨(h.ou.rx u).flag S.ver true,z⟩);clear h z f;go_enter Tryz.func24,Tryz.ntmps24;go_wp2;go_ret;exact⟨_,rfl,.inl ⟨rfl,rfl⟩,a.out,u⟩
end
section
attribute [local go_sem] au calm oK oG
section
def KLC (w W W':aj):Prop:=(Ext w W->Ext w W')/\∀(F:Nat->Prop) (y:Lv) (L:List It) (G:List I2),LCx F W y L G->∃a:Nat->Prop,(∀b,a b->F b)/\LCx a W' y L G
variable {F:Nat->Prop} {G:List I2} {L:List It} {w:aj} {y:Lv}
theorem Qt {W:aj} {q:Nat} (y:Lv) (f:w.heap.size<=q) (e:BxL W q zLv):KLC w W (vR W q y):=
 ⟨λx=>RX.down x f (sH _ _ _),λF v L G h=>⟨_,λb a=>a.1,(h.avoid e).rx (sH W q y) λb a=>a.2⟩⟩
def NwL (F:Nat->Prop) (s:Nat) (L:List It) (G:List I2) (W:aj) (y:Lv):Prop:=∃a:Nat->Prop,LCx a W y L G/\∀b,a b->F b\/s<=b
theorem NwL.ext {F:Nat->Prop} {s:Nat} {L:List It} {G:List I2} {W W':aj} {y:Lv} (h:NwL F s L G W y) (a:Ext W W'):NwL F s L G W' y:=by
 obtain⟨i,f,e⟩:=h;exact⟨i,f.ext a,e⟩
theorem NwL.klc {s:Nat} {W W':aj} (h:NwL F s L G W y) (a:KLC w W W'):NwL F s L G W' y:=by
 obtain⟨z,q,j⟩:=h;obtain⟨u,i,f⟩:=a.2 z _ _ _ q;exact⟨u,f,λb e=>j b (i b e)⟩
theorem NwL.rx {F:Nat->Prop} {s p:Nat} {L:List It} {G:List I2} {W W':aj} {y:Lv} (h:NwL F s L G W y) (f:RX p W W') (hF:∀b,F b->b<p) (u:p<s):NwL F s L G W' y:=by
 obtain⟨q,j,a⟩:=h;refine⟨q,j.rx f λb i e=>?_,a⟩;subst e;rcases a _ i with h|h
 ·exact absurd (hF _ h) (Nat.lt_irrefl _)
 ·omega
theorem adI (D:List (Int×Int×Int)) (M:List It) (x:It):gdL D (M++[x])=gdL D M++(if oL D x.c x.k then [(x.c,x.k)] else []):=by
 unfold gdL;rw[List.map_append,iC]
 congr 1
 show [iid x].filter _=_;rw[List.filter_cons];rfl
theorem Wx:∀{M L:List It} {k:Nat} {x:It},Fh L M=true->M[k]? =some x->Px (L++M.take k) x=true
 |[],L,k,x,h,hx=>by simp at hx
 |y::M,L,0,x,h,hx=>by
  rw[Fh,aQ] at h;obtain rfl:y=x:=by simpa using hx
  simpa using h.1
 |y::M,L,k+1,x,h,hx=>by
  rw[Fh,aQ] at h;have:=Wx (k:=k) h.2 (by simpa using hx);rwa[aY] at this
theorem NG (h:LCx F w y L G) (B C:Option Addr) (m cb nd cc:Nat) (M:List It) (D:List (Int×Int×Int)) (hM:ItS w B M) (hm:M.length=m) (hD:SpS w C D) (hn:D.length=nd) (h5:oC zS D=true) (h7:nd<=400000) (a9:Fh L M=true) (d1:∀x∈M,wfI x) (hl:L.length+m<=310000):
  aX Tryz.prog 77 #[lsv y,.slice B m cb,.slice C nd cc] w λe w'=>∃z,e= .returned (.tuple #[lsv z,.nilIface])/\NwL F w.heap.size (L++M) (G++gdL D M) w' z/\Ext w w':=by
 have i5:=ah h.lt;replace hM:=ah hM;replace hm:=ah hm;replace hD:=ah hD;replace a9:=ah a9;replace d1:=ah d1;replace h:=ah h;go_enter Tryz.func77,Tryz.ntmps77;go_wp2;have x0:Ext w ((w.alloc (.cells #[.slice y.A y.n y.c,.pointer y.l,.pointer y.r,Vi y.h,Vi y.m,Vi y.s,Vq y.lo,Vq y.hi,.pointer y.p] 85)).alloc (.cells #[.slice none 0 0,.pointer none,.pointer none,Vi 0,Vi 0,Vi 0,Vq 0,Vq 0,.pointer none] 85)):=((Ext.refl _).alloc _).alloc _;have b0:BxL ((w.alloc (.cells #[.slice y.A y.n y.c,.pointer y.l,.pointer y.r,Vi y.h,Vi y.m,Vi y.s,Vq y.lo,Vq y.hi,.pointer y.p] 85)).alloc (.cells #[.slice none 0 0,.pointer none,.pointer none,Vi 0,Vi 0,Vi 0,Vq 0,Vq 0,.pointer none] 85)) w.heap.size y:=(BxL.new w y).ext ((Ext.refl _).alloc _);have b1:BxL ((w.alloc (.cells #[.slice y.A y.n y.c,.pointer y.l,.pointer y.r,Vi y.h,Vi y.m,Vi y.s,Vq y.lo,Vq y.hi,.pointer y.p] 85)).alloc (.cells #[.slice none 0 0,.pointer none,.pointer none,Vi 0,Vi 0,Vi 0,Vq 0,Vq 0,.pointer none] 85)) (w.heap.size+1) zLv:=by
  have:=BxL.new (w.alloc (.cells #[.slice y.A y.n y.c,.pointer y.l,.pointer y.r,Vi y.h,Vi y.m,Vi y.s,Vq y.lo,Vq y.hi,.pointer y.p] 85)) zLv;rwa[show(w.alloc (.cells #[.slice y.A y.n y.c,.pointer y.l,.pointer y.r,Vi y.h,Vi y.m,Vi y.s,Vq y.lo,Vq y.hi,.pointer y.p] 85)).heap.size=w.heap.size+1 by simp] at this
 have b5:((w.alloc (.cells #[.slice y.A y.n y.c,.pointer y.l,.pointer y.r,Vi y.h,Vi y.m,Vi y.s,Vq y.lo,Vq y.hi,.pointer y.p] 85)).alloc (.cells #[.slice none 0 0,.pointer none,.pointer none,Vi 0,Vi 0,Vi 0,Vq 0,Vq 0,.pointer none] 85)).heap.size=w.heap.size+1+1:=ι
 generalize(w.alloc (.cells #[.slice y.A y.n y.c,.pointer y.l,.pointer y.r,Vi y.h,Vi y.m,Vi y.s,Vq y.lo,Vq y.hi,.pointer y.p] 85)).alloc (.cells #[.slice none 0 0,.pointer none,.pointer none,Vi 0,Vi 0,Vi 0,Vq 0,Vq 0,.pointer none] 85)=W1 at*;have k9:=ah (aD w.heap.size);have g5:=ah (λb (hb:F b)=>i5.out b hb);generalize a7:w.heap.size=J at*;replace a7:=ah a7;replace b5:=ah b5;have b2:NwL F W1.heap.size L G W1 y:=⟨F,h.out.ext x0,λb hb=> .inl hb⟩;obtain⟨s,hs⟩:∃s,W1.heap.size=s:=⟨_,rfl⟩;rw[hs] at b2;have h0:=ah (show s=J+1+1 by rw[<-hs];exact b5.out);have hps:J+1<s:=by have:=h0.out;omega
 replace hs:=ah hs;replace b2:=ah b2;replace b0:=ah b0;replace b1:=ah b1;replace x0:=ah x0;clear b5
 go_loopw [14] (λi W=>∃(k:Nat) (z:Lv),k<=m/\i=Vi (k:Nat)/\Hid (BxL W J z)/\Hid (BxL W (J+1) zLv)/\Hid (NwL F s (L++M.take k) (G++gdL D (M.take k)) W z)/\Hid (Ext w W)/\s<=W.heap.size) (λi _=>m-(intOf i).toNat)
 case atStart=>exact⟨0,y,cK _,rfl,b0,b1,ah (by rw[List.take_zero,bZ];exact(bZ G).symm▸b2.out),x0,by rw[hs.out];exact aD _⟩
 case round=>
  clear b0 b1 b2 x0;obtain⟨k,z,hk,rfl,bx,br,hN,hx,i9⟩:=hrel;by_cases h6:k<m
  ·obtain⟨bb,oo,x,rfl,hp,hc⟩:=(hM.out.ext hx.out).at (k:=k) (by rw[hm.out];exact h6)
   have g8:=Wx a9.out hp;have i6:=d1.out x (aP hp);have d7:=ah (show M.take (k+1)=M.take k++[x] by rw[cZ,hp];rfl);have g2:(L++M.take k).length<=320000:=by rw[ay,bN];have:=hm.out;omega
   obtain⟨g,hg⟩:∃g,oL D x.c x.k=g:=⟨_,rfl⟩;have g4:=ah (show G++gdL D (M.take (k+1))=if g then(G++gdL D (M.take k))++[(x.c,x.k)] else G++gdL D (M.take k) by
        rw[d7.out,adI,hg];cases g
        ·simp
        ·simp[aY])
   clear hp;obtain⟨L9,b6⟩:∃L9,L++M.take k=L9:=⟨_,rfl⟩;obtain⟨G9,d4⟩:∃G9,G++gdL D (M.take k)=G9:=⟨_,rfl⟩;rw[d4] at g4 hN;rw[b6] at g8 g2 hN;have b4:=ah (hx.out.trans ((Ext.refl wr).alloc (.cells #[Vu x.c,Vu x.k,Vu x.lc,Vu x.lk,Vu x.rc,Vu x.rk,.int .i32 x.ch] 57)));have b3:=bx.out.ext ((Ext.refl wr).alloc (.cells #[Vu x.c,Vu x.k,Vu x.lc,Vu x.lk,Vu x.rc,Vu x.rk,.int .i32 x.ch] 57));have b7:=br.out.ext ((Ext.refl wr).alloc (.cells #[Vu x.c,Vu x.k,Vu x.lc,Vu x.lk,Vu x.rc,Vu x.rk,.int .i32 x.ch] 57));have g1:=ah (hN.out.ext ((Ext.refl wr).alloc (.cells #[Vu x.c,Vu x.k,Vu x.lc,Vu x.lk,Vu x.rc,Vu x.rk,.int .i32 x.ch] 57)));have U:=ah (aT wr (.cells #[Vu x.c,Vu x.k,Vu x.lc,Vu x.lk,Vu x.rc,Vu x.rk,.int .i32 x.ch] 57));have b8:s<=(wr.alloc (.cells #[Vu x.c,Vu x.k,Vu x.lc,Vu x.lk,Vu x.rc,Vu x.rk,.int .i32 x.ch] 57)).heap.size:=by simp;omega
   obtain⟨q0,q1,q2,q3,q4,q5,q6⟩:=hc;replace b6:=ah b6;replace d4:=ah d4;replace b7:=ah b7;replace b3:=ah b3;replace hg:=ah hg
   go_wp2_with fail
   generalize wr.alloc (.cells #[Vu x.c,Vu x.k,Vu x.lc,Vu x.lk,Vu x.rc,Vu x.rk,.int .i32 x.ch] 57)=I at*;generalize wr.heap.size=bi at*;clear q0 q1 q2 q3 q4 q5 q6;have q0:I.cell? ⟨bi,0,none⟩=some (Vu x.c):=ak I bi 0 _ _ _ U.out;have q1:I.cell? ⟨bi,1,none⟩=some (Vu x.k):=ak I bi 1 _ _ _ U.out;have q2:I.cell? ⟨bi,2,none⟩=some (Vu x.lc):=ak I bi 2 _ _ _ U.out;have q3:I.cell? ⟨bi,3,none⟩=some (Vu x.lk):=ak I bi 3 _ _ _ U.out;have q4:I.cell? ⟨bi,4,none⟩=some (Vu x.rc):=ak I bi 4 _ _ _ U.out;have q5:I.cell? ⟨bi,5,none⟩=some (Vu x.rk):=ak I bi 5 _ _ _ U.out;have q6:I.cell? ⟨bi,6,none⟩=some (.int .i32 x.ch):=ak I bi 6 _ _ _ U.out;obtain⟨z0,z1,Q,z3,z4,z5,z6,z7,z8⟩:=b3.out.cells;have g9:=b4.out.size;rw[a7.out] at g9;have g7:=ah (λ(W:aj) (e:Ext I W)=>(adD C nd cc D x.c x.k W (hD.out.ext (b4.out.trans e)) hn h5 h7).mono λe w' h=>(by rw[hg.out] at h;exact h:e= .returned (.bool g)/\Ext W w'));have b9:=ah (λ(W:aj) (e:Ext I W)=>(by
        obtain⟨F1,⟨t1,l2,i1⟩,i4⟩:=g1.out.ext e;refine(i1.air g2 x g i6 g8).mono ?_;rintro e9 w9 ⟨F2,Q,t2,i7,rfl,O,Y,h3⟩;refine⟨_,rfl,⟨Q,rfl,F2,⟨t2,i7,?_⟩,λb hb=>?_⟩,h3⟩
        ·rw[<-b6.out,aY,<-d7.out] at O
         rw[g4.out];exact O
        ·rcases Y b hb with h|h
         ·exact i4 b h
         ·exact .inr (aM b8 (aM e.size h)):aX Tryz.prog 117 #[lsv z,itv x,.bool g] W λe9 w9=>∃v,e9= .returned v/\(∃Q:Lv,v= .tuple #[lsv Q,.nilIface]/\NwL F s (L++M.take (k+1)) (G++gdL D (M.take (k+1))) w9 Q)/\Ext W w9))
   generalize i0:L++M.take (k+1)=Ln at*;generalize i3:G++gdL D (M.take (k+1))=Gn at*;refine tY 12 11 [rwI 5 (.bool g),rw1 6 (λz9 W=>∃Q:Lv,z9= .tuple #[lsv Q,.nilIface]/\NwL F s Ln Gn W Q),rw1 8 (λz9 W=>∃Q:Lv,z9=lsv Q/\NwL F s Ln Gn W Q),rw1 9 (λz9 _=>z9= .nilIface),rwB 10 (λz9 W=>∃q,z9=Vp q/\I.heap.size<=q/\BxL W q zLv),rw2 11 10 (λ_ v W=>∃q Q,v=Vp q/\I.heap.size<=q/\BxL W q Q/\NwL F s Ln Gn W Q)] (Ext I) (λ_=>True) Ext (KLC I) ((Ext.refl _).drew) trivial (λ_ _=>Ext.trans) (λ_ _ _ _=>trivial)
        ⟨(λ_ _ _ _ h _=>h),(λ_ _ _ _ _ _ h _=>h),(by rintro _ _ _ _ ⟨Z,O,Y⟩ e;exact⟨Z,O,Y.ext e⟩),(λ_ _=>by rintro _ _ _ _ ⟨Z,O,Y⟩ e;exact⟨Z,O,Y.klc e⟩),(by rintro _ _ _ _ ⟨Z,O,Y⟩ e;exact⟨Z,O,Y.ext e⟩),(λ_ _=>by rintro _ _ _ _ ⟨Z,O,Y⟩ e;exact⟨Z,O,Y.klc e⟩),(λ_ _ _ _ h _=>h),(λ_ _ _ _ _ _ h _=>h),(by rintro _ _ _ _ ⟨q,O,Y,h3⟩ e;exact⟨q,O,Y,h3.ext e⟩),(λh=>by cases h),(by rintro _ _ _ _ ⟨q,Z,O,Y,h3,h4⟩ e;exact⟨q,Z,O,Y,h3.ext e,h4.ext e⟩),(λ_ h=>absurd rfl h),trivial⟩ λρ hI=>?_
   refine .s1 5 false [] (λW X _ _=>by
        have a0:=X.keep q0;have a1:=X.keep q1;have a2:=X.keep q2;have a3:=X.keep q3;have a4:=X.keep q4;have a5:=X.keep q5;have a6:=X.keep q6;have e0:=X.keep z0;have e1:=X.keep z1;have e2:=X.keep Q;have e3:=X.keep z3;have e4:=X.keep z4;have e5:=X.keep z5;have e6:=X.keep z6;have e7:=X.keep z7;have e8:=X.keep z8;exact oz) ?_
   refine .kv1 hI 0 (.bool g) (λW hx=>g7.out W hx) ?_;refine .o1 1 false [] (λW hx _ _ N hN=>?_) ?_
   ·go_simp
    exact(b9.out W hx).mono (by rintro e I ⟨v,rfl,O,Y⟩;exact⟨_,rfl,hN _ _ (λ_ e=>by cases e) O Y⟩)
   refine .s1 1 false [] (λW X _ _=>oz) ?_;refine .o1 2 false [1] (λW hx _ f N hN=>?_) ?_
   ·obtain⟨⟨Z,e9,g3⟩,_⟩:=f
    have e9:ρ 6=_:=e9
    go_simp
    exact hN _ _ (λ_ e=>by cases e) ⟨Z,rfl,g3⟩ (Ext.refl _)
   refine .o1 3 false [1] (λW hx _ f N hN=>?_) ?_
   ·obtain⟨⟨Z,e9,g3⟩,_⟩:=f
    have e9:ρ 6=_:=e9
    go_simp
    exact hN _ _ (λ_ e=>by cases e) rfl (Ext.refl _)
   refine .o1 4 false [] (λW hx _ _ N hN=>?_) ?_
   ·go_simp
    exact hN _ _ (λ_ e=>by cases e) ⟨_,rfl,hx.size,BxL.new W zLv⟩ ((Ext.refl W).alloc _)
   refine .o0 5 [4,2] (λW hx _ f N hN=>?_) ?_
   ·obtain⟨⟨qb,d5,d9,u⟩,⟨Z,g6,i2⟩,_⟩:=f
    have d5:ρ 10=_:=d5;have g6:ρ 8=_:=g6;obtain⟨k0,k1,k2,k3,k4,k5,k6,k7,k8⟩:=u.cells;have f0:=u.thaw 0;have f1:=u.thaw 1;have f2:=u.thaw 2;have f3:=u.thaw 3;have f4:=u.thaw 4;have f5:=u.thaw 5;have f6:=u.thaw 6;have f7:=u.thaw 7;have f8:=u.thaw 8;have hk:=Qt Z d9 u
    go_simp
    exact hN _ _ (λ_ e=>by cases e) ⟨qb,Z,d5,d9,u.put Z,i2.klc hk⟩ (hk.1 hx) hk
   refine .fin λW hR ⟨_,_,h8,h9,_,pE,_⟩=>?_
   obtain⟨qn,zn,eq,j9,f9,g0⟩:=pE rfl;rw[show ρ 10=_ from eq,show ρ 9=_ from h9 rfl];clear h8 h9 g7 b9 q0 q1 q2 q3 q4 q5 q6 z0 z1 Q z3 z4 z5 z6 z7 z8 pE;generalize W=W6 at*;have H:=b3.out.ext hR;have a:=b7.out.ext hR;have d6:=b4.out.trans hR;have d8:=aM b8 hR.size;obtain⟨k0,k1,k2,k3,k4,k5,k6,k7,k8⟩:=f9.cells;obtain⟨z0,z1,Q,z3,z4,z5,z6,z7,z8⟩:=H.cells;have f0:=H.thaw 0;have f1:=H.thaw 1;have f2:=H.thaw 2;have f3:=H.thaw 3;have f4:=H.thaw 4;have f5:=H.thaw 5;have f6:=H.thaw 6;have f7:=H.thaw 7;have f8:=H.thaw 8;have j:=ah (show BxL (vR W6 J zn) J zn/\BxL (vR W6 J zn) (J+1) zLv/\NwL F s Ln Gn (vR W6 J zn) zn/\Ext w (vR W6 J zn)/\s<=(vR W6 J zn).heap.size from
        ⟨H.put zn,(sH W6 J zn).blk a ω,g0.rx (sH W6 J zn) g5.out ω,RX.down d6 (by rw[a7.out];exact aD _) (sH W6 J zn),aM d8 (sH W6 J zn).size⟩)
   clear H a d6 d8 g0 f9 hR g1 b3 b7 b4 U hN bx br hx;go_wp2
   go_roundw
   case rel=>exact⟨k+1,zn,ω,ν,ah j.out.1,ah j.out.2.1,ah (by rw[i0,i3];exact j.out.2.2.1),ah j.out.2.2.2.1,j.out.2.2.2.2⟩
   case measure=>simp[intOf];omega
  ·obtain rfl:k=m:=ω
   have a8:M.take k=M:=bI (by rw[hm.out];exact aD _);have d3:=hN.out;rw[a8] at d3;obtain⟨k0,k1,k2,k3,k4,k5,k6,k7,k8⟩:=bx.out.cells;have a:=br.out;have f0:=a.thaw 0;have f1:=a.thaw 1;have f2:=a.thaw 2;have f3:=a.thaw 3;have f4:=a.thaw 4;have f5:=a.thaw 5;have f6:=a.thaw 6;have f7:=a.thaw 7;have f8:=a.thaw 8;obtain⟨z0,z1,i8,z3,z4,z5,z6,z7,z8⟩:=a.cells;have d2:=sH wr (J+1) z;obtain⟨j0,j1,j2,j3,j4,j5,j6,j7,j8⟩:=(a.put z).cells;have j:=ah (show NwL F w.heap.size (L++M) (G++gdL D M) (vR wr (J+1) z) z/\Ext w (vR wr (J+1) z) from by
        have O:=d3.rx d2 (λb hb=>Nat.lt_succ_of_lt (g5.out b hb)) ω;obtain⟨F1,Y,h3⟩:=O;exact⟨⟨F1,Y,λb hb=>(h3 b hb).imp id λh=>by rw[a7.out];omega⟩,RX.down hx.out (by rw[a7.out];omega) d2⟩)
   clear hN d3 hx a8 d2 br bx a
   go_wp2_with fail
   exact aN (v:= .tuple #[lsv z,.nilIface]) (by simp[dK,Tryz.results77,go_sem,j0,j1,j2,j3,j4,j5,j6,j7,j8]) rfl ⟨z,rfl,j.out.1,j.out.2⟩
def Mk1 (L:List It) (G e:List I2) (P:I2->Bool):Prop:=∀a,nZ L a=true->rR e a=(rR G a||P a)
theorem Mk1.more {e:List I2} {P:I2->Bool} (h:Mk1 L G e P) (b:I2):Mk1 L G (e++[b]) (λa=>P a||decide (b=a)):=λa f=>by
 rw[Ry,h a f,gB];simp[rR]
theorem J6 (h:LCx F w y L G) (C:Option Addr) (nd cc:Nat) (D:List (Int×Int×Int)) (hD:SpS w C D) (hn:D.length=nd) (a9:wfS D) (e6:nd<=400000) (V:List (Int×Int)) (X:∀c k,nZ L (c,k)=true↔0<=k/\k<nW V c) (hl:L.length<=310000):
  aX Tryz.prog 76 #[lsv y,.slice C nd cc] w λe w'=>∃z G',e= .returned (.tuple #[lsv z,.nilIface])/\NwL F w.heap.size L G' w' z/\Mk1 L G G' (λa=>oL D a.1 a.2)/\Ext w w':=by
 have e0:=ah h.lt;replace hD:=ah hD;replace hn:=ah hn;replace a9:=ah a9;replace X:=ah X;replace h:=ah h;go_enter Tryz.func76,Tryz.ntmps76;go_wp2;have x0:Ext w ((w.alloc (.cells #[.slice y.A y.n y.c,.pointer y.l,.pointer y.r,Vi y.h,Vi y.m,Vi y.s,Vq y.lo,Vq y.hi,.pointer y.p] 85)).alloc (.cells #[.slice none 0 0,.pointer none,.pointer none,Vi 0,Vi 0,Vi 0,Vq 0,Vq 0,.pointer none] 85)):=((Ext.refl _).alloc _).alloc _;have b0:BxL ((w.alloc (.cells #[.slice y.A y.n y.c,.pointer y.l,.pointer y.r,Vi y.h,Vi y.m,Vi y.s,Vq y.lo,Vq y.hi,.pointer y.p] 85)).alloc (.cells #[.slice none 0 0,.pointer none,.pointer none,Vi 0,Vi 0,Vi 0,Vq 0,Vq 0,.pointer none] 85)) w.heap.size y:=(BxL.new w y).ext ((Ext.refl _).alloc _);have b1:BxL ((w.alloc (.cells #[.slice y.A y.n y.c,.pointer y.l,.pointer y.r,Vi y.h,Vi y.m,Vi y.s,Vq y.lo,Vq y.hi,.pointer y.p] 85)).alloc (.cells #[.slice none 0 0,.pointer none,.pointer none,Vi 0,Vi 0,Vi 0,Vq 0,Vq 0,.pointer none] 85)) (w.heap.size+1) zLv:=by
  have:=BxL.new (w.alloc (.cells #[.slice y.A y.n y.c,.pointer y.l,.pointer y.r,Vi y.h,Vi y.m,Vi y.s,Vq y.lo,Vq y.hi,.pointer y.p] 85)) zLv;rwa[show(w.alloc (.cells #[.slice y.A y.n y.c,.pointer y.l,.pointer y.r,Vi y.h,Vi y.m,Vi y.s,Vq y.lo,Vq y.hi,.pointer y.p] 85)).heap.size=w.heap.size+1 by simp] at this
 have a4:((w.alloc (.cells #[.slice y.A y.n y.c,.pointer y.l,.pointer y.r,Vi y.h,Vi y.m,Vi y.s,Vq y.lo,Vq y.hi,.pointer y.p] 85)).alloc (.cells #[.slice none 0 0,.pointer none,.pointer none,Vi 0,Vi 0,Vi 0,Vq 0,Vq 0,.pointer none] 85)).heap.size=w.heap.size+1+1:=ι
 generalize(w.alloc (.cells #[.slice y.A y.n y.c,.pointer y.l,.pointer y.r,Vi y.h,Vi y.m,Vi y.s,Vq y.lo,Vq y.hi,.pointer y.p] 85)).alloc (.cells #[.slice none 0 0,.pointer none,.pointer none,Vi 0,Vi 0,Vi 0,Vq 0,Vq 0,.pointer none] 85)=W1 at*;have e4:=ah (aD w.heap.size);have d1:=ah (λb (hb:F b)=>e0.out b hb);generalize a1:w.heap.size=J at*;replace a1:=ah a1;replace a4:=ah a4;have a3:NwL F W1.heap.size L G W1 y:=⟨F,h.out.ext x0,λb hb=> .inl hb⟩;obtain⟨s,hs⟩:∃s,W1.heap.size=s:=⟨_,rfl⟩;rw[hs] at a3;have d6:=ah (show s=J+1+1 by rw[<-hs];exact a4.out);have hps:J+1<s:=by have:=d6.out;omega
 replace hs:=ah hs;replace a3:=ah a3;replace b0:=ah b0;replace b1:=ah b1;replace x0:=ah x0;clear a4
 go_loopw [13] (λi W=>∃(k:Nat) (z:Lv) (U:List I2),k<=nd/\i=Vi (k:Nat)/\Hid (BxL W J z)/\Hid (BxL W (J+1) zLv)/\Hid (NwL F s L U W z)/\Hid (Mk1 L G U (λa=>oL (D.take k) a.1 a.2))/\Hid (Ext w W)/\s<=W.heap.size) (λi _=>nd-(intOf i).toNat)
 case atStart=>exact⟨0,y,G,cK _,rfl,b0,b1,a3,ah (λa Y=>by simp[oL]),x0,by rw[hs.out];exact aD _⟩
 case round=>
  clear b0 b1 a3 x0;obtain⟨k,z,U,hk,rfl,bx,br,hN,a5,hx,K⟩:=hrel;by_cases d7:k<nd
  ·obtain⟨bb,oo,c,f,t,rfl,hp,q0,q1,q2⟩:=(hD.out.ext hx.out).at (k:=k) (by rw[hn.out];exact d7)
   have b7:=a9.out (c,f,t) (aP hp);simp only at b7;have d3:=ah (λ(M:List I2) (hg:Mk1 L U M (λa=>decide (a.1=c/\f<=a.2/\a.2<t)))=>(λa Y=>by
        rw[hg a Y,a5.out a Y,cZ,hp];show(rR G a||oL (D.take k) a.1 a.2||decide (a.1=c/\f<=a.2/\a.2<t))=(rR G a||oL (D.take k++[(c,f,t)]) a.1 a.2);rw[qc,gB]
        congr 2
        simp only[oL,jR,inS]
        congr 1
        rw[eq_iff_iff];exact⟨λh=>⟨h.1.symm,h.2⟩,λh=>⟨h.1.symm,h.2⟩⟩:Mk1 L G M (λa=>oL (D.take (k+1)) a.1 a.2)))
   clear hp;have x1:Ext wr (wr.alloc (.cells #[Vu c,Vu f,Vu t] 98)):=(Ext.refl _).alloc _;have bo:=ah (show(wr.alloc (.cells #[Vu c,Vu f,Vu t] 98)).heap[wr.heap.size]? =some (.cells #[Vu c,Vu f,Vu t] 98 (0,0)) from aT wr _);have b5:=ah (bx.out.ext x1);have b6:=ah (br.out.ext x1);have b3:=ah (hN.out.ext x1);have a8:=ah (hx.out.trans x1);have a0:=aM K x1.size;have d9:s<=wr.heap.size:=K;clear bx br hN hx K x1 a5
   go_upto_block 1 with fail
   go_cut [8] (λ_ wx=>∃(z:Lv) (M:List I2),Hid (BxL wx J z)/\Hid (BxL wx (J+1) zLv)/\Hid (NwL F s L M wx z)/\Hid (Mk1 L U M (λa=>decide (a.1=c/\f<=a.2/\a.2<t)))/\Hid (Ext w wx)/\s<=wx.heap.size)
   case first=>
        go_wp2_with fail
        generalize wr.alloc (.cells #[Vu c,Vu f,Vu t] 98)=W3 at*;generalize wr.heap.size=bi at*;clear q0 q1 q2 d3
        go_loopw [8] (λsv W=>∃(q:Int) (z:Lv) (M:List I2),sv=Vu q/\f<=q/\(q<=t\/q=f)/\Hid (BxL W J z)/\Hid (BxL W (J+1) zLv)/\Hid (NwL F s L M W z)/\Hid (Mk1 L U M (λa=>decide (a.1=c/\f<=a.2/\a.2<q)))/\Hid (W.heap[bi]? =some (.cells #[Vu c,Vu f,Vu t] 98 (0,0)))/\Hid (Ext w W)/\s<=W.heap.size) (λsv _=>(t-intOf sv).toNat)
        case atStart=>exact⟨f,z,U,rfl,Int.le_refl _,.inr rfl,b5,b6,b3,ah (λa Y=>by
         have:decide (a.1=c/\f<=a.2/\a.2<f)=false:=by rw[decide_eq_false_iff_not];omega
         show rR U a=(rR U a||decide (a.1=c/\f<=a.2/\a.2<f));rw[this,jR]),bo,a8,a0⟩
        case round=>
         clear b5 b6 b3 bo a8 a0;obtain⟨q,z,M,rfl,d8,e3,bx,br,hN,N,bo,hx,K⟩:=hrel;have o0:wr.cell? ⟨bi,0,none⟩=some (Vu c):=ak wr bi 0 _ _ _ bo.out;have o2:wr.cell? ⟨bi,2,none⟩=some (Vu t):=ak wr bi 2 _ _ _ bo.out;by_cases d5:q<t
         ·have g1:decide (q<t)=true:=decide_eq_true d5
          obtain⟨z0,z1,z2,z3,z4,z5,z6,z7,z8⟩:=bx.out.cells;have a7:qD 1= .iface 75 (.int .i64 1):=by simp[qD]
          cases hin:nZ L (c,q) with
          |false=>
           have Q:=ah (by
            obtain⟨F1,⟨t1,d4,b4⟩,d2⟩:=hN.out;have:=b4.ah2 ω c q hin;rw[a7] at this;exact this:aX Tryz.prog 115 #[lsv z,idv c q] wr λe w'=>∃z2:Lv,e= .returned (.tuple #[lsv z2,.iface 75 (.int .i64 1)])/\Ext wr w')
           have O:=ah (show Mk1 L U M (λa=>decide (a.1=c/\f<=a.2/\a.2<t)) from λa Y=>by
            rw[N.out a Y]
            congr 1
            rw[decide_eq_decide];have e5:=mt (X.out c q).2 (by rw[hin];simp);have h0:=b7.2.2.1;constructor
            ·exact λg=>⟨g.1,g.2.1,ω⟩
            ·intro g
             have h2:=(X.out a.1 a.2).1 Y;rw[g.1] at h2;exact⟨g.1,g.2.1,ω⟩)
           clear hin a7 N
           go_wp2_with fail
           refine Q.out.mono ?_;rintro e w4 ⟨j,rfl,x4⟩;clear Q z0 z1 z2 z3 z4 z5 z6 z7 z8;have x5:=x4.alloc (.cells #[.slice j.A j.n j.c,.pointer j.l,.pointer j.r,Vi j.h,Vi j.m,Vi j.s,Vq j.lo,Vq j.hi,.pointer j.p] 85)
           go_wp2_with fail
           refine(afH _).mono ?_;rintro e w6 ⟨rfl,x6⟩;have Z:=x5.trans x6
           go_wp2_with fail
           go_meet;exact⟨z,M,ah (bx.out.ext Z),ah (br.out.ext Z),ah (hN.out.ext Z),O,ah (hx.out.trans Z),aM K Z.size⟩
          |true=>
           have Q:=ah (by
            obtain⟨F1,⟨t1,d4,b4⟩,d2⟩:=hN.out;refine(b4.del ω c q hin).mono ?_;rintro e w' ⟨F2,z2,rfl,h1,h2,h3⟩;exact⟨z2,rfl,⟨F2,⟨t1,d4,h1⟩,λb hb=>by
             rcases h2 b hb with h|h
             ·exact d2 b h
             ·exact .inr (aM K h)⟩,h3⟩:aX Tryz.prog 115 #[lsv z,idv c q] wr λe w'=>∃z2:Lv,e= .returned (.tuple #[lsv z2,.nilIface])/\NwL F s L (M++[(c,q)]) w' z2/\Ext wr w')
           have O:=ah (show Mk1 L U (M++[(c,q)]) (λa=>decide (a.1=c/\f<=a.2/\a.2<q+1)) from λa Y=>by
            rw[N.out.more (c,q) a Y]
            congr 1
            rw[gu,dV,decide_eq_true_eq,decide_eq_true_eq,decide_eq_true_eq];constructor
            ·rintro(g|g)
             ·exact⟨g.1,g.2.1,ω⟩
             ·subst g
              exact⟨rfl,d8,ω⟩
            ·intro g
             by_cases e:a.2=q
             ·exact .inr (Prod.ext g.1.symm e.symm)
             ·exact .inl ⟨g.1,g.2.1,ω⟩)
           have e2:aA.wrap (q+1)=q+1:=iX _ ω;clear hin a7 N hN
           go_wp2_with fail
           refine Q.out.mono ?_;rintro e w4 ⟨j,rfl,b9,x4⟩;clear Q z0 z1 z2 z3 z4 z5 z6 z7 z8;have x5:=x4.alloc (.cells #[.slice j.A j.n j.c,.pointer j.l,.pointer j.r,Vi j.h,Vi j.m,Vi j.s,Vq j.lo,Vq j.hi,.pointer j.p] 85);have bn:=BxL.new w4 j;have a6:=b9.ext ((Ext.refl w4).alloc (.cells #[.slice j.A j.n j.c,.pointer j.l,.pointer j.r,Vi j.h,Vi j.m,Vi j.s,Vq j.lo,Vq j.hi,.pointer j.p] 85));replace bn:=ah bn;replace a6:=ah a6
           go_wp2_with fail
           generalize w4.alloc (.cells #[.slice j.A j.n j.c,.pointer j.l,.pointer j.r,Vi j.h,Vi j.m,Vi j.s,Vq j.lo,Vq j.hi,.pointer j.p] 85)=w5 at*;generalize w4.heap.size=qn at*;refine(ahd _).mono ?_;rintro e w6 ⟨rfl,x6⟩;have Z:=x5.trans x6;have I:=bx.out.ext Z;have u:=br.out.ext Z;obtain⟨k0,k1,k2,k3,k4,k5,k6,k7,k8⟩:=(bn.out.ext x6).cells;obtain⟨z0,z1,z2,z3,z4,z5,z6,z7,z8⟩:=I.cells;have f0:=I.thaw 0;have f1:=I.thaw 1;have f2:=I.thaw 2;have f3:=I.thaw 3;have f4:=I.thaw 4;have f5:=I.thaw 5;have f6:=I.thaw 6;have f7:=I.thaw 7;have f8:=I.thaw 8;have H:=ah (show BxL (vR w6 J j) J j/\BxL (vR w6 J j) (J+1) zLv/\NwL F s L (M++[(c,q)]) (vR w6 J j) j/\(vR w6 J j).heap[bi]? =some (.cells #[Vu c,Vu f,Vu t] 98 (0,0))/\Ext w (vR w6 J j)/\s<=(vR w6 J j).heap.size from
            ⟨I.put j,(sH w6 J j).blk u ω,(a6.out.ext x6).rx (sH w6 J j) d1.out ω,(sH w6 J j).blk (Z.blk bo.out) ω,RX.down (hx.out.trans Z) (by rw[a1.out];exact aD _) (sH w6 J j),aM K (aM Z.size (sH w6 J j).size)⟩)
           clear I u a6 bn x5 x6 Z b9 x4 bx br hx bo o0 o2;go_wp2
           go_roundw
           case rel=>exact⟨q+1,j,_,ν,ω,ω,ah H.out.1,ah H.out.2.1,ah H.out.2.2.1,O,ah H.out.2.2.2.1,ah H.out.2.2.2.2.1,H.out.2.2.2.2.2⟩
           case measure=>simp[intOf];omega
         ·have g1:decide (q<t)=false:=decide_eq_false d5
          have O:=ah (show Mk1 L U M (λa=>decide (a.1=c/\f<=a.2/\a.2<t)) from λa Y=>by
           rw[N.out a Y]
           congr 1
           rw[decide_eq_decide];constructor
           ·exact λg=>⟨g.1,g.2.1,ω⟩
           ·exact λg=>⟨g.1,g.2.1,ω⟩)
          clear N
          go_wp2_with fail
          go_meet;exact⟨z,M,bx,br,hN,O,hx,K⟩
   case rest=>
        obtain⟨zn,M,bx,br,hN,N,hx,K⟩:=hcut;clear bo b5 b6 b3 a8 a0 d9 q0 q1 q2;go_wp2
        go_roundw
        case rel=>exact⟨k+1,zn,M,ω,ν,bx,br,hN,ah (d3.out M N.out),hx,K⟩
        case measure=>simp[intOf];omega
  ·obtain rfl:k=nd:=ω
   have a2:D.take k=D:=bI (by rw[hn.out];exact aD _);have b8:=ah (show Mk1 L G U (λa=>oL D a.1 a.2) from λa Y=>by have:=a5.out a Y;rw[a2] at this;exact this);obtain⟨k0,k1,k2,k3,k4,k5,k6,k7,k8⟩:=bx.out.cells;have u:=br.out;have f0:=u.thaw 0;have f1:=u.thaw 1;have f2:=u.thaw 2;have f3:=u.thaw 3;have f4:=u.thaw 4;have f5:=u.thaw 5;have f6:=u.thaw 6;have f7:=u.thaw 7;have f8:=u.thaw 8;obtain⟨z0,z1,e1,z3,z4,z5,z6,z7,z8⟩:=u.cells;have b2:=sH wr (J+1) z;obtain⟨j0,j1,j2,j3,j4,j5,j6,j7,j8⟩:=(u.put z).cells;have H:=ah (show NwL F w.heap.size L U (vR wr (J+1) z) z/\Ext w (vR wr (J+1) z) from by
        have h1:=hN.out.rx b2 (λb hb=>Nat.lt_succ_of_lt (d1.out b hb)) ω;obtain⟨F1,h2,h3⟩:=h1;exact⟨⟨F1,h2,λb hb=>(h3 b hb).imp id λh=>by rw[a1.out];omega⟩,RX.down hx.out (by rw[a1.out];omega) b2⟩)
   clear hN hx a2 b2 br bx u a5
   go_wp2_with fail
   exact aN (v:= .tuple #[lsv z,.nilIface]) (by simp[dK,Tryz.results76,go_sem,j0,j1,j2,j3,j4,j5,j6,j7,j8]) rfl ⟨z,rfl,U,H.out.1,b8.out,H.out.2⟩
end
section
variable {i:Nat} {l:List It}
theorem Wn {a b c d:Int}:rE a b c d<0↔ltI (a,b) (c,d)=true:=by
 rw[wu];unfold rE wJ;simp only
 repeat' split
 all_goals omega
theorem R4 {a b c d:Int}:rE a b c d=0↔(a,b)=(c,d):=by
 rw[Prod.mk.injEq];unfold rE wJ
 repeat' split
 all_goals omega
theorem MW (x:It) (c t:Int) (w:aj):aX Tryz.prog 139 #[itv x,idv c t] w λe w'=>e= .returned (Vi (rE x.c x.k c t))/\Ext w w':=by
 have x2:Ext w ((w.alloc (.cells #[Vu x.c,Vu x.k,Vu x.lc,Vu x.lk,Vu x.rc,Vu x.rk,.int .i32 x.ch] 57)).alloc (.cells #[Vu c,Vu t] 55)):=((Ext.refl w).alloc _).alloc _;have a:=ah (Pm x.c x.k c t ((w.alloc (.cells #[Vu x.c,Vu x.k,Vu x.lc,Vu x.lk,Vu x.rc,Vu x.rk,.int .i32 x.ch] 57)).alloc (.cells #[Vu c,Vu t] 55)));go_enter Tryz.func139,Tryz.ntmps139
 go_wp2_with fail
 refine a.out.mono ?_;rintro e w' ⟨rfl,x⟩;go_wp2;go_ret;exact⟨rfl,x2.trans x⟩
theorem zw (h:uE l) {j:Nat} {x y:It} (hi:l[i]? =some x) (f:l[j]? =some y) (a:i<j):ltI (iid x) (iid y)=true:=by
 obtain⟨l1,u⟩:=aF.1 hi;obtain⟨e,q⟩:=aF.1 f;have:=List.pairwise_iff_getElem.1 h i j l1 e a;rwa[u,q] at this
theorem Tc (h:uE l) {a:I2} (H:∀j x,j<i->l[j]? =some x->ltI (iid x) a=true) (z:∀j x,i<=j->l[j]? =some x->ltI (iid x) a=false):nZ l a=match l[i]? with|some x=>decide (iid x=a)|none=>false:=by
 have key:∀j x,l[j]? =some x->iid x=a->j=i:=λj x f e=>by
  rcases Nat.lt_trichotomy j i with g|g|g
  ·have:=H j x g f
   rw[e] at this;exact absurd this (EJ a)
  ·exact g
  ·obtain⟨I,_⟩:=aF.1 f
   have hi:l[i]? =some (l[i]'(by omega)):=aO ω;have q:=zw h hi f g;rw[e,z i _ (aD _) hi] at q;cases q
 rw[gu,oP];constructor
 ·rintro⟨x,u,e⟩
  obtain⟨j,f⟩:=List.mem_iff_getElem?.1 u;have:=key j x f e;subst this;rw[f];exact decide_eq_true e
 ·intro q
  cases hi:l[i]? with
  |none=>rw[hi] at q;cases q
  |some x=>
   rw[hi] at q;exact⟨x,aP hi,of_decide_eq_true q⟩
def YQ (l:List It) (a:I2) (e:Ending):Prop:=∃i:Nat,e= .returned (.tuple #[Vi (i:Int),.bool (nZ l a)])/\(nZ l a=true->∃x,l[i]? =some x/\iid x=a)
theorem U9 {a:I2} {x:It} (hi:l[i]? =some x) (e:iid x=a):nZ l a=true/\(nZ l a=true->∃x,l[i]? =some x/\iid x=a):=
 ⟨oP.2 ⟨x,aP hi,e⟩,λ_=>⟨x,hi,e⟩⟩
theorem Qn (A:Option Addr) (n cap:Nat) (l:List It) (c t:Int) (w:aj) (hv:ItS w A l) (hn:l.length=n) (hm:uE l) (hb:n<=400000):
  aX Tryz.prog 138 #[.slice A n cap,idv c t,.func (.func 139) #[] #[]] w λe w'=>YQ l (c,t) e/\Ext w w':=by
 replace hn:=ah hn;replace hv:=ah hv;replace hm:=ah hm;go_enter Tryz.func138,Tryz.ntmps138;go_wp2;have x0:Ext w (w.alloc (bF #[aG aA c,aG aA t] 55)):=(Ext.refl _).alloc _;have q0:(w.alloc (bF #[aG aA c,aG aA t] 55)).cell? ⟨w.heap.size,0,none⟩=some (Vu c):=σ
 have q1:(w.alloc (bF #[aG aA c,aG aA t] 55)).cell? ⟨w.heap.size,1,none⟩=some (Vu t):=σ
 generalize w.alloc (bF #[aG aA c,aG aA t] 55)=W0 at*;generalize w.heap.size=pt at*
 go_loopg [9,10] n (λkx s9 a2 wr=>∃lo hi:Nat,s9= .int .i64 lo/\a2= .int .i64 hi/\lo<=hi/\hi<=n/\hi-lo<=kx/\Ext W0 wr/\
  Hid ((∀j p,j<lo->l[j]? =some p->ltI (iid p) (c,t)=true)/\(∀j p,hi<=j->l[j]? =some p->ltI (iid p) (c,t)=false)))
 case atStart=>exact⟨0,n,rfl,rfl,cK _,aD _,ω,Ext.refl _,ah ⟨λj p ht=>absurd ht (Nat.not_lt_zero _),λj p h1 h2=>by
  rw[eF (by rw[hn.out];exact h1)] at h2;cases h2⟩⟩
 case round=>
  obtain⟨lo,hi,rfl,rfl,a8,hin,hg,X,I⟩:=hrel;have s0:=av (X.keep q0);have s1:=av (X.keep q1);by_cases a7:lo<hi
  ·obtain⟨u,a1⟩:∃u:Nat,u=(lo+hi)/2:=⟨_,rfl⟩
   obtain⟨b,o,x,rfl,U,c0,c1,c2,c3,c4,c5,c6⟩:=(hv.out.ext (x0.trans X)).at (k:=u) (by rw[hn.out];omega);replace U:=ah U;replace c0:=av c0;replace c1:=av c1;replace c2:=av c2;replace c3:=av c3;replace c4:=av c4;replace c5:=av c5;replace c6:=av c6;have f:=λW=>MW x c t W
   obtain⟨q,Q⟩:∃q,rE x.c x.k c t=q:=⟨_,rfl⟩;rw[Q] at f;replace f:=ah f;have yM:((lo:Int)+(hi:Int))/2=(u:Int):=ω
   have a9:lo<=u/\u<hi:=ω
   have a6:(0:Int)<=(u:Int):=ω
   have a5:(u:Int)<(n:Int):=ω
   clear a1;replace yM:=ah yM;by_cases N:q<0
   ·have a0:decide (q<0)=true:=by simpa using N
    replace Q:=ah (show ltI (iid x) (c,t)=true from Wn.1 (by rw[Q];exact N));have H:=ah (show(∀j p,j<u+1->l[j]? =some p->ltI (iid p) (c,t)=true)/\(∀j p,hi<=j->l[j]? =some p->ltI (iid p) (c,t)=false) from⟨λj p hj J=>by
     rcases dD j u with g|g
     ·exact vV (zw hm.out J U.out g) Q.out
     ·have e:j=u:=ω
      subst e;rw[U.out] at J;injection J with J;subst J;exact Q.out,I.out.2⟩)
    go_wp2_with fail
    rw[yM.out];clear yM;refine aL κ κ ?_
    repeat go_big_quiet_step((with_reducible exact Calls.oh (f.out _)))
    refine bQ ?_;intro _ M;obtain⟨⟨Y,osq⟩,z⟩:=M;subst z;have x1:=Ext.nX wr Y osq;go_wp2
    go_roundg (hi-(u+1))
    case measure=>omega
    case rel=>exact⟨u+1,hi,ν,rfl,ω,hin,aD _,X.trans x1,H⟩
   ·have a0:decide (q<0)=false:=by simpa using N
    replace Q:=ah (show ltI (iid x) (c,t)=false from lG.2 λg=>N (by rw[<-Q];exact Wn.2 g));have H:=ah (show(∀j p,j<lo->l[j]? =some p->ltI (iid p) (c,t)=true)/\(∀j p,u<=j->l[j]? =some p->ltI (iid p) (c,t)=false) from⟨I.out.1,λj p hj J=>by
     rcases dD u j with g|g
     ·refine lG.2 λh=>?_
      have:=vV (zw hm.out U.out J g) h;rw[Q.out] at this;cases this
     ·have e:j=u:=ω
      subst e;rw[U.out] at J;injection J with J;subst J;exact Q.out⟩)
    go_wp2_with fail
    rw[yM.out];clear yM;refine aL κ κ ?_
    repeat go_big_quiet_step((with_reducible exact Calls.oh (f.out _)))
    refine bQ ?_;intro _ M;obtain⟨⟨Y,osq⟩,z⟩:=M;subst z;have x1:=Ext.nX wr Y osq;go_wp2
    go_roundg (u-lo)
    case measure=>omega
    case rel=>exact⟨lo,u,rfl,rfl,ω,ω,aD _,X.trans x1,H⟩
  ·obtain rfl:hi=lo:=ω
   have hf:=ah (Tc (a:=(c,t)) (i:=hi) hm.out I.out.1 I.out.2);by_cases O:hi<n
   ·obtain⟨b,o,x,rfl,U,c0,c1,c2,c3,c4,c5,c6⟩:=(hv.out.ext (x0.trans X)).at (k:=hi) (by rw[hn.out];exact O)
    replace c0:=av c0;replace c1:=av c1;replace c2:=av c2;replace c3:=av c3;replace c4:=av c4;replace c5:=av c5;replace c6:=av c6;have a6:(0:Int)<=(hi:Int):=ω
    have a5:(hi:Int)<(n:Int):=ω
    have a4:decide ((hi:Int)<(n:Int))=true:=by simpa using O
    have a3:decide (hi<n)=true:=by simpa using O
    have f:=λW=>MW x c t W
    have K:=hf.out;rw[U] at K;simp only at K;obtain⟨q,Q⟩:∃q,rE x.c x.k c t=q:=⟨_,rfl⟩;rw[Q] at f;replace f:=ah f;clear hf;by_cases N:q=0
    ·subst N
     have he:iid x=(c,t):=R4.1 Q;have H:=ah (show YQ l (c,t) (.returned (.tuple #[.int .i64 (hi:Nat),.bool true])) from⟨hi,by rw[(U9 U he).1],(U9 U he).2⟩);clear U Q he K
     go_wp2_with fail
     refine aL κ κ ?_
     repeat go_big_quiet_step((with_reducible exact Calls.oh (f.out _)))
     refine bQ ?_;intro _ M;obtain⟨⟨Y,osq⟩,z⟩:=M;subst z;have x1:=Ext.nX wr Y osq;go_wp2
     go_ret2
     exact⟨H.out,(x0.trans X).trans x1⟩
    ·have a0:(q==0)=false:=by simpa using N
     have Z:nZ l (c,t)=false:=by rw[K,decide_eq_false_iff_not];exact λe=>N (by rw[<-Q];exact R4.2 e)
     have H:=ah (show YQ l (c,t) (.returned (.tuple #[.int .i64 (hi:Nat),.bool false])) from⟨hi,by rw[Z],λe=>by rw[Z] at e;cases e⟩);clear U Q K N Z
     go_wp2_with fail
     refine aL κ κ ?_
     repeat go_big_quiet_step((with_reducible exact Calls.oh (f.out _)))
     refine bQ ?_;intro _ M;obtain⟨⟨Y,osq⟩,z⟩:=M;subst z;have x1:=Ext.nX wr Y osq;go_wp2
     go_ret2
     exact⟨H.out,(x0.trans X).trans x1⟩
   ·have K:=hf.out
    rw[eF (by rw[hn.out];omega)] at K;have H:=ah (show YQ l (c,t) (.returned (.tuple #[.int .i64 (hi:Nat),.bool false])) from⟨hi,by rw[K],λe=>by rw[K] at e;cases e⟩);have a3:decide (hi<n)=false:=by simpa using O
    have a4:decide ((hi:Int)<(n:Int))=false:=by simpa using O
    clear hf K
    go_wp2_with fail
    refine aL κ κ ?_
    repeat go_big_quiet_step((fail))
    refine bQ ?_;intro _ M;obtain⟨⟨Y,osq⟩,z⟩:=M;subst z;have x1:=Ext.nX wr Y osq;go_wp2
    go_ret2
    exact⟨H.out,(x0.trans X).trans x1⟩
end
section
variable {S:DS}
theorem ZK {l:List It} (h:uE l) {i:Nat} {x:It} {a:I2} (hi:l[i]? =some x) (e:iid x=a):yU l a=x:=by
 obtain⟨j,y,u,f,q⟩:=EX (oP.2 ⟨x,aP hi,e⟩);rw[Gl u f];rcases Nat.lt_trichotomy i j with g|g|g
 ·have:=zw h hi f g
  rw[e,q] at this;exact absurd this (EJ a)
 ·subst g
  rw[hi] at f;exact(fI f).symm
 ·have:=zw h f hi g
  rw[e,q] at this;exact absurd this (EJ a)
def itD (S:DS) (a:I2):It:=if nZ S.L a then yU S.L a else yU S.Wt a
theorem aaB {R:Nat->Prop} {w:aj} {d:Nat} {q:DM} (h:pK R w d S q) (hm:uE S.Wt) (hb:S.Wt.length<=400000) (c t:Int):aX Tryz.prog 104 #[.pointer (some ⟨d,0,none⟩),idv c t] w λe w'=>e= .returned (.tuple #[itv (itD S (c,t)),.bool (nZ S.L (c,t)||nZ S.Wt (c,t))])/\Ext w w':=by
 have x0:Ext w ((w.alloc (.cells #[Vu c,Vu t] 55)).alloc (.cells #[.int .u32 0,.int .u32 0,.int .u32 0,.int .u32 0,.int .u32 0,.int .u32 0,.int .i32 0] 57)):=((Ext.refl w).alloc _).alloc _;have q0:((w.alloc (.cells #[Vu c,Vu t] 55)).alloc (.cells #[.int .u32 0,.int .u32 0,.int .u32 0,.int .u32 0,.int .u32 0,.int .u32 0,.int .i32 0] 57)).cell? ⟨w.heap.size,0,none⟩=some (Vu c):=σ
 have q1:((w.alloc (.cells #[Vu c,Vu t] 55)).alloc (.cells #[.int .u32 0,.int .u32 0,.int .u32 0,.int .u32 0,.int .u32 0,.int .u32 0,.int .i32 0] 57)).cell? ⟨w.heap.size,1,none⟩=some (Vu t):=σ
 have bi:=pX.newL (w.alloc (.cells #[Vu c,Vu t] 55)) ⟨0,0,0,0,0,0,0⟩;rw[show(w.alloc (.cells #[Vu c,Vu t] 55)).heap.size=w.heap.size+1 by simp] at bi;have h2:=ah (h.ext x0);obtain⟨tt,ad,a8⟩:=h.ou.ls;replace a8:=ah (a8.ext x0);have H:=ah (h.ou.its.ext x0);replace bi:=ah bi;replace x0:=ah x0;obtain⟨B,hB⟩:∃B,nZ S.L (c,t)=B:=⟨_,rfl⟩;obtain⟨x,hX⟩:∃x,yU S.L (c,t)=x:=⟨_,rfl⟩;have a2:(itD S (c,t)=if B=true then x else yU S.Wt (c,t)):=by unfold itD;rw[hB,hX]
 rw[hB];replace a2:=ah a2;clear h;go_enter Tryz.func104,Tryz.ntmps104
 go_wp2_with fail
 generalize(w.alloc (.cells #[Vu c,Vu t] 55)).alloc (.cells #[.int .u32 0,.int .u32 0,.int .u32 0,.int .u32 0,.int .u32 0,.int .u32 0,.int .i32 0] 57)=W2 at*;have hps:w.heap.size<=w.heap.size+1:=Nat.le_succ _;have d4:=bi.out.lt;generalize w.heap.size+1=pi at*;have d3:=x0.out.size;generalize d1:w.heap.size=pt at*;replace hps:w.heap.size<=pi:=by rw[d1];exact hps
 obtain⟨c2,c3,c4,c5,c6,c7,c8,c9,c10⟩:=h2.out.BN;have a3:=ah (λ(W:aj) (e:Ext W2 W)=>(a8.out.ext e).item c t);rw[hB,hX] at a3;refine tY 11 10 [rwI 5 (.tuple #[itv x,.bool B]),rwB 9 (λz9 W=>∃q,z9=Vp q/\W2.heap.size<=q/\pX W q ⟨0,0,0,0,0,0,0⟩),rw2 10 9 (λ_ v W=>∃q,v=Vp q/\W2.heap.size<=q/\pX W q x)] (Ext W2) (λ_=>True) Ext (λ_ _=>True) ((Ext.refl _).drew) trivial (λ_ _=>Ext.trans) (λ_ _ _ _=>trivial)
  ⟨(λ_ _ _ _ h _=>h),(λ_ _ _ _ _ _ h _=>h),(by rintro _ _ _ _ ⟨q,h1,h2,h3⟩ e;exact⟨q,h1,h2,e.blk h3⟩),(λh=>by cases h),(by rintro _ _ _ _ ⟨q,h1,h2,h3⟩ e;exact⟨q,h1,h2,e.blk h3⟩),(λ_ h=>absurd rfl h),trivial⟩ λρ hI=>?_
 refine .s1 5 false [] (λW z _ _=>by
  have e2:=z.keep c2;have e3:=z.keep c3;have e4:=z.keep c4;have e5:=z.keep c5;have e6:=z.keep c6;have e7:=z.keep c7;have e8:=z.keep c8;have e9:=z.keep c9;have d8:=z.keep c10;have a0:=z.keep q0;have a1:=z.keep q1;exact oz) ?_
 refine .kv1 hI 0 _ (λW hx=>a3.out W hx) ?_;refine .s1 3 false [] (λW z _ _=>oz) ?_;refine .o1 1 false [] (λW hx _ _ N hN=>?_) ?_
 ·go_simp
  exact hN _ _ (λ_ e=>by cases e) ⟨_,rfl,hx.size,pX.newL W ⟨0,0,0,0,0,0,0⟩⟩ ((Ext.refl W).alloc _)
 refine .o0 2 [1] (λW hx _ f N hN=>?_) ?_
 ·obtain⟨⟨qb,b0,Z,I⟩,_⟩:=f
  have b0:ρ 9=_:=b0;obtain⟨k0,k1,k2,k3,k4,k5,k6⟩:=I.cells;simp only[bH] at k0 k1 k2 k3 k4 k5 k6;have f0:=I.qF 0;have f1:=I.qF 1;have f2:=I.qF 2;have f3:=I.qF 3;have f4:=I.qF 4;have f5:=I.qF 5;have f6:=I.qF 6;have b5:=I.all x.c x.k x.lc x.lk x.rc x.rk x.ch
  go_simp
  exact hN _ _ (λ_ e=>by cases e) ⟨qb,b0,Z,b5⟩ (((((((hx.setCell Z _).setCell Z _).setCell Z _).setCell Z _).setCell Z _).setCell Z _).setCell Z _) trivial
 refine .fin λW hR ⟨_,_,pE,_⟩=>?_
 obtain⟨qn,eq,d2,a9⟩:=pE rfl;rw[show ρ 9=_ from eq];clear a3;have u:=bi.out.ext hR;replace h2:=ah (h2.out.ext hR);replace H:=ah (H.out.ext hR);have z:=ah (x0.out.trans hR);replace q0:=hR.keep q0;replace q1:=hR.keep q1;clear c2 c3 c4 c5 c6 c7 c8 c9 c10 hR pE bi x0 a8;obtain⟨k0,k1,k2,k3,k4,k5,k6⟩:=u.cells;simp only[bH] at k0 k1 k2 k3 k4 k5 k6;have f0:=u.qF 0;have f1:=u.qF 1;have f2:=u.qF 2;have f3:=u.qF 3;have f4:=u.qF 4;have f5:=u.qF 5;have f6:=u.qF 6;cases B with
 |true=>
  obtain⟨n0,n1,n2,n3,n4,n5,n6⟩:=a9.cells;simp only[bH] at n0 n1 n2 n3 n4 n5 n6;obtain⟨Y,X,U,Q,O,M,J⟩:=(u.all x.c x.k x.lc x.lk x.rc x.rk x.ch).cells;simp only[bH] at Y X U Q O M J;have hz:=ah (bq Y (bq X (bq U (bq Q (bq O (bq M J))))));clear u Y X U Q O M J hB a9 h2 H;go_wp2;obtain⟨Y,X,U,Q,O,M,J⟩:=hz.out;exact aN (v:= .tuple #[itv x,.bool true]) (by simp[dK,Tryz.results104,go_sem,Y,X,U,Q,O,M,J]) rfl ⟨by rw[a2.out];rfl,((((((z.out.setCell hps _).setCell hps _).setCell hps _).setCell hps _).setCell hps _).setCell hps _).setCell hps _⟩
 |false=>
  clear a9;have b7:=h2.out.cell (j:=12) (v:= .slice q.B S.Wt.length q.cb) rfl;obtain⟨b2,a4⟩:∃b2,nZ S.Wt (c,t)=b2:=⟨_,rfl⟩;have b4:=ah (λ(W':aj) (e:Ext W W')=>Qn q.B S.Wt.length q.cb S.Wt c t W' (H.out.ext e) rfl hm hb);replace a4:=ah a4
  go_wp2_with fail
  refine qX 10 [rw1 5 (λv _=>YQ S.Wt (c,t) (.returned v)),rw1 7 (λv _=>∃i:Nat,v=Vi (i:Int)/\(b2=true->∃x,S.Wt[i]? =some x/\iid x=(c,t))),rwI 8 (.bool b2)] ⟨λ_ _ _ _ h _=>h,λ_ _ _ _ h _=>h,λ_ _ _ _ h _=>h,trivial⟩ λρ hI=>?_
  refine .s 5 (λW z _=>by
   have d7:=z.keep b7;have a0:=z.keep q0;have a1:=z.keep q1;exact oz) ?_
  refine .k 0 (R:=λv _=>YQ S.Wt (c,t) (.returned v)) (λW' hx=>(b4.out W' hx).mono (by rintro e w1 ⟨⟨i,rfl,h1⟩,h2⟩;exact⟨_,rfl,⟨i,rfl,h1⟩,h2⟩)) ?_;refine .s 1 (λW z _=>oz) ?_;refine .o 1 [0] (λW hx y f N hN=>?_) ?_
  ·obtain⟨⟨i,hi,h1⟩,_⟩:=f
   have hi:ρ 5=_:=lQ hi;rw[a4.out] at h1
   go_simp
   exact hN _ _ (λ_ e=>by cases e) ⟨i,rfl,h1⟩ (Ext.refl _)
  refine .v hI 2 [0] _ (λW hx y f N hN=>?_) ?_
  ·obtain⟨⟨i,hi,h1⟩,_⟩:=f
   have hi:ρ 5=_:=lQ hi;rw[a4.out] at hi
   go_simp
   exact hN _ (Ext.refl _)
  refine .s 1 (λW z _=>oz) ?_;refine .fin λW4 hR ⟨_,⟨i,hi,hx⟩,_⟩=>?_
  rw[show ρ 7=_ from hi];have a:=u.ext hR;replace h2:=ah (h2.out.ext hR);have b9:=h2.out.cell (j:=12) (v:= .slice q.B S.Wt.length q.cb) rfl;have b6:=ah (z.out.trans hR);obtain⟨k0,k1,k2,k3,k4,k5,k6⟩:=a.cells;simp only[bH] at k0 k1 k2 k3 k4 k5 k6;have g0:=a.qF 0;have g1:=a.qF 1;have g2:=a.qF 2;have g3:=a.qF 3;have g4:=a.qF 4;have g5:=a.qF 5;have g6:=a.qF 6;have b1:=ah (H.out.ext hR);clear H b4 z q0 q1 f0 f1 f2 f3 f4 f5 f6 u b7 h2;cases b2 with
  |true=>
   obtain⟨x,a7,b3⟩:=hx rfl;have a5:yU S.Wt (c,t)=x:=ZK hm a7 b3;have b8:i<S.Wt.length:=(aF.1 a7).1;obtain⟨bb,oo,x',e',a6,m0,m1,m2,m3,m4,m5,m6⟩:=b1.out.at b8;obtain rfl:x'=x:=by rw[a7] at a6;injection a6 with a6;exact a6.symm
   rw[e'] at b9;have d6:(0:Int)<=(i:Int):=ω
   have d5:(i:Int)<(S.Wt.length:Int):=ω
   obtain⟨Y,X,U,Q,O,M,J⟩:=(a.all x'.c x'.k x'.lc x'.lk x'.rc x'.rk x'.ch).cells;simp only[bH] at Y X U Q O M J;have hz:=ah (bq Y (bq X (bq U (bq Q (bq O (bq M J))))));replace a5:=ah a5;clear a Y X U Q O M J hB hx a7 b3 a6 b1 e' hR;go_wp2;obtain⟨Y,X,U,Q,O,M,J⟩:=hz.out;exact aN (v:= .tuple #[itv x',.bool true]) (by simp[dK,Tryz.results104,go_sem,Y,X,U,Q,O,M,J]) rfl ⟨by rw[a2.out,a4.out];simp[a5.out],((((((b6.out.setCell hps _).setCell hps _).setCell hps _).setCell hps _).setCell hps _).setCell hps _).setCell hps _⟩
  |false=>
   have a5:=ah (MS a4.out);obtain⟨Y,X,U,Q,O,M,J⟩:=(a.all 0 0 0 0 0 0 0).cells;simp only[bH] at Y X U Q O M J;have hz:=ah (bq Y (bq X (bq U (bq Q (bq O (bq M J))))));clear a Y X U Q O M J hB hx b1 hR hi;go_wp2;obtain⟨Y,X,U,Q,O,M,J⟩:=hz.out;exact aN (v:= .tuple #[itv ⟨0,0,0,0,0,0,0⟩,.bool false]) (by simp[dK,Tryz.results104,go_sem,Y,X,U,Q,O,M,J]) rfl ⟨by rw[a2.out,a4.out];simp[a5.out],((((((b6.out.setCell hps _).setCell hps _).setCell hps _).setCell hps _).setCell hps _).setCell hps _).setCell hps _⟩
theorem XT (x y:It) (W:aj):(binOp .neq 57 (.agg #[.int .u32 x.c,.int .u32 x.k,.int .u32 x.lc,.int .u32 x.lk,.int .u32 x.rc,.int .u32 x.rk,.int .i32 x.ch]) (.agg #[.int .u32 y.c,.int .u32 y.k,.int .u32 y.lc,.int .u32 y.lk,.int .u32 y.rc,.int .u32 y.rk,.int .i32 y.ch])).run Tryz.prog W= .ok (.bool (!eqI x y)) W:=by
 cases h:eqI x y with
 |true=>
  obtain rfl:=V6.1 h;simp[go_sem]
 |false=>
  have a:x≠y:=λe=>by rw[V6.2 e] at h;cases h
  cases x;cases y;simp only[ne_eq,It.mk.injEq,not_and] at a;clear h
  try simp only[Bool.not_false]
  go_simp
  exact a
theorem acv (S:DS) (x:It):itD S (iid x)=ae8 S x:=rfl
theorem Z7 {M:List It} {k:Nat} {x:It} (h:M[k]? =some x):rU S (M.take (k+1))=rU S (M.take k)++(if hasK S x=true then [] else [x]):=by
 unfold rU;rw[cZ,h,iC];cases hh:hasK S x <;> simp[hh]
def ajI (w:aj) (S:DS) (M:List It) (e:Ending) (w':aj):Prop:=∃v,e= .returned (.tuple #[v,qD (if M.any (Dr S)=true then 2 else 0)])/\(M.any (Dr S)=false->oZ w w' v (rU S M))/\Ext w w'
theorem M5 {R:Nat->Prop} {w:aj} {d:Nat} {q:DM} (h:pK R w d S q) (hm:uE S.Wt) (N:S.Wt.length<=400000) (A:Option Addr) (n cap:Nat) (M:List It) (hv:ItS w A M) (hn:M.length=n) (a8:n<=400000):
  aX Tryz.prog 70 #[.pointer (some ⟨d,0,none⟩),.slice A n cap] w (ajI w S M):=by
 replace hn:=ah hn;replace hv:=ah hv;replace h:=ah h;replace hm:=ah hm;have c0:=h.out.cell (j:=0) (v:=Vu S.cl) rfl;go_enter Tryz.func70,Tryz.ntmps70;go_wp2
 go_loopw [6,13] (λv i W=>∃(k:Nat),k<=n/\i=Vi k/\Hid (∀y∈M.take k,Dr S y=false)/\oZ w W v (rU S (M.take k))/\Ext w W) (λ_ i _=>n-(intOf i).toNat)
 case atStart=>exact⟨0,cK _,rfl,ah (λy J=>by simp at J),oZ.nil _ _,Ext.refl _⟩
 case round=>
  obtain⟨k,hk,rfl,hB,H,O⟩:=hrel;by_cases a3:k<n
  ·obtain⟨b,o,x,rfl,Y,m0,m1,m2,m3,m4,m5,m6⟩:=(hv.out.ext O).at (k:=k) (by rw[hn.out];exact a3)
   have a7:(0:Int)<=(k:Int):=ω
   have a6:(k:Int)<(n:Int):=ω
   have K:=ah (O.alloc (.cells #[Vu x.c,Vu x.k,Vu x.lc,Vu x.lk,Vu x.rc,Vu x.rk,.int .i32 x.ch] 57));have bx:=ah (pX.newL wr x);replace Y:=ah Y;replace H:=ah H;replace O:=ah O;have f:=ah (λ(W:aj) (e:Ext w W)=>aaB (h.out.ext e) hm.out N x.c x.k);rw[show((x.c,x.k):I2)=iid x from rfl,acv,show(nZ S.L (iid x)||nZ S.Wt (iid x))=hasK S x from rfl] at f;obtain⟨y,J⟩:∃y,ae8 S x=y:=⟨_,rfl⟩;obtain⟨g,hg⟩:∃g,hasK S x=g:=⟨_,rfl⟩;rw[J,hg] at f
   go_wp2_with fail
   refine(f.out _ (K.out)).mono ?_;rintro e w1 ⟨rfl,x1⟩;replace bx:=bx.out.ext x1;have X:=ah (K.out.trans x1);have z:=ah (X.out.alloc (.cells #[Vu y.c,Vu y.k,Vu y.lc,Vu y.lk,Vu y.rc,Vu y.rk,.int .i32 y.ch] 57));have Q:=ah (pX.newL w1 y);have U:=ah (bx.ext ((Ext.refl _).alloc (.cells #[Vu y.c,Vu y.k,Vu y.lc,Vu y.lk,Vu y.rc,Vu y.rk,.int .i32 y.ch] 57)));replace H:=ah (H.out.ext ((((Ext.refl wr).alloc _).trans x1).alloc (.cells #[Vu y.c,Vu y.k,Vu y.lc,Vu y.lk,Vu y.rc,Vu y.rk,.int .i32 y.ch] 57)));have Z:=ah (XT y x);obtain⟨b,N⟩:∃b,Dr S x=b:=⟨_,rfl⟩;have a:b=if g=true then !eqI y x else decide (x.c=S.cl):=by rw[<-N,<-hg,<-J];rfl
   clear x1 bx K X m0 m1 m2 m3 m4 m5 m6;have e0:=z.out.keep c0
   go_wp2_with fail
   generalize w1.alloc (.cells #[Vu y.c,Vu y.k,Vu y.lc,Vu y.lk,Vu y.rc,Vu y.rk,.int .i32 y.ch] 57)=W3 at*;generalize w1.heap.size=pk at*;generalize wr.heap.size=px at*;obtain⟨y0,y1,y2,y3,y4,y5,y6⟩:=Q.out.cells;obtain⟨x0,x1,x2,x3,x4,x5,x6⟩:=U.out.cells;simp only[bH] at y0 y1 y2 y3 y4 y5 y6 x0 x1 x2 x3 x4 x5 x6;cases b with
   |true=>
    have u:=ah (show M.any (Dr S)=true from List.any_eq_true.2 ⟨x,aP Y.out,N⟩);clear N f Q U H hB;cases g with
    |true=>
     rw[if_pos rfl] at a;have a4:∀W,(binOp .neq 57 (.agg #[.int .u32 y.c,.int .u32 y.k,.int .u32 y.lc,.int .u32 y.lk,.int .u32 y.rc,.int .u32 y.rk,.int .i32 y.ch]) (.agg #[.int .u32 x.c,.int .u32 x.k,.int .u32 x.lc,.int .u32 x.lk,.int .u32 x.rc,.int .u32 x.rk,.int .i32 x.ch])).run Tryz.prog W= .ok (.bool true) W:=λW=>by rw[Z.out W,<-a]
     clear a
     go_quiet(fail)
     go_wp2;refine aN (v:= .tuple #[.slice none 0 0,qD 2]) (by simp[dK,Tryz.results70,go_sem,qD]) rfl ⟨.slice none 0 0,by rw[if_pos u.out],λe=>(by rw[u.out] at e;cases e),z.out.drewN _⟩
    |false=>
     rw[if_neg δ] at a;have a2:(x.c==S.cl)=true:=by simpa using a.symm
     clear a
     go_quiet(fail)
     go_wp2;refine aN (v:= .tuple #[.slice none 0 0,qD 2]) (by simp[dK,Tryz.results70,go_sem,qD]) rfl ⟨.slice none 0 0,by rw[if_pos u.out],λe=>(by rw[u.out] at e;cases e),z.out.drewN _⟩
   |false=>
    have a1:=ah (show∀y∈M.take (k+1),Dr S y=false from λy J=>by
     rw[cZ,Y.out] at J;rcases List.mem_append.1 J with h|h
     ·exact hB.out y h
     ·rw[show y=x by simpa using h];exact N)
    have I:=ah (Z7 (S:=S) Y.out);rw[hg] at I;clear N f Q U hB;cases g with
    |true=>
     rw[if_pos rfl,bZ] at I;rw[if_pos rfl] at a;have a4:∀W,(binOp .neq 57 (.agg #[.int .u32 y.c,.int .u32 y.k,.int .u32 y.lc,.int .u32 y.lk,.int .u32 y.rc,.int .u32 y.rk,.int .i32 y.ch]) (.agg #[.int .u32 x.c,.int .u32 x.k,.int .u32 x.lc,.int .u32 x.lk,.int .u32 x.rc,.int .u32 x.rk,.int .i32 x.ch])).run Tryz.prog W= .ok (.bool false) W:=λW=>by rw[Z.out W,<-a]
     clear a
     go_quiet(fail)
     go_wp2
     go_roundw
     case rel=>exact⟨k+1,ω,ν,a1,by rw[I.out];exact H.out.ext ((Ext.refl _).drewN _),z.out.drewN _⟩
     case measure=>simp[intOf];omega
    |false=>
     rw[if_neg δ] at a I;have a2:(x.c==S.cl)=false:=by simpa using a.symm
     clear a;have a5:(rU S (M.take k)).length<=400000:=aM (List.length_filter_le _ _) (by rw[bN];omega)
     go_quiet(fail)
     go_wp2_with(at_builtin;refine qj (w0:=w) rfl (.tmp 47) (.tmp 49) rfl _ (rU S (M.take k)) rfl (H.out.ext (((Ext.refl _).drewN _).alloc _)) ((z.out.drewN _).alloc _) _ 1 1 [x] rfl rfl (ItS.new _ x) (by simp only[aH,aR];omega) ?_;intro v3 w3 o3 x3 _ _)
     go_roundw
     case rel=>exact⟨k+1,ω,ν,a1,by rw[I.out];exact o3,x3⟩
     case measure=>simp[intOf];omega
  ·obtain rfl:k=n:=ω
   have a0:M.take k=M:=bI (by rw[hn.out];exact aD _);rw[a0] at H hB;have u:=ah (show M.any (Dr S)=false by
        rw[lG];intro e;obtain⟨y,h1,h2⟩:=List.any_eq_true.1 e;rw[hB.out y h1] at h2;cases h2)
   replace H:=ah H;replace O:=ah O;go_wp2;exact aN (v:= .tuple #[u6,qD 0]) (by simp[dK,Tryz.results70,go_sem,qD]) rfl ⟨_,by rw[if_neg (by rw[u.out];decide)],λ_=>H.out,O.out⟩
end
end
section
attribute [local go_sem] au
theorem UK (A:Option Addr) (n cap:Nat) (l:List (Int×Int)) (w:aj) (hv:Vec w A l) (I:l.length=n) (U:n<=1200000):
  aX Tryz.prog 34 #[.slice A n cap] w (yP w l):=by
 have Q:∀(W:aj) (a:Option Addr) (n c j z:Nat),(binOp .eql 47 (.slice a n c) (.slice none j z)).run Tryz.prog W= .ok (.bool a.isNone) W:=λW a n c j z=>Lib.run_eql_slice_nil W _ _ a n c j z Tryz.underlying47
 cases A with
 |none=>
  have N:l=[]:=by
   cases l with
   |nil=>rfl
   |cons x l=>obtain⟨b,o,e,_⟩:=hv (by simp[flat,Gy]);cases e
  subst N;go_enter Tryz.func34,Tryz.ntmps34;go_wp2;go_ret;exact⟨_,_,_,rfl,rfl,λh=>by simp[flat] at h,Ext.refl _,aD _,λa e=>by cases e⟩
 |some a=>
  have H:=(Ext.refl w).alloc (.cells #[] 100);have q:=hv.ext H;have K:(w.alloc (.cells #[] 100)).ownsRow w.heap.size 100 2 (.slice (some ⟨w.heap.size,0,none⟩) 0 0) ([]:List (Int×Int)).length (flat Gy []):=
   ⟨rfl,.inr ⟨w.heap.size,0,#[],rfl,aD _,aT w _,aD _,by unfold maxLen;omega,rfl,rfl⟩⟩
  go_enter Tryz.func34,Tryz.ntmps34
  go_wp2_with(at_builtin;refine oH (w0:=w) rfl (.tmp 5) (.tmp 6) rfl _ [] rfl K H (some a) n cap l rfl I q (by simp only[aR];omega) ?_)
  intro J w3 f x3;replace f:w3.ownsRow w.heap.size 100 2 J l.length (flat Gy l):=by first|exact f|(rw[I];exact f)
  obtain⟨O,c3,rfl,u⟩:=Vec.own f;have i:=uy f rfl;replace u:=ah u;have M:=ah x3;replace i:=ah i;clear f x3;go_wp2;go_ret;exact⟨O,_,c3,rfl,rfl,u.out,M.out,i.out.1,i.out.2⟩
theorem UH (A:Option Addr) (n cap:Nat) (l:List (Int×Int×Int)) (w:aj) (hv:SpS w A l) (I:l.length=n) (U:n<=1200000):
  aX Tryz.prog 33 #[.slice A n cap] w (ae4 w l):=by
 have Q:∀(W:aj) (a:Option Addr) (n c j z:Nat),(binOp .eql 42 (.slice a n c) (.slice none j z)).run Tryz.prog W= .ok (.bool a.isNone) W:=λW a n c j z=>Lib.run_eql_slice_nil W _ _ a n c j z Tryz.underlying42
 cases A with
 |none=>
  have N:l=[]:=by
   cases l with
   |nil=>rfl
   |cons x l=>obtain⟨b,o,e,_⟩:=hv (by simp[flat,encS]);cases e
  subst N;go_enter Tryz.func33,Tryz.ntmps33;go_wp2;go_ret;exact⟨_,_,_,rfl,rfl,aD _,λh=>by simp[flat] at h,Ext.refl _,λa e=>by cases e⟩
 |some a=>
  have H:=(Ext.refl w).alloc (.cells #[] 98);have q:=hv.ext H;have K:(w.alloc (.cells #[] 98)).ownsRow w.heap.size 98 3 (.slice (some ⟨w.heap.size,0,none⟩) 0 0) ([]:List (Int×Int×Int)).length (flat encS []):=
   ⟨rfl,.inr ⟨w.heap.size,0,#[],rfl,aD _,aT w _,aD _,by unfold maxLen;omega,rfl,rfl⟩⟩
  go_enter Tryz.func33,Tryz.ntmps33
  go_wp2_with(at_builtin;refine rM (w0:=w) rfl (.tmp 5) (.tmp 6) rfl _ [] rfl K H (some a) n cap l rfl I q (by simp only[aR];omega) ?_)
  intro J w3 f x3 _;replace f:qg w w3 J l:=by first|exact f|(rw[I];exact f)
  obtain⟨O,c3,rfl,u⟩:=SpS.own f;have i:=uy f rfl;replace u:=ah u;have M:=ah x3;replace i:=ah i;clear f x3;go_wp2;go_ret;exact⟨O,_,c3,rfl,rfl,i.out.1,u.out,M.out,i.out.2⟩
theorem Yf (n:Nat) (w:aj) (I:n<=40000000):
  aX Tryz.prog 110 #[.slice none 0 0,Vi (n:Int)] w λe w'=>∃v,e= .returned v/\oZ w w' v []/\Ext w w':=by
 rcases Nat.eq_zero_or_pos n with q|q
 ·subst q
  refine(Any8.slices_Grow_room Tryz.growI none 0 0 0 w (aD _) ω ω (aD _)).mono ?_;rintro e w' ⟨rfl,rfl⟩;exact⟨_,rfl,oZ.nil _ _,Ext.refl _⟩
 ·obtain⟨i,hi,j,u,f⟩:=info_parts Q0
  refine(Any8.slices_Grow_grow Tryz.growI i _ hi j ω none 0 0 n [] w (aD _) ω (by rw[f];omega) ω ι (λ_=>rfl) (λa e=>by cases e)).mono ?_;rintro e w' ⟨rfl,rfl⟩;refine⟨_,rfl,⟨by simp[flat],.inr ⟨w.heap.size,_,_,rfl,aD _,aT (w.drew) _,cK _,grownCap_le_maxLen _ _ _ _ (by unfold maxLen;omega),?_,by simp[flat]⟩⟩,((Ext.refl w).drew).alloc _⟩;have z:=grownCap_ge w (0+n) 0 (Tryz.growI_ren.t 25);simp only[Array.size_append,size_zeroCells,List.size_toArray,aR];have H:(Value.agg #[aG aA 0,aG aA 0,aG aA 0,aG aA 0,aG aA 0,aG aA 0,aG IntKind.i32 0]).cells.size=7:=rfl;rw[H];omega
structure SlI where
 A:Option Addr
 c:Nat
 l:List It
def yu (ls:List SlI):Nat:=(ls.map λx=>x.l.length).sum
def Ig (ls:List SlI):List It:=ls.flatMap λx=>x.l
theorem R9:∀ls:List SlI,(Ig ls).length=yu ls
 |[]=>rfl
 |x::ls=>by
  have:=R9 ls;unfold Ig yu at*;simp[this]
theorem LH {ls:List SlI} {j:Nat} {x:SlI} (h:ls[j]? =some x):yu (ls.take (j+1))=yu (ls.take j)+x.l.length:=by
 rw[cZ,h];simp[yu]
theorem YC {ls:List SlI} {j:Nat} {x:SlI} (h:ls[j]? =some x):Ig (ls.take (j+1))=Ig (ls.take j)++x.l:=by
 rw[cZ,h];simp[Ig]
theorem Io:∀(ls:List SlI) (j:Nat),yu (ls.take j)<=yu ls
 |[],j=>by simp[yu]
 |x::ls,0=>by simp[yu]
 |x::ls,j+1=>by
  have h:=Io ls j;have e:yu ((x::ls).take (j+1))=x.l.length+yu (ls.take j):=by simp[yu]
  have a:yu (x::ls)=x.l.length+yu ls:=by simp[yu]
  omega
theorem R3 (b n cap:Nat) (ls:List SlI) (w:aj) (H:∀(j:Nat) (x:SlI),ls[j]? =some x->w.cell? ⟨b,j,none⟩=some (.slice x.A x.l.length x.c)/\ItS w x.A x.l) (q:ls.length=n) (a1:n<=400000) (hb:yu ls<=40000000):
  aX Tryz.prog 73 #[.slice (some ⟨b,0,none⟩) n cap] w λe w'=>∃v,e= .returned v/\oZ w w' v (Ig ls)/\Ext w w':=by
 have Q:=ah (λW=>Yf (yu ls) W hb);replace H:=ah H;replace q:=ah q;go_enter Tryz.func73,Tryz.ntmps73;go_wp2
 go_loopw [3,11] (λs i W=>∃(j:Nat),j<=n/\i=Vi j/\s=Vi (yu (ls.take j))/\w=W) (λ_ i _=>n-(intOf i).toNat)
 case atStart=>exact⟨0,cK _,rfl,rfl,rfl⟩
 case round=>
  obtain⟨j,hj,rfl,rfl,rfl⟩:=hrel;have a0:=Io ls j;by_cases M:j<n
  ·obtain⟨x,a⟩:∃x,ls[j]? =some x:=⟨ls[j]'(by rw[q.out];exact M),aO _⟩
   obtain⟨c0,_⟩:=H.out j x a;have u:=LH a;have f:=Io ls (j+1);have O:(0:Int)<=(j:Int):=ω
   have N:(j:Int)<(n:Int):=ω
   have J:=ah u;rw[u] at f;clear u a;generalize yu (ls.take j)=sj at*;generalize x.l.length=xl at*;go_wp2
   go_roundw
   case rel=>exact⟨j+1,ω,ν,by rw[J.out];go_num,trivial⟩
   case measure=>simp[intOf];omega
  ·obtain rfl:j=n:=ω
   have e:yu (ls.take j)=yu ls:=by rw[bI (by rw[q.out];omega)]
   rw[e]
   go_wp2_with fail
   refine(Q.out _).mono ?_;rintro e w1 ⟨v1,rfl,o1,x1⟩;go_wp2
   go_loopw [6,27] (λv i W=>∃(k:Nat),k<=j/\i=Vi k/\oZ w W v (Ig (ls.take k))/\Ext w W) (λ_ i _=>j-(intOf i).toNat)
   case atStart=>exact⟨0,cK _,rfl,o1,x1⟩
   case round=>
        clear o1 x1;obtain⟨k,hk,rfl,K,I⟩:=hrel;by_cases z:k<j
        ·obtain⟨x,a⟩:∃x,ls[k]? =some x:=⟨ls[k]'(by rw[q.out];exact z),aO _⟩
         obtain⟨c0,Z⟩:=H.out k x a;have c1:=I.keep c0;have Y:=Z.ext I;have u:=LH a;have f:=Io ls (k+1);have U:=R9 (ls.take k);have O:(0:Int)<=(k:Int):=ω
         have N:(k:Int)<(j:Int):=ω
         have J:=ah (YC a);have X:(Ig (ls.take k)).length+x.l.length<=40000000:=ω
         clear u f U a c0 Z
         go_wp2_with(at_builtin;refine qj (w0:=w) rfl (.tmp 31) (.tmp 32) rfl _ _ rfl K I x.A x.l.length x.c x.l rfl rfl Y X ?_;intro v3 w3 o3 x3 _ _)
         go_roundw
         case rel=>exact⟨k+1,ω,ν,by rw[J.out];exact o3,x3⟩
         case measure=>simp[intOf];omega
        ·obtain rfl:k=j:=ω
         have e2:Ig (ls.take k)=Ig ls:=by rw[bI (by rw[q.out];omega)]
         rw[e2] at K;go_wp2;go_ret;exact⟨_,rfl,K,I⟩
theorem yE {R:Nat->Prop} {w:aj} {d:Nat} {S:DS} {q:DM} (h:pK R w d S q) (i:S.V.length<=1200000):aX Tryz.prog 15 #[.pointer (some ⟨d,0,none⟩)] w (yP w S.V):=by
 have c:=h.cell (j:=11) (v:= .slice q.A S.V.length q.ca) rfl;have f:=ah (UK q.A _ q.ca S.V w h.ou.vec rfl i);go_enter Tryz.func15,Tryz.ntmps15
 go_wp2_with fail
 refine f.out.mono ?_;rintro e W' ⟨A,n,c,rfl,a⟩;replace a:=ah a;go_wp2;go_ret;exact⟨A,n,c,rfl,a.out⟩
end
section
attribute [local go_sem] au calm oK oG
theorem R5 (L:List It) (c:Int):∀(n:Nat) (k:Int),yY L c k (n+1)=yY L c k n++[yU L (c,k+n)]
 |0,k=>by simp[yY]
 |n+1,k=>by
  rw[yY,R5 L c n (k+1),yY,aV,show k+1+(n:Int)=k+((n+1:Nat):Int) by omega]
theorem NZ (L:List It) (v:List (Int×Int)):∀V U:List (Int×Int),xH L (V++U) v=xH L V v++xH L U v
 |[],U=>rfl
 |p::V,U=>by rw[aV,xH,xH,NZ L v V U,aY]
theorem Zz {L:List It} {v V:List (Int×Int)} {k:Nat} {c n:Int} (h:V[k]? =some (c,n)):xH L (V.take (k+1)) v=xH L (V.take k) v++yY L c (nW v c) (n-nW v c).toNat:=by
 rw[cZ,h,NZ];simp[xH]
theorem afg (L:List It) (v V:List (Int×Int)) (k:Nat):(xH L (V.take k) v).length<=(xH L V v).length:=by
 have:=NZ L v (V.take k) (V.drop k);rw[List.take_append_drop] at this;rw[this,ay];omega
theorem WZ {v:List (Int×Int)} {R:Nat->Prop} {w:aj} {d:Nat} {S:DS} {q:DM} (h:pK R w d S q) (Y:wfC S.V) (hV:S.V.length<=400000) (hN:(qV S v).length<=400000) (A:Option Addr) (n cap:Nat) (hv:Vec w A v) (hn:v.length=n) (hm:oq 0 v=true) (hb:n<=400000):
  aX Tryz.prog 32 #[.pointer (some ⟨d,0,none⟩),.slice A n cap] w (YR w (qV S v)):=by
 unfold qV at*;have b6:=h.cell (j:=11) (v:= .slice q.A S.V.length q.ca) rfl;obtain⟨c2,c3,c4,c5,c6,c7,c8,c9,c10⟩:=h.BN;have f7:=ah h.ou.vec;obtain⟨tt,ad,a1⟩:=h.ou.ls;replace a1:=ah a1;replace h:=ah h;replace hv:=ah hv;replace hm:=ah hm;replace hn:=ah hn;replace hN:=ah hN;replace Y:=ah Y;obtain⟨m,J⟩:∃m,S.V.length=m:=⟨_,rfl⟩;rw[J] at b6 hV;replace J:=ah J;generalize g6:S.L=L at*;generalize g5:S.V=V at*;generalize q.A=AV at*;go_enter Tryz.func32,Tryz.ntmps32;go_wp2
 go_loopw [5,16] (λtv i W=>∃(k:Nat),k<=m/\i=Vi (k:Nat)/\Hid (oZ w W tv (xH L (V.take k) v))/\Hid (Ext w W)) (λ_ i _=>m-(intOf i).toNat)
 case atStart=>exact⟨0,cK _,rfl,ah (oZ.nil _ _),ah (Ext.refl _)⟩
 case round=>
  obtain⟨k,hk,rfl,U,a⟩:=hrel;by_cases d9:k<m
  ·obtain⟨bb,oo,c,t,rfl,hp,q0,q1⟩:=(f7.out.ext a.out).at (k:=k) (by rw[J.out];exact d9)
   have d5:=Y.out (c,t) (aP hp);simp only at d5;have a6:=ah (Zz (L:=L) (v:=v) hp);have b1:=afg L v V (k+1);have b0:=aM b1 hN.out;clear b1;have g4:(0:Int)<=(k:Int):=ω
   have e0:(k:Int)<(m:Int):=ω
   have g3:decide ((k:Int)<(m:Int))=true:=decide_eq_true e0;have x1:Ext wr (wr.alloc (.cells #[Vu c,Vu t] 100)):=(Ext.refl _).alloc _;have X:=ah (show(wr.alloc (.cells #[Vu c,Vu t] 100)).heap[wr.heap.size]? =some (.cells #[Vu c,Vu t] 100 (0,0)) from aT wr _);have Z:=ah (U.out.ext x1);have Q:=ah (a.out.trans x1);have d8:=ah (sO c hm.out);have b3:=ah (λ(W:aj) (e:Ext w W)=>JC A n cap v c W (hv.out.ext e) hn.out hm.out hb);generalize a8:nW v c=s at*;replace a8:=ah a8;have I:=ah (show u5.ownBlock≠some wr.heap.size from λe=>by have:=(U.out.lt _ e).2;omega);clear U a x1 hp
   go_upto_block 1 with fail
   go_cut [5] (λtv wx=>Hid (oZ w wx tv (xH L (V.take (k+1)) v))/\Hid (Ext w wx))
   case first=>
        go_wp2_with fail
        generalize wr.alloc (.cells #[Vu c,Vu t] 100)=W3 at*;generalize wr.heap.size=O at*;refine(b3.out _ Q.out).mono ?_;rintro e w4 ⟨rfl,x4⟩;have a9:=ah (Z.out.ext x4);have a5:=ah (Q.out.trans x4);have b9:=ah (x4.blk X.out);clear X Z Q x4 q0 q1 b3 b6;go_wp2
        go_loopw [5,8] (λtv sv W=>∃(j:Nat),sv=Vu (s+(j:Int))/\j<=(t-s).toNat/\Hid (oZ w W tv (xH L (V.take k) v++yY L c s j))/\Hid (W.heap[O]? =some (.cells #[Vu c,Vu t] 100 (0,0)))/\Hid (Ext w W)/\Hid (tv.ownBlock≠some O)) (λ_ sv _=>(t-intOf sv).toNat)
        case atStart=>exact⟨0,ι,cK _,ah (by rw[yY,bZ];exact a9.out),b9,a5,I⟩
        case round=>
         clear a9 a5 b9 I;obtain⟨j,rfl,hj,U,X,a,I⟩:=hrel;have o0:wr.cell? ⟨O,0,none⟩=some (Vu c):=ak wr O 0 _ _ _ X.out;have o1:wr.cell? ⟨O,1,none⟩=some (Vu t):=ak wr O 1 _ _ _ X.out;by_cases d2:s+(j:Int)<t
         ·have g1:decide (s+(j:Int)<t)=true:=decide_eq_true d2
          obtain⟨x,hX⟩:∃x,yU L (c,s+(j:Int))=x:=⟨_,rfl⟩;have a7:=ah (R5 L c j s);rw[hX] at a7;have H:=ah (λ(W:aj) (e:Ext wr W)=>(a1.out.ext (a.out.trans e)).item c (s+(j:Int)));rw[hX] at H;generalize hB:nZ L (c,s+(j:Int))=B at*;clear hB hX;have f9:(xH L (V.take k) v++yY L c s j).length<=400000:=by
           rw[a6.out,ay,Pn] at b0;rw[ay,Pn];omega
          have e2:=a.out.keep c2;have e3:=a.out.keep c3;have e4:=a.out.keep c4;have e5:=a.out.keep c5;have e6:=a.out.keep c6;have e7:=a.out.keep c7;have e8:=a.out.keep c8;have e9:=a.out.keep c9;have a4:=a.out.keep c10
          go_wp2_with fail
          refine tY 14 13 [rwI 8 (.tuple #[itv x,.bool B]),rwB 12 (λz9 W=>∃q,z9=Vp q/\wr.heap.size<=q/\pX W q ⟨0,0,0,0,0,0,0⟩),rw2 13 12 (λ_ v W=>∃q,v=Vp q/\wr.heap.size<=q/\pX W q x)] (Ext wr) (λ_=>True) Ext (λ_ _=>True) ((Ext.refl _).drew) trivial (λ_ _=>Ext.trans) (λ_ _ _ _=>trivial)
           ⟨(λ_ _ _ _ h _=>h),(λ_ _ _ _ _ _ h _=>h),(by rintro _ _ _ _ ⟨q,h1,h2,h3⟩ e;exact⟨q,h1,h2,e.blk h3⟩),(λh=>by cases h),(by rintro _ _ _ _ ⟨q,h1,h2,h3⟩ e;exact⟨q,h1,h2,e.blk h3⟩),(λ_ h=>absurd rfl h),trivial⟩ λρ hI=>?_
          refine .s1 8 false [] (λW M _ _=>by
           have e2:=M.keep e2;have e3:=M.keep e3;have e4:=M.keep e4;have e5:=M.keep e5;have e6:=M.keep e6;have e7:=M.keep e7;have e8:=M.keep e8;have e9:=M.keep e9;have a4:=M.keep a4;have a0:=M.keep o0;exact oz) ?_
          refine .kv1 hI 0 _ (λW a=>H.out W a) ?_;refine .s1 3 false [] (λW M _ _=>oz) ?_;refine .o1 1 false [] (λW a _ _ N hN=>?_) ?_
          ·go_simp
           exact hN _ _ (λ_ e=>by cases e) ⟨_,rfl,a.size,pX.newL W ⟨0,0,0,0,0,0,0⟩⟩ ((Ext.refl W).alloc _)
          refine .o0 2 [1] (λW a _ f N hN=>?_) ?_
          ·obtain⟨⟨qb,a3,z,u⟩,_⟩:=f
           have a3:ρ 12=_:=a3;obtain⟨k0,k1,k2,k3,k4,k5,k6⟩:=u.cells;simp only[bH] at k0 k1 k2 k3 k4 k5 k6;have f0:=u.qF 0;have f1:=u.qF 1;have f2:=u.qF 2;have f3:=u.qF 3;have f4:=u.qF 4;have f5:=u.qF 5;have f6:=u.qF 6;have b5:=u.all x.c x.k x.lc x.lk x.rc x.rk x.ch
           go_simp
           exact hN _ _ (λ_ e=>by cases e) ⟨qb,a3,z,b5⟩ (((((((a.setCell z _).setCell z _).setCell z _).setCell z _).setCell z _).setCell z _).setCell z _) trivial
          refine .fin λW hR ⟨_,_,pE,_⟩=>?_
          obtain⟨qn,eq,g2,b4⟩:=pE rfl;rw[show ρ 12=_ from eq];obtain⟨n0,n1,n2,n3,n4,n5,n6⟩:=b4.cells;simp only[bH] at n0 n1 n2 n3 n4 n5 n6;have d7:=ah (U.out.ext hR);have d4:=ah (a.out.trans hR);have b8:=ah (hR.blk X.out);clear H pE b4 o0 o1 X U a hR e2 e3 e4 e5 e6 e7 e8 e9 a4;generalize W=W6 at*;have d1:=ah (show O<W6.heap.size from(aC.1 b8.out).1);have g0:aA.wrap (s+(j:Int)+1)=s+(j:Int)+1:=iX _ (by have:=d8.out;omega)
          go_wp2_with(at_builtin;refine qj (w0:=w) rfl (.tmp 42) (.tmp 44) rfl _ _ rfl (d7.out.ext ((Ext.refl _).alloc _)) (d4.out.alloc _) _ 1 1 [x] rfl rfl (ItS.new _ x) (by simp only[aH,aR];omega) ?_;intro v7 w7 o7 x7 g7 b7)
          have e1:=ah (show w7.heap[O]? =_ from(g7.block O (by have:=d1.out;simp;omega) (λe=>I.out e.symm)).trans ((((Ext.refl W6).alloc _).blk b8.out)));have f8:=ah (show v7.ownBlock≠some O from λe=>by
           rcases b7 with h|h
           ·rw[h] at e;exact I.out e
           ·rw[h] at e;have:=d1.out;simp at e;omega)
          go_roundw
          case rel=>exact⟨j+1,by congr 1;omega,ω,ah (by rw[a7.out,<-aY];exact o7),e1,ah x7,f8⟩
          case measure=>simp[intOf];omega
         ·have g1:decide (s+(j:Int)<t)=false:=decide_eq_false d2
          have b2:=ah (show xH L (V.take (k+1)) v=xH L (V.take k) v++yY L c s j by rw[a6.out,show(t-s).toNat=j by omega])
          go_wp2_with fail
          go_meet;exact⟨ah (by rw[b2.out];exact U.out),a⟩
   case rest=>
        obtain⟨d6,d3⟩:=hcut;clear X Z Q q0 q1;go_wp2
        go_roundw
        case rel=>exact⟨k+1,ω,ν,d6,d3⟩
        case measure=>simp[intOf];omega
  ·obtain rfl:k=m:=ω
   have a2:V.take k=V:=bI (by rw[J.out];exact aD _);rw[a2] at U
   go_wp2_with fail
   go_ret;exact⟨_,rfl,U.out,a.out⟩
def aex (W:aj) (rs:List Rn) (ds:List (Int×Int×Int)) (v:aI):Prop:=∃A c B d,v=ab7 A rs.length c B ds.length d/\RnS W A rs/\rs.length<=c/\SpS W B ds/\ds.length<=d
theorem SK {v:List (Int×Int)} {R:Nat->Prop} {w:aj} {d:Nat} {S:DS} {q:DM} (h:pK R w d S q) (hK:DOK S) (hV:S.V.length<=400000) (hD:S.D.length<=400000) (hN:(qV S v).length<=400000) (A:Option Addr) (n cap:Nat) (hv:Vec w A v) (hn:v.length=n) (hm:oq 0 v=true) (hb:n<=400000):
  aX Tryz.prog 13 #[.pointer (some ⟨d,0,none⟩),.slice A n cap] w λe w'=>∃z,e= .returned z/\aex w' (pO (qV S v)) S.D z/\Ext w w':=by
 have hw:Eo (qV S v):=λx U=>(hK.wfL x (((Zy hK hm).2 x).1 U).1).1
 have a6:=h.cell (j:=13) (v:= .slice q.C S.D.length q.cc) rfl;have a4:=ah (λ(W:aj) (e:Ext w W)=>WZ (h.ext e) hK.wfV hV hN A n cap (hv.ext e) hn hm hb);have a3:=ah (λ(W:aj) (e:Ext w W)=>UH q.C _ q.cc S.D W (h.ou.sps.ext e) rfl ω);have x0:Ext w (w.alloc (.cells #[.slice none 0 0,.slice none 0 0] 44)):=(Ext.refl _).alloc _;have b0:(w.alloc (.cells #[.slice none 0 0,.slice none 0 0] 44)).heap[w.heap.size]? =some (.cells #[.slice none 0 0,.slice none 0 0] 44 (0,0)):=aT w _;clear h;go_enter Tryz.func13,Tryz.ntmps13
 go_wp2_with fail
 generalize w.alloc (.cells #[.slice none 0 0,.slice none 0 0] 44)=W2 at*;generalize a2:w.heap.size=i at*;refine qX 9 [rw1 2 (λv9 W=>∃A c,v9= .slice A (qV S v).length c/\(qV S v).length<=c/\ItS W A (qV S v)),rw1 3 (λz W=>∃A c,z= .slice A (pO (qV S v)).length c/\(pO (qV S v)).length<=c/\RnS W A (pO (qV S v))/\wV W2.heap.size A),rw1 8 (λz W=>∃A c,z= .slice A S.D.length c/\S.D.length<=c/\SpS W A S.D/\wV W2.heap.size A)]
  ⟨(by rintro _ _ _ _ ⟨A,c,M,I,H⟩ e;exact⟨A,c,M,I,H.ext e⟩),(by rintro _ _ _ _ ⟨A,c,M,I,H,J⟩ e;exact⟨A,c,M,I,H.ext e,J⟩),(by rintro _ _ _ _ ⟨A,c,M,I,H,J⟩ e;exact⟨A,c,M,I,H.ext e,J⟩),trivial⟩ λρ hI=>?_
 refine .s 2 (λW hE _=>oz) ?_;refine .k 0 (R:=λv9 W=>∃A c,v9= .slice A (qV S v).length c/\(qV S v).length<=c/\ItS W A (qV S v)) (λW' U=>(a4.out W' (x0.trans U)).mono (by rintro e w1 ⟨v1,rfl,M,I⟩;obtain⟨u,c1,rfl,H,J⟩:=M.open;exact⟨_,rfl,⟨u,c1,rfl,H,J⟩,I⟩)) ?_;refine .o 1 [0] (λW U y f N hN=>?_) ?_
 ·obtain⟨⟨u,c1,e1,M,I⟩,_⟩:=f
  have e1:ρ 2=_:=e1
  go_simp
  refine(Jw u _ c1 (qV S v) W I rfl M hw ω).mono ?_;rintro e w1 ⟨v1,rfl,H,J⟩;obtain⟨A3,c3,rfl,h5,h6⟩:=H.open;exact⟨_,rfl,hN _ _ (λ_ e=>by cases e) ⟨A3,c3,rfl,h5,h6,λa Y=>aM U.size ((uy H rfl).2 a Y)⟩ J⟩
 refine .s 4 (λW hE _=>by
  have a8:=(x0.trans hE).keep a6;exact oz) ?_
 refine .k 2 (R:=λz W=>∃A c,z= .slice A S.D.length c/\S.D.length<=c/\SpS W A S.D/\wV W2.heap.size A) (λW' U=>(a3.out W' (x0.trans U)).mono (by rintro e w1 ⟨u,n1,c1,rfl,rfl,I,H,J,h5⟩;exact⟨_,rfl,⟨u,c1,rfl,I,H,λa Y=>aM U.size (h5 a Y)⟩,J⟩)) ?_;refine .fin λW hR ⟨_,⟨u,c1,e1,M,I,u1⟩,⟨Q,O,e2,H,J,u2⟩,_⟩=>?_
 rw[show ρ 3=_ from e1,show ρ 8=_ from e2];have bW:=hR.blk b0;have hE:=x0.trans hR;generalize a0:S.D=D at*;replace a0:=ah a0;generalize Z:pO (qV S v)=rs at*;replace Z:=ah Z;have k0:W.cell? ⟨i,0,none⟩=some (.slice none 0 0):=ak W i 0 _ _ _ bW;have k1:W.cell? ⟨i,1,none⟩=some (.slice none 0 0):=ak W i 1 _ _ _ bW;have f0:W.frozen? ⟨i,0,none⟩=false:=aK W i 0 _ _ bW;have f1:W.frozen? ⟨i,1,none⟩=false:=aK W i 1 _ _ bW;have j0:(W.setCell ⟨i,0,none⟩ (.slice u rs.length c1)).heap[i]? =some (.cells #[.slice u rs.length c1,.slice none 0 0] 44 (0,0)):=aB W i 0 _ _ _ bW;have j1:((W.setCell ⟨i,0,none⟩ (.slice u rs.length c1)).setCell ⟨i,1,none⟩ (.slice Q D.length O)).heap[i]? =some (.cells #[.slice u rs.length c1,.slice Q D.length O] 44 (0,0)):=aB _ i 1 _ _ _ j0;have a7:i<W2.heap.size:=(aC.1 b0).1;have X:RX i W ((W.setCell ⟨i,0,none⟩ (.slice u rs.length c1)).setCell ⟨i,1,none⟩ (.slice Q D.length O)):=((RX.refl i W).set 0 _ (.inr rfl)).set 1 _ (.inr rfl);have z0:((W.setCell ⟨i,0,none⟩ (.slice u rs.length c1)).setCell ⟨i,1,none⟩ (.slice Q D.length O)).cell? ⟨i,0,none⟩=some (.slice u rs.length c1):=ak _ i 0 _ _ _ j1;have z1:((W.setCell ⟨i,0,none⟩ (.slice u rs.length c1)).setCell ⟨i,1,none⟩ (.slice Q D.length O)).cell? ⟨i,1,none⟩=some (.slice Q D.length O):=ak _ i 1 _ _ _ j1;have a5:=ah (show Ext w ((W.setCell ⟨i,0,none⟩ (.slice u rs.length c1)).setCell ⟨i,1,none⟩ (.slice Q D.length O)) from(hE.setCell (by rw[a2];exact aD _) _).setCell (by rw[a2];exact aD _) _);have a1:=ah (show aex ((W.setCell ⟨i,0,none⟩ (.slice u rs.length c1)).setCell ⟨i,1,none⟩ (.slice Q D.length O)) rs D (ab7 u rs.length c1 Q D.length O) from⟨u,c1,Q,O,rfl,Row.rx I X (λa Y e=>by have:=u1 a Y;omega),M,Row.rx J X (λa Y e=>by have:=u2 a Y;omega),H⟩);have hz:=ah (bq z0 z1);clear z0 z1 j0 j1 bW hE I J hR a4 a3 X
 go_wp2_with fail
 obtain⟨z0,z1⟩:=hz.out;exact aN (v:=ab7 u rs.length c1 Q D.length O) (by simp[dK,Tryz.results13,go_sem,z0,z1]) rfl ⟨_,rfl,by rw[Z.out,a0.out];exact a1.out,a5.out⟩
end
section
attribute [local go_sem] au
def rZ (w:aj) (d:Nat) (R:Nat->Prop) (c:Int) (S:DS) (e:Ending) (w':aj):Prop:=∃(R':Nat->Prop) (q:DM),e= .returned (qD c)/\pK R' w' d S q/\RX d w w'/\∀b,R' b->R b\/w.heap.size<=b
variable {R:Nat->Prop} {W:aj} {d:Nat}
theorem rZ.same {w:aj} {S:DS} {q:DM} (h:pK R w d S q) (c:Int) {v:aI} (hv:qD c=v) (W:aj) (x:Ext w W):rZ w d R c S (.returned v) W:=
 ⟨R,q,by rw[hv],h.ext x,RX.ext x,λb a=> .inl a⟩
theorem qJ {c:Int} (h:c≠0):qD c= .iface 75 (.int .i64 c):=by simp[qD,h]
theorem xQ:qD 0= .nilIface:=by simp[qD]
abbrev Ai (u q:aI) (y:Lv) (j i f e a:aI):Array aI:= #[u,q,.slice y.A y.n y.c,.pointer y.l,.pointer y.r,Vi y.h,Vi y.m,Vi y.s,Vq y.lo,Vq y.hi,.pointer y.p,j,i,f,e,a]
abbrev Qu (W:aj) (q:Nat) (y:Lv):aj:=(((((((((W.setCell ⟨q,2,none⟩ (.slice y.A y.n y.c)).setCell ⟨q,3,none⟩ (.pointer y.l)).setCell ⟨q,4,none⟩ (.pointer y.r)).setCell ⟨q,5,none⟩ (Vi y.h)).setCell ⟨q,6,none⟩ (Vi y.m)).setCell ⟨q,7,none⟩ (Vi y.s)).setCell ⟨q,8,none⟩ (Vq y.lo)).setCell ⟨q,9,none⟩ (Vq y.hi)).setCell ⟨q,10,none⟩ (.pointer y.p))
theorem Oi (W:aj) (q:Nat) (y:Lv):RX q W (Qu W q y):=(((((((((RX.refl q W).set 2 _ (.inr rfl)).set 3 _ (.inr rfl)).set 4 _ (.inr rfl)).set 5 _ (.inr rfl)).set 6 _ (.inr rfl)).set 7 _ (.inr rfl)).set 8 _ (.inr rfl)).set 9 _ (.inr rfl)).set 10 _ (.inr rfl)
theorem FW {q:Nat} {z u j i f e a:aI} {x:Lv} (h:W.heap[q]? =some (.cells (Ai z u x j i f e a) 87 (0,0))) (y:Lv):(Qu W q y).heap[q]? =some (.cells (Ai z u y j i f e a) 87 (0,0)):=by
 have h:=h;replace h:=aB _ q 2 _ _ (.slice y.A y.n y.c) h;replace h:=aB _ q 3 _ _ (.pointer y.l) h;replace h:=aB _ q 4 _ _ (.pointer y.r) h;replace h:=aB _ q 5 _ _ (Vi y.h) h;replace h:=aB _ q 6 _ _ (Vi y.m) h;replace h:=aB _ q 7 _ _ (Vi y.s) h;replace h:=aB _ q 8 _ _ (Vq y.lo) h;replace h:=aB _ q 9 _ _ (Vq y.hi) h;replace h:=aB _ q 10 _ _ (.pointer y.p) h;simpa only[Ai,List.setIfInBounds_toArray,List.set_cons_zero,List.set_cons_succ] using h
theorem acr.vals {q:Nat} {u z i f e a j:aI} {y:Lv} (h:W.heap[q]? =some (.cells (Ai u z y i f e a j) 87 (0,0))):(W.cell? ⟨q,0,none⟩=some u/\W.cell? ⟨q,11,none⟩=some i/\W.cell? ⟨q,12,none⟩=some f/\W.cell? ⟨q,13,none⟩=some e/\W.cell? ⟨q,14,none⟩=some a)/\(W.cell? ⟨q,2,none⟩=some (.slice y.A y.n y.c)/\W.cell? ⟨q,3,none⟩=some (.pointer y.l)/\W.cell? ⟨q,4,none⟩=some (.pointer y.r)/\W.cell? ⟨q,5,none⟩=some (Vi y.h)/\W.cell? ⟨q,6,none⟩=some (Vi y.m)/\W.cell? ⟨q,7,none⟩=some (Vi y.s)/\W.cell? ⟨q,8,none⟩=some (Vq y.lo)/\W.cell? ⟨q,9,none⟩=some (Vq y.hi)/\W.cell? ⟨q,10,none⟩=some (.pointer y.p)):=
 ⟨⟨ak W q 0 _ _ _ h,ak W q 11 _ _ _ h,ak W q 12 _ _ _ h,ak W q 13 _ _ _ h,ak W q 14 _ _ _ h⟩,ak W q 2 _ _ _ h,ak W q 3 _ _ _ h,ak W q 4 _ _ _ h,ak W q 5 _ _ _ h,ak W q 6 _ _ _ h,ak W q 7 _ _ _ h,ak W q 8 _ _ _ h,ak W q 9 _ _ _ h,ak W q 10 _ _ _ h⟩
def SA (s:Nat) (A a:Option Addr):Prop:=A=a\/wV s A
theorem SA.off {s:Nat} {A f:Option Addr} (h:SA s A f) (i:∀a,f=some a->R a.block/\a.block≠d) (j:d<s):∀a,A=some a->(R a.block\/s<=a.block)/\a.block≠d:=λa e=>by
 rcases h with h|h
 ·have:=i a (h▸e)
  exact⟨.inl this.1,this.2⟩
 ·have:=h a e
  exact⟨.inr this,ω⟩
theorem wK.next {f:aj} {S e:DS} {q a:DM} (h:wK R f d S q) (M:f.heap.size<=W.heap.size) (H:W.heap[d]? =some (.cells (Lr e a) 87 (0,0)))
  (O:LCx a.F W a.y e.L a.G) (hF:∀b,a.F b->q.F b\/f.heap.size<=b) (N:Marks e.D e.L a.G)
  (hv:Vec W a.A e.V) (z:SA f.heap.size a.A q.A) (u:e.V.length<=a.ca) (K:ItS W a.B e.Wt) (j:SA f.heap.size a.B q.B) (i:e.Wt.length<=a.cb) (Q:SpS W a.C e.D) (J:SA f.heap.size a.C q.C) (I:e.D.length<=a.cc):
  pK (λb=>R b\/f.heap.size<=b) W d e a:=
 ⟨⟨.inl h.rd,O,λb H=>by
   rcases hF b H with g|g
   ·exact⟨.inl (h.rF b g).1,(h.rF b g).2⟩
   ·exact⟨.inr g,by have:=h.low;omega⟩,N,hv,z.off h.rA h.low,u,K,j.off h.rB h.low,i,Q,J.off h.rC h.low,I,bD h.low M⟩,H⟩
theorem MJ {D:List (Int×Int×Int)} {L M:List It} {G:List I2} (h:Marks D L G) (f:∀g∈G,nZ L g=true):Marks D (L++M) (G++gdL D M):=λa e=>by
 rw[Ry,gu,dV,uT,uT];constructor
 ·rintro(g|g)
  ·rw[<-h a (f a g)];exact uT.2 g
  ·exact(Ul.1 g).2
 ·intro g
  rw[Ru,dV] at e;rcases e with e|e
  ·exact .inl (uT.1 (by rw[h a e];exact g))
  ·exact .inr (Ul.2 ⟨e,g⟩)
theorem LCx.gin {F:Nat->Prop} {W:aj} {y:Lv} {L:List It} {G:List I2} (h:LCx F W y L G):∀g∈G,nZ L g=true:=by
 obtain⟨t,ad,h⟩:=h;exact h.gin
end
section
attribute [local go_sem] au calm oK oG
theorem QO {W:aj} {q:Nat} {y:Lv} {E:Operand->aI} {x z:Operand} {o:Oper} {N:aI->aj->Prop} (e:o.op= .store 85 x z) (Y:E x=Vp q) (X:E z=lsv y) (a:BxL W q zLv) (h:∀v,N v (vR W q y)):oG Tryz.prog N ((execOp E o).run Tryz.prog W):=by
 obtain⟨i,u,j,f,af,Z⟩:=o;simp only at e;subst e;obtain⟨k0,U,Q,O,M,K,J,I,H⟩:=a.cells;have f0:=a.thaw 0;have f1:=a.thaw 1;have f2:=a.thaw 2;have f3:=a.thaw 3;have f4:=a.thaw 4;have f5:=a.thaw 5;have f6:=a.thaw 6;have f7:=a.thaw 7;have f8:=a.thaw 8
 go_simp
 exact h _
end
end Go.Proofs.YtejbpijamdlgcaaGreatDoor

/-
  Lemmas of this seat; no claim.
-/
import Derived.Test.YtncfhbpejchbfaaGreatDoorPDf1
import Derived.Test.YtncfhbpejchbfaaGreatDoorPL2
import Derived.Test.YtncfhbpejchbfaaGreatDoorPRf1
import Derived.Test.YtncfhbpejchbfaaGreatDoorPN1
set_option linter.unusedVariables false
set_option linter.unusedSimpArgs false
set_option maxRecDepth 100000
set_option maxHeartbeats 16000000
open And renaming intro→aS
open Array renaming getElem?_eq_some_iff→an
open Bool renaming and_eq_true→aC,eq_false_iff→hQ,eq_iff_iff→dC,or_assoc→dD,or_eq_true→cE,or_false→fO
open Go renaming Calls→aO,Value→au,World→ae,bodyPost_ret→aB,cell_of_row→aj,cell_regrown→ai,frozen_of_row→aw,heap_alloc_new→aI,heap_setCell_same→al,results→cg,wpQuiet_nil→bh,wp_region_quiet_below→ax
open Go.Ending.returned renaming inj→ii
open Go.IntKind renaming u32→ak
open Go.IntWalk renaming u32_in→fh
open Go.Lib renaming hid→ac
open Go.Obj renaming cells→aT
open Go.RowKit.Below renaming block→av
open Go.Value renaming int→ao
open Go.World renaming cell?_alloc_some→ah
open List renaming any_eq_true→iU,append_assoc→aK,append_nil→bB,cons_append→aJ,filter_append→fK,getElem?_eq_getElem→ay,getElem?_eq_none→cU,getElem?_eq_some_iff→aq,length_append→ag,length_cons→ar,length_nil→aG,length_take→bv,mem_of_getElem?→aD,take_add_one→bG,take_of_length_le→aU
open Nat renaming le_refl→am,le_trans→az,lt_of_lt_of_le→aV,lt_or_ge→bL,zero_add→aW,zero_le→bN
open Option.some renaming inj→cO
open Go.Proofs.Tryz
open Go.Proofs.Tryz renaming prog→pg
namespace Go.Proofs.YtncfhbpejchbfaaGreatDoor
open Go.ChangeShapes Go.WideShapes Go.ChangeAt Go.RowKit Go.Sort
section
attribute [local go_sem] ah
structure DM where
 y:Lv
 A:Option Addr
 ca:Nat
 B:Option Addr
 cb:Nat
 C:Option Addr
 cc:Nat
 F:Nat->Prop
 G:List I2
def WI (S:DS) (q:DM):Array au:= #[Vu S.cl,Vu S.lim,.slice q.y.A q.y.n q.y.c,.pointer q.y.l,.pointer q.y.r,Vi q.y.h,Vi q.y.m,Vi q.y.s,Vq q.y.lo,Vq q.y.hi,.pointer q.y.p,.slice q.A S.V.length q.ca,.slice q.B S.Wt.length q.cb,.slice q.C S.D.length q.cc,Vi (S.ver:Int),.bool S.closed]
def LCx (F:Nat->Prop) (W:ae) (y:Lv) (L:List It) (G:List I2):Prop:=∃t ad,LC F W y L G t ad
theorem LCx.ext {F:Nat->Prop} {W W':ae} {y:Lv} {L:List It} {G:List I2} (h:LCx F W y L G) (a:Ext W W'):LCx F W' y L G:=by
 obtain⟨t,ad,h⟩:=h;exact⟨t,ad,h.ext a⟩
theorem LCx.frame {F:Nat->Prop} {W W':ae} {y:Lv} {L:List It} {G:List I2} (h:LCx F W y L G) (a:∀b,F b->W'.heap[b]? =W.heap[b]?):LCx F W' y L G:=by
 obtain⟨t,ad,h⟩:=h;exact⟨t,ad,h.frame a⟩
variable {R:Nat->Prop} {S:DS} {W W':ae} {d p:Nat} {q:DM}
theorem LCx.avoid {F:Nat->Prop} {y:Lv} {L:List It} {G:List I2} {q:Nat} (h:LCx F W y L G) (a:BxL W q zLv):LCx (λb=>F b/\b≠q) W y L G:=by
 obtain⟨t,ad,h⟩:=h;exact⟨t,ad,h.qQ a⟩
theorem LCx.lt {F:Nat->Prop} {W:ae} {y:Lv} {L:List It} {G:List I2} (h:LCx F W y L G):∀b,F b->b<W.heap.size:=by
 obtain⟨t,ad,h⟩:=h;exact h.lt
theorem LCx.kn {F:Nat->Prop} {W:ae} {y:Lv} {L:List It} {G:List I2} (h:LCx F W y L G):jy L=true:=by
 obtain⟨t,ad,h⟩:=h;exact h.nd.kn
theorem LCx.rx {F:Nat->Prop} {y:Lv} {L:List It} {G:List I2} (h:LCx F W y L G) (f:RX p W W') (i:∀b,F b->b≠p):LCx F W' y L G:=
 h.frame λb a=>f.block b (h.lt b a) λe=>i b a (by injection e)
theorem Row.rx {A:Option Addr} {xs:List au} (h:Row W A xs) (f:RX p W W') (z:∀a,A=some a->a.block≠p):Row W' A xs:=λI=>by
 obtain⟨b,o,e,H⟩:=h I;exact⟨b,o,e,λj u i=>f.cell (H j u i) (z _ e)⟩
theorem Row.rxe {e:Type} {enc:e->List au} {l:List e} {A:Option Addr} (h:Row W A (flat enc l)) (i:RX p W W') (j:0<l.length->∀a,A=some a->a.block≠p):Row W' A (flat enc l):=λf=>
 Row.rx h i (j (by cases l with|nil=>simp[flat] at f|cons a l=>simp)) f
structure yX (R:Nat->Prop) (W:ae) (d:Nat) (S:DS) (q:DM):Prop where
 rd:R d
 ls:LCx q.F W q.y S.L q.G
 rF:∀b,q.F b->R b/\b≠d
 mks:Marks S.D S.L q.G
 vec:Vec W q.A S.V
 rA:0<S.V.length->∀a,q.A=some a->R a.block/\a.block≠d
 nA:S.V.length<=q.ca
 its:ItS W q.B S.Wt
 rB:0<S.Wt.length->∀a,q.B=some a->R a.block/\a.block≠d
 nB:S.Wt.length<=q.cb
 sps:SpS W q.C S.D
 rC:0<S.D.length->∀a,q.C=some a->R a.block/\a.block≠d
 nC:S.D.length<=q.cc
 low:d<W.heap.size
structure kV (R:Nat->Prop) (W:ae) (d:Nat) (S:DS) (q:DM):Prop where
 jF:yX R W d S q
 box:W.heap[d]? =some (.cells (WI S q) 69 (0,0))
theorem yX.ext {R:Nat->Prop} {W W':ae} {d:Nat} {S:DS} {q:DM} (h:yX R W d S q) (a:Ext W W'):yX R W' d S q:=
 ⟨h.rd,h.ls.ext a,h.rF,h.mks,h.vec.ext a,h.rA,h.nA,h.its.ext a,h.rB,h.nB,h.sps.ext a,h.rC,h.nC,a.lt h.low⟩
theorem kV.ext {R:Nat->Prop} {W W':ae} {d:Nat} {S:DS} {q:DM} (h:kV R W d S q) (a:Ext W W'):kV R W' d S q:=
 ⟨h.jF.ext a,(av a d h.jF.low).trans h.box⟩
theorem yX.ent (h:yX R W d S q):kr S.L q.G=S.E:=Wz h.ls.kn h.mks
theorem kV.cell {R:Nat->Prop} {W:ae} {d:Nat} {S:DS} {q:DM} (h:kV R W d S q) {j:Nat} {v:au} (a:(WI S q)[j]? =some v):W.cell? ⟨d,j,none⟩=some v:=by
 rw[aj W d j _ _ _ h.box];exact a
theorem kV.thaw (h:kV R W d S q) (j:Nat):W.frozen? ⟨d,j,none⟩=false:=aw W d j _ _ h.box
theorem kV.DF (h:kV R W d S q):W.cell? ⟨d,2,none⟩=some (.slice q.y.A q.y.n q.y.c)/\W.cell? ⟨d,3,none⟩=some (.pointer q.y.l)/\W.cell? ⟨d,4,none⟩=some (.pointer q.y.r)/\W.cell? ⟨d,5,none⟩=some (Vi q.y.h)/\W.cell? ⟨d,6,none⟩=some (Vi q.y.m)/\W.cell? ⟨d,7,none⟩=some (Vi q.y.s)/\W.cell? ⟨d,8,none⟩=some (Vq q.y.lo)/\W.cell? ⟨d,9,none⟩=some (Vq q.y.hi)/\W.cell? ⟨d,10,none⟩=some (.pointer q.y.p):=
 ⟨h.cell rfl,h.cell rfl,h.cell rfl,h.cell rfl,h.cell rfl,h.cell rfl,h.cell rfl,h.cell rfl,h.cell rfl⟩
theorem Jb (h:kV R W d S q):aO pg 13 #[.pointer (some ⟨d,0,none⟩)] W λe W'=>e= .returned (Vi (S.Wt.length:Int))/\Ext W W':=by
 have c:=h.cell (j:=12) (v:= .slice q.B S.Wt.length q.cb) rfl;go_enter func13,ntmps13;go_wp2;go_ret;exact⟨rfl,Ext.refl _⟩
theorem Bj (h:kV R W d S q) (i:S.L.length<=300000):aO pg 12 #[.pointer (some ⟨d,0,none⟩)] W λe W'=>e= .returned (.string (textE S.E))/\Ext W W':=by
 obtain⟨t,ad,a⟩:=h.jF.ls;have f:=ac (a.text ω);rw[h.jF.ent] at f;obtain⟨c2,c3,c4,c5,c6,c7,c8,c9,c10⟩:=h.DF;clear h a;go_enter func12,ntmps12
 go_wp2_with fail
 refine f.out.mono ?_;rintro e W' ⟨rfl,x⟩;go_wp2;go_ret;exact⟨rfl,x⟩
def agR (W:ae) (s:ByteArray) (c:Int) (v:au):Prop:=(c=0/\v= .nilIface)\/(c≠0/\agS W s c v)
theorem Nl (h:kV R W d S q) (u:wJ W) (s:ByteArray) (c:Int):aO pg 21 #[.pointer (some ⟨d,0,none⟩),.string s,lF c] W λe W'=>∃v,e= .returned (.tuple #[Vi (if c=0 then(S.ver:Int) else 0),v])/\agR W' s c v/\Ext W W':=by
 have z:=h.cell (j:=14) (v:=Vi (S.ver:Int)) rfl;by_cases a:c=0
 ·subst a
  rw[if_pos rfl];have f:lF 0= .nilIface:=by simp[lF]
  rw[f];go_enter func21,ntmps21;go_wp2;exact aB (v:= .tuple #[Vi (S.ver:Int),.nilIface]) (by simp[cg,results21,go_sem]) rfl ⟨_,rfl,.inl ⟨rfl,rfl⟩,Ext.refl _⟩
 ·rw[if_neg a]
  have f:lF c= .iface 56 (.int .i64 c):=by simp[lF,a]
  rw[f];have i:=ac (Wx s c W u);replace a:=ac a;go_enter func21,ntmps21
  go_wp2_with fail
  refine i.out.mono ?_;rintro e W' ⟨v,rfl,hv,x⟩
  go_wp2_with fail
  exact aB (v:= .tuple #[Vi 0,v]) (by simp[cg,results21,go_sem]) rfl ⟨_,rfl,.inr ⟨a.out,hv⟩,x⟩
end
section
attribute [local go_sem] ah calm jL jH
section
def KLC (w W W':ae):Prop:=(Ext w W->Ext w W')/\∀(F:Nat->Prop) (y:Lv) (L:List It) (G:List I2),LCx F W y L G->∃a:Nat->Prop,(∀b,a b->F b)/\LCx a W' y L G
variable {F:Nat->Prop} {G:List I2} {L:List It} {w:ae} {y:Lv}
theorem Oa {W:ae} {q:Nat} (y:Lv) (f:w.heap.size<=q) (e:BxL W q zLv):KLC w W (qM W q y):=
 ⟨λx=>RX.down x f (nE _ _ _),λF v L G h=>⟨_,λb a=>a.1,(h.avoid e).rx (nE W q y) λb a=>a.2⟩⟩
def NwL (F:Nat->Prop) (s:Nat) (L:List It) (G:List I2) (W:ae) (y:Lv):Prop:=∃a:Nat->Prop,LCx a W y L G/\∀b,a b->F b\/s<=b
theorem NwL.ext {F:Nat->Prop} {s:Nat} {L:List It} {G:List I2} {W W':ae} {y:Lv} (h:NwL F s L G W y) (a:Ext W W'):NwL F s L G W' y:=by
 obtain⟨i,f,e⟩:=h;exact⟨i,f.ext a,e⟩
theorem NwL.klc {s:Nat} {W W':ae} (h:NwL F s L G W y) (a:KLC w W W'):NwL F s L G W' y:=by
 obtain⟨z,q,j⟩:=h;obtain⟨u,i,f⟩:=a.2 z _ _ _ q;exact⟨u,f,λb e=>j b (i b e)⟩
theorem NwL.rx {F:Nat->Prop} {s p:Nat} {L:List It} {G:List I2} {W W':ae} {y:Lv} (h:NwL F s L G W y) (f:RX p W W') (hF:∀b,F b->b<p) (u:p<s):NwL F s L G W' y:=by
 obtain⟨q,j,a⟩:=h;refine⟨q,j.rx f λb i e=>?_,a⟩;subst e;rcases a _ i with h|h
 ·exact absurd (hF _ h) (Nat.lt_irrefl _)
 ·omega
theorem ab0 (D:List Sp) (M:List It) (x:It):gdL D (M++[x])=gdL D M++(if jJ D x.c x.k then [(x.c,x.k)] else []):=by
 unfold gdL;rw[List.map_append,fK]
 congr 1
 show [iid x].filter _=_;rw[List.filter_cons];rfl
theorem Ug:∀{M L:List It} {k:Nat} {x:It},CB L M=true->M[k]? =some x->M4 (L++M.take k) x=true
 |[],L,k,x,h,hx=>by simp at hx
 |y::M,L,0,x,h,hx=>by
  rw[CB,aC] at h;obtain rfl:y=x:=by simpa using hx
  simpa using h.1
 |y::M,L,k+1,x,h,hx=>by
  rw[CB,aC] at h;have:=Ug (k:=k) h.2 (by simpa using hx);rwa[aK] at this
theorem KC (h:LCx F w y L G) (B C:Option Addr) (m cb nd cc:Nat) (M:List It) (D:List Sp) (hM:ItS w B M) (hm:M.length=m) (hD:SpS w C D) (hn:D.length=nd) (h6:jE zS D=true) (i0:nd<=400000) (a9:CB L M=true) (d1:∀x∈M,wfI x) (hl:L.length+m<=310000):
  aO pg 43 #[lsv y,.slice B m cb,.slice C nd cc] w λe w'=>∃z,e= .returned (.tuple #[lsv z,.nilIface])/\NwL F w.heap.size (L++M) (G++gdL D M) w' z/\Ext w w':=by
 have i6:=ac h.lt;replace hM:=ac hM;replace hm:=ac hm;replace hD:=ac hD;replace a9:=ac a9;replace d1:=ac d1;replace h:=ac h;go_enter func43,ntmps43;go_wp2;have x0:Ext w ((w.alloc (.cells #[.slice y.A y.n y.c,.pointer y.l,.pointer y.r,Vi y.h,Vi y.m,Vi y.s,Vq y.lo,Vq y.hi,.pointer y.p] 66)).alloc (.cells #[.slice none 0 0,.pointer none,.pointer none,Vi 0,Vi 0,Vi 0,Vq 0,Vq 0,.pointer none] 66)):=((Ext.refl _).alloc _).alloc _;have b0:BxL ((w.alloc (.cells #[.slice y.A y.n y.c,.pointer y.l,.pointer y.r,Vi y.h,Vi y.m,Vi y.s,Vq y.lo,Vq y.hi,.pointer y.p] 66)).alloc (.cells #[.slice none 0 0,.pointer none,.pointer none,Vi 0,Vi 0,Vi 0,Vq 0,Vq 0,.pointer none] 66)) w.heap.size y:=(BxL.new w y).ext ((Ext.refl _).alloc _);have b1:BxL ((w.alloc (.cells #[.slice y.A y.n y.c,.pointer y.l,.pointer y.r,Vi y.h,Vi y.m,Vi y.s,Vq y.lo,Vq y.hi,.pointer y.p] 66)).alloc (.cells #[.slice none 0 0,.pointer none,.pointer none,Vi 0,Vi 0,Vi 0,Vq 0,Vq 0,.pointer none] 66)) (w.heap.size+1) zLv:=by
  have:=BxL.new (w.alloc (.cells #[.slice y.A y.n y.c,.pointer y.l,.pointer y.r,Vi y.h,Vi y.m,Vi y.s,Vq y.lo,Vq y.hi,.pointer y.p] 66)) zLv;rwa[show(w.alloc (.cells #[.slice y.A y.n y.c,.pointer y.l,.pointer y.r,Vi y.h,Vi y.m,Vi y.s,Vq y.lo,Vq y.hi,.pointer y.p] 66)).heap.size=w.heap.size+1 by simp] at this
 have b5:((w.alloc (.cells #[.slice y.A y.n y.c,.pointer y.l,.pointer y.r,Vi y.h,Vi y.m,Vi y.s,Vq y.lo,Vq y.hi,.pointer y.p] 66)).alloc (.cells #[.slice none 0 0,.pointer none,.pointer none,Vi 0,Vi 0,Vi 0,Vq 0,Vq 0,.pointer none] 66)).heap.size=w.heap.size+1+1:=ι
 generalize(w.alloc (.cells #[.slice y.A y.n y.c,.pointer y.l,.pointer y.r,Vi y.h,Vi y.m,Vi y.s,Vq y.lo,Vq y.hi,.pointer y.p] 66)).alloc (.cells #[.slice none 0 0,.pointer none,.pointer none,Vi 0,Vi 0,Vi 0,Vq 0,Vq 0,.pointer none] 66)=W1 at*;have l4:=ac (am w.heap.size);have g6:=ac (λb (hb:F b)=>i6.out b hb);generalize a7:w.heap.size=J at*;replace a7:=ac a7;replace b5:=ac b5;have b2:NwL F W1.heap.size L G W1 y:=⟨F,h.out.ext x0,λb hb=> .inl hb⟩;obtain⟨s,hs⟩:∃s,W1.heap.size=s:=⟨_,rfl⟩;rw[hs] at b2;have h5:=ac (show s=J+1+1 by rw[<-hs];exact b5.out);have hps:J+1<s:=by have:=h5.out;omega
 replace hs:=ac hs;replace b2:=ac b2;replace b0:=ac b0;replace b1:=ac b1;replace x0:=ac x0;clear b5
 go_loopw [14] (λi W=>∃(k:Nat) (z:Lv),k<=m/\i=Vi (k:Nat)/\Hid (BxL W J z)/\Hid (BxL W (J+1) zLv)/\Hid (NwL F s (L++M.take k) (G++gdL D (M.take k)) W z)/\Hid (Ext w W)/\s<=W.heap.size) (λi _=>m-(intOf i).toNat)
 case atStart=>exact⟨0,y,bN _,rfl,b0,b1,ac (by rw[List.take_zero,bB];exact(bB G).symm▸b2.out),x0,by rw[hs.out];exact am _⟩
 case round=>
  clear b0 b1 b2 x0;obtain⟨k,z,hk,rfl,bx,br,hN,hx,l2⟩:=hrel;by_cases h7:k<m
  ·obtain⟨bb,oo,x,rfl,hp,hc⟩:=(hM.out.ext hx.out).at (k:=k) (by rw[hm.out];exact h7)
   have g9:=Ug a9.out hp;have i7:=d1.out x (aD hp);have d7:=ac (show M.take (k+1)=M.take k++[x] by rw[bG,hp];rfl);have g3:(L++M.take k).length<=320000:=by rw[ag,bv];have:=hm.out;omega
   obtain⟨g,hg⟩:∃g,jJ D x.c x.k=g:=⟨_,rfl⟩;have g5:=ac (show G++gdL D (M.take (k+1))=if g then(G++gdL D (M.take k))++[(x.c,x.k)] else G++gdL D (M.take k) by
        rw[d7.out,ab0,hg];cases g
        ·simp
        ·simp[aK])
   clear hp;obtain⟨L9,b6⟩:∃L9,L++M.take k=L9:=⟨_,rfl⟩;obtain⟨G9,d4⟩:∃G9,G++gdL D (M.take k)=G9:=⟨_,rfl⟩;rw[d4] at g5 hN;rw[b6] at g9 g3 hN;have b4:=ac (hx.out.trans ((Ext.refl wr).alloc (.cells #[Vu x.c,Vu x.k,Vu x.lc,Vu x.lk,Vu x.rc,Vu x.rk,.int .i32 x.ch] 106)));have b3:=bx.out.ext ((Ext.refl wr).alloc (.cells #[Vu x.c,Vu x.k,Vu x.lc,Vu x.lk,Vu x.rc,Vu x.rk,.int .i32 x.ch] 106));have b7:=br.out.ext ((Ext.refl wr).alloc (.cells #[Vu x.c,Vu x.k,Vu x.lc,Vu x.lk,Vu x.rc,Vu x.rk,.int .i32 x.ch] 106));have g2:=ac (hN.out.ext ((Ext.refl wr).alloc (.cells #[Vu x.c,Vu x.k,Vu x.lc,Vu x.lk,Vu x.rc,Vu x.rk,.int .i32 x.ch] 106)));have U:=ac (aI wr (.cells #[Vu x.c,Vu x.k,Vu x.lc,Vu x.lk,Vu x.rc,Vu x.rk,.int .i32 x.ch] 106));have b8:s<=(wr.alloc (.cells #[Vu x.c,Vu x.k,Vu x.lc,Vu x.lk,Vu x.rc,Vu x.rk,.int .i32 x.ch] 106)).heap.size:=by simp;omega
   obtain⟨q0,q1,q2,q3,q4,q5,q6⟩:=hc;replace b6:=ac b6;replace d4:=ac d4;replace b7:=ac b7;replace b3:=ac b3;replace hg:=ac hg
   go_wp2_with fail
   generalize wr.alloc (.cells #[Vu x.c,Vu x.k,Vu x.lc,Vu x.lk,Vu x.rc,Vu x.rk,.int .i32 x.ch] 106)=I at*;generalize wr.heap.size=bi at*;clear q0 q1 q2 q3 q4 q5 q6;have q0:I.cell? ⟨bi,0,none⟩=some (Vu x.c):=aj I bi 0 _ _ _ U.out;have q1:I.cell? ⟨bi,1,none⟩=some (Vu x.k):=aj I bi 1 _ _ _ U.out;have q2:I.cell? ⟨bi,2,none⟩=some (Vu x.lc):=aj I bi 2 _ _ _ U.out;have q3:I.cell? ⟨bi,3,none⟩=some (Vu x.lk):=aj I bi 3 _ _ _ U.out;have q4:I.cell? ⟨bi,4,none⟩=some (Vu x.rc):=aj I bi 4 _ _ _ U.out;have q5:I.cell? ⟨bi,5,none⟩=some (Vu x.rk):=aj I bi 5 _ _ _ U.out;have q6:I.cell? ⟨bi,6,none⟩=some (.int .i32 x.ch):=aj I bi 6 _ _ _ U.out;obtain⟨z0,z1,Q,z3,z4,z5,z6,z7,z8⟩:=b3.out.cells;have h0:=b4.out.size;rw[a7.out] at h0;have g8:=ac (λ(W:ae) (e:Ext I W)=>(abV C nd cc D x.c x.k W (hD.out.ext (b4.out.trans e)) hn h6 i0).mono λe w' h=>(by rw[hg.out] at h;exact h:e= .returned (.bool g)/\Ext W w'));have b9:=ac (λ(W:ae) (e:Ext I W)=>(by
        obtain⟨F1,⟨t1,l5,i2⟩,i5⟩:=g2.out.ext e;refine(i2.agL g3 x g i7 g9).mono ?_;rintro e9 w9 ⟨F2,Q,t2,j9,rfl,O,Y,h3⟩;refine⟨_,rfl,⟨Q,rfl,F2,⟨t2,j9,?_⟩,λb hb=>?_⟩,h3⟩
        ·rw[<-b6.out,aK,<-d7.out] at O
         rw[g5.out];exact O
        ·rcases Y b hb with h|h
         ·exact i5 b h
         ·exact .inr (az b8 (az e.size h)):aO pg 78 #[lsv z,itv x,.bool g] W λe9 w9=>∃v,e9= .returned v/\(∃Q:Lv,v= .tuple #[lsv Q,.nilIface]/\NwL F s (L++M.take (k+1)) (G++gdL D (M.take (k+1))) w9 Q)/\Ext W w9))
   generalize i1:L++M.take (k+1)=Ln at*;generalize i4:G++gdL D (M.take (k+1))=Gn at*;refine ou 12 11 [rwI 5 (.bool g),rw1 6 (λz9 W=>∃Q:Lv,z9= .tuple #[lsv Q,.nilIface]/\NwL F s Ln Gn W Q),rw1 8 (λz9 W=>∃Q:Lv,z9=lsv Q/\NwL F s Ln Gn W Q),rw1 9 (λz9 _=>z9= .nilIface),rwB 10 (λz9 W=>∃q,z9=Vp q/\I.heap.size<=q/\BxL W q zLv),rw2 11 10 (λ_ v W=>∃q Q,v=Vp q/\I.heap.size<=q/\BxL W q Q/\NwL F s Ln Gn W Q)] (Ext I) (λ_=>True) Ext (KLC I) ((Ext.refl _).drew) trivial (λ_ _=>Ext.trans) (λ_ _ _ _=>trivial)
        ⟨(λ_ _ _ _ h _=>h),(λ_ _ _ _ _ _ h _=>h),(by rintro _ _ _ _ ⟨Z,O,Y⟩ e;exact⟨Z,O,Y.ext e⟩),(λ_ _=>by rintro _ _ _ _ ⟨Z,O,Y⟩ e;exact⟨Z,O,Y.klc e⟩),(by rintro _ _ _ _ ⟨Z,O,Y⟩ e;exact⟨Z,O,Y.ext e⟩),(λ_ _=>by rintro _ _ _ _ ⟨Z,O,Y⟩ e;exact⟨Z,O,Y.klc e⟩),(λ_ _ _ _ h _=>h),(λ_ _ _ _ _ _ h _=>h),(by rintro _ _ _ _ ⟨q,O,Y,h3⟩ e;exact⟨q,O,Y,h3.ext e⟩),(λh=>by cases h),(by rintro _ _ _ _ ⟨q,Z,O,Y,h3,h4⟩ e;exact⟨q,Z,O,Y,h3.ext e,h4.ext e⟩),(λ_ h=>absurd rfl h),trivial⟩ λρ hI=>?_
   refine .s1 5 false [] (λW X _ _=>by
        have a0:=X.keep q0;have a1:=X.keep q1;have a2:=X.keep q2;have a3:=X.keep q3;have a4:=X.keep q4;have a5:=X.keep q5;have a6:=X.keep q6;have e0:=X.keep z0;have e1:=X.keep z1;have e2:=X.keep Q;have e3:=X.keep z3;have e4:=X.keep z4;have e5:=X.keep z5;have e6:=X.keep z6;have e7:=X.keep z7;have e8:=X.keep z8;exact jD) ?_
   refine .kv1 hI 0 (.bool g) (λW hx=>g8.out W hx) ?_;refine .o1 1 false [] (λW hx _ _ N hN=>?_) ?_
   ·go_simp
    exact(b9.out W hx).mono (by rintro e I ⟨v,rfl,O,Y⟩;exact⟨_,rfl,hN _ _ (λ_ e=>by cases e) O Y⟩)
   refine .s1 1 false [] (λW X _ _=>jD) ?_;refine .o1 2 false [1] (λW hx _ f N hN=>?_) ?_
   ·obtain⟨⟨Z,e9,g4⟩,_⟩:=f
    have e9:ρ 6=_:=e9
    go_simp
    exact hN _ _ (λ_ e=>by cases e) ⟨Z,rfl,g4⟩ (Ext.refl _)
   refine .o1 3 false [1] (λW hx _ f N hN=>?_) ?_
   ·obtain⟨⟨Z,e9,g4⟩,_⟩:=f
    have e9:ρ 6=_:=e9
    go_simp
    exact hN _ _ (λ_ e=>by cases e) rfl (Ext.refl _)
   refine .o1 4 false [] (λW hx _ _ N hN=>?_) ?_
   ·go_simp
    exact hN _ _ (λ_ e=>by cases e) ⟨_,rfl,hx.size,BxL.new W zLv⟩ ((Ext.refl W).alloc _)
   refine .o0 5 [4,2] (λW hx _ f N hN=>?_) ?_
   ·obtain⟨⟨qb,d5,f9,u⟩,⟨Z,g7,i3⟩,_⟩:=f
    have d5:ρ 10=_:=d5;have g7:ρ 8=_:=g7;obtain⟨k0,k1,k2,k3,k4,k5,k6,k7,k8⟩:=u.cells;have f0:=u.thaw 0;have f1:=u.thaw 1;have f2:=u.thaw 2;have f3:=u.thaw 3;have f4:=u.thaw 4;have f5:=u.thaw 5;have f6:=u.thaw 6;have f7:=u.thaw 7;have f8:=u.thaw 8;have hk:=Oa Z f9 u
    go_simp
    exact hN _ _ (λ_ e=>by cases e) ⟨qb,Z,d5,f9,u.put Z,i3.klc hk⟩ (hk.1 hx) hk
   refine .fin λW hR ⟨_,_,h8,h9,_,jV,_⟩=>?_
   obtain⟨qn,zn,eq,l3,g0,g1⟩:=jV rfl;rw[show ρ 10=_ from eq,show ρ 9=_ from h9 rfl];clear h8 h9 g8 b9 q0 q1 q2 q3 q4 q5 q6 z0 z1 Q z3 z4 z5 z6 z7 z8 jV;generalize W=W6 at*;have H:=b3.out.ext hR;have a:=b7.out.ext hR;have d6:=b4.out.trans hR;have d9:=az b8 hR.size;obtain⟨k0,k1,k2,k3,k4,k5,k6,k7,k8⟩:=g0.cells;obtain⟨z0,z1,Q,z3,z4,z5,z6,z7,z8⟩:=H.cells;have f0:=H.thaw 0;have f1:=H.thaw 1;have f2:=H.thaw 2;have f3:=H.thaw 3;have f4:=H.thaw 4;have f5:=H.thaw 5;have f6:=H.thaw 6;have f7:=H.thaw 7;have f8:=H.thaw 8;have j:=ac (show BxL (qM W6 J zn) J zn/\BxL (qM W6 J zn) (J+1) zLv/\NwL F s Ln Gn (qM W6 J zn) zn/\Ext w (qM W6 J zn)/\s<=(qM W6 J zn).heap.size from
        ⟨H.put zn,(nE W6 J zn).blk a ω,g1.rx (nE W6 J zn) g6.out ω,RX.down d6 (by rw[a7.out];exact am _) (nE W6 J zn),az d9 (nE W6 J zn).size⟩)
   clear H a d6 d9 g1 g0 hR g2 b3 b7 b4 U hN bx br hx;go_wp2
   go_roundw
   case rel=>exact⟨k+1,zn,ω,ν,ac j.out.1,ac j.out.2.1,ac (by rw[i1,i4];exact j.out.2.2.1),ac j.out.2.2.2.1,j.out.2.2.2.2⟩
   case measure=>simp[intOf];omega
  ·obtain rfl:k=m:=ω
   have a8:M.take k=M:=aU (by rw[hm.out];exact am _);have d3:=hN.out;rw[a8] at d3;obtain⟨k0,k1,k2,k3,k4,k5,k6,k7,k8⟩:=bx.out.cells;have a:=br.out;have f0:=a.thaw 0;have f1:=a.thaw 1;have f2:=a.thaw 2;have f3:=a.thaw 3;have f4:=a.thaw 4;have f5:=a.thaw 5;have f6:=a.thaw 6;have f7:=a.thaw 7;have f8:=a.thaw 8;obtain⟨z0,z1,k9,z3,z4,z5,z6,z7,z8⟩:=a.cells;have d2:=nE wr (J+1) z;obtain⟨j0,j1,j2,j3,j4,j5,j6,j7,j8⟩:=(a.put z).cells;have j:=ac (show NwL F w.heap.size (L++M) (G++gdL D M) (qM wr (J+1) z) z/\Ext w (qM wr (J+1) z) from by
        have O:=d3.rx d2 (λb hb=>Nat.lt_succ_of_lt (g6.out b hb)) ω;obtain⟨F1,Y,h3⟩:=O;exact⟨⟨F1,Y,λb hb=>(h3 b hb).imp id λh=>by rw[a7.out];omega⟩,RX.down hx.out (by rw[a7.out];omega) d2⟩)
   clear hN d3 hx a8 d2 br bx a
   go_wp2_with fail
   exact aB (v:= .tuple #[lsv z,.nilIface]) (by simp[cg,results43,go_sem,j0,j1,j2,j3,j4,j5,j6,j7,j8]) rfl ⟨z,rfl,j.out.1,j.out.2⟩
def Mk1 (L:List It) (G e:List I2) (P:I2->Bool):Prop:=∀a,jw L a=true->mW e a=(mW G a||P a)
theorem Mk1.more {e:List I2} {P:I2->Bool} (h:Mk1 L G e P) (b:I2):Mk1 L G (e++[b]) (λa=>P a||decide (b=a)):=λa f=>by
 rw[Ph,h a f,dD];simp[mW]
theorem Rf (h:LCx F w y L G) (C:Option Addr) (nd cc:Nat) (D:List Sp) (hD:SpS w C D) (hn:D.length=nd) (a9:wfS D) (e6:nd<=400000) (V:List I2) (X:∀c k,jw L (c,k)=true↔0<=k/\k<jq V c) (hl:L.length<=310000):
  aO pg 42 #[lsv y,.slice C nd cc] w λe w'=>∃z G',e= .returned (.tuple #[lsv z,.nilIface])/\NwL F w.heap.size L G' w' z/\Mk1 L G G' (λa=>jJ D a.1 a.2)/\Ext w w':=by
 have e0:=ac h.lt;replace hD:=ac hD;replace hn:=ac hn;replace a9:=ac a9;replace X:=ac X;replace h:=ac h;go_enter func42,ntmps42;go_wp2;have x0:Ext w ((w.alloc (.cells #[.slice y.A y.n y.c,.pointer y.l,.pointer y.r,Vi y.h,Vi y.m,Vi y.s,Vq y.lo,Vq y.hi,.pointer y.p] 66)).alloc (.cells #[.slice none 0 0,.pointer none,.pointer none,Vi 0,Vi 0,Vi 0,Vq 0,Vq 0,.pointer none] 66)):=((Ext.refl _).alloc _).alloc _;have b0:BxL ((w.alloc (.cells #[.slice y.A y.n y.c,.pointer y.l,.pointer y.r,Vi y.h,Vi y.m,Vi y.s,Vq y.lo,Vq y.hi,.pointer y.p] 66)).alloc (.cells #[.slice none 0 0,.pointer none,.pointer none,Vi 0,Vi 0,Vi 0,Vq 0,Vq 0,.pointer none] 66)) w.heap.size y:=(BxL.new w y).ext ((Ext.refl _).alloc _);have b1:BxL ((w.alloc (.cells #[.slice y.A y.n y.c,.pointer y.l,.pointer y.r,Vi y.h,Vi y.m,Vi y.s,Vq y.lo,Vq y.hi,.pointer y.p] 66)).alloc (.cells #[.slice none 0 0,.pointer none,.pointer none,Vi 0,Vi 0,Vi 0,Vq 0,Vq 0,.pointer none] 66)) (w.heap.size+1) zLv:=by
  have:=BxL.new (w.alloc (.cells #[.slice y.A y.n y.c,.pointer y.l,.pointer y.r,Vi y.h,Vi y.m,Vi y.s,Vq y.lo,Vq y.hi,.pointer y.p] 66)) zLv;rwa[show(w.alloc (.cells #[.slice y.A y.n y.c,.pointer y.l,.pointer y.r,Vi y.h,Vi y.m,Vi y.s,Vq y.lo,Vq y.hi,.pointer y.p] 66)).heap.size=w.heap.size+1 by simp] at this
 have a4:((w.alloc (.cells #[.slice y.A y.n y.c,.pointer y.l,.pointer y.r,Vi y.h,Vi y.m,Vi y.s,Vq y.lo,Vq y.hi,.pointer y.p] 66)).alloc (.cells #[.slice none 0 0,.pointer none,.pointer none,Vi 0,Vi 0,Vi 0,Vq 0,Vq 0,.pointer none] 66)).heap.size=w.heap.size+1+1:=ι
 generalize(w.alloc (.cells #[.slice y.A y.n y.c,.pointer y.l,.pointer y.r,Vi y.h,Vi y.m,Vi y.s,Vq y.lo,Vq y.hi,.pointer y.p] 66)).alloc (.cells #[.slice none 0 0,.pointer none,.pointer none,Vi 0,Vi 0,Vi 0,Vq 0,Vq 0,.pointer none] 66)=W1 at*;have e4:=ac (am w.heap.size);have d1:=ac (λb (hb:F b)=>e0.out b hb);generalize a1:w.heap.size=J at*;replace a1:=ac a1;replace a4:=ac a4;have a3:NwL F W1.heap.size L G W1 y:=⟨F,h.out.ext x0,λb hb=> .inl hb⟩;obtain⟨s,hs⟩:∃s,W1.heap.size=s:=⟨_,rfl⟩;rw[hs] at a3;have d5:=ac (show s=J+1+1 by rw[<-hs];exact a4.out);have hps:J+1<s:=by have:=d5.out;omega
 replace hs:=ac hs;replace a3:=ac a3;replace b0:=ac b0;replace b1:=ac b1;replace x0:=ac x0;clear a4
 go_loopw [13] (λi W=>∃(k:Nat) (z:Lv) (U:List I2),k<=nd/\i=Vi (k:Nat)/\Hid (BxL W J z)/\Hid (BxL W (J+1) zLv)/\Hid (NwL F s L U W z)/\Hid (Mk1 L G U (λa=>jJ (D.take k) a.1 a.2))/\Hid (Ext w W)/\s<=W.heap.size) (λi _=>nd-(intOf i).toNat)
 case atStart=>exact⟨0,y,G,bN _,rfl,b0,b1,a3,ac (λa Y=>by simp[jJ]),x0,by rw[hs.out];exact am _⟩
 case round=>
  clear b0 b1 a3 x0;obtain⟨k,z,U,hk,rfl,bx,br,hN,a5,hx,K⟩:=hrel;by_cases d6:k<nd
  ·obtain⟨bb,oo,c,f,t,rfl,hp,q0,q1,q2⟩:=(hD.out.ext hx.out).at (k:=k) (by rw[hn.out];exact d6)
   have b7:=a9.out (c,f,t) (aD hp);simp only at b7;have d3:=ac (λ(M:List I2) (hg:Mk1 L U M (λa=>decide (a.1=c/\f<=a.2/\a.2<t)))=>(λa Y=>by
        rw[hg a Y,a5.out a Y,bG,hp];show(mW G a||jJ (D.take k) a.1 a.2||decide (a.1=c/\f<=a.2/\a.2<t))=(mW G a||jJ (D.take k++[(c,f,t)]) a.1 a.2);rw[kP,dD]
        congr 2
        simp only[jJ,fO,inS]
        congr 1
        rw[eq_iff_iff];exact⟨λh=>⟨h.1.symm,h.2⟩,λh=>⟨h.1.symm,h.2⟩⟩:Mk1 L G M (λa=>jJ (D.take (k+1)) a.1 a.2)))
   clear hp;have x1:Ext wr (wr.alloc (.cells #[Vu c,Vu f,Vu t] 74)):=(Ext.refl _).alloc _;have bo:=ac (show(wr.alloc (.cells #[Vu c,Vu f,Vu t] 74)).heap[wr.heap.size]? =some (.cells #[Vu c,Vu f,Vu t] 74 (0,0)) from aI wr _);have b5:=ac (bx.out.ext x1);have b6:=ac (br.out.ext x1);have b3:=ac (hN.out.ext x1);have a8:=ac (hx.out.trans x1);have a0:=az K x1.size;have d9:s<=wr.heap.size:=K;clear bx br hN hx K x1 a5
   go_upto_block 1 with fail
   go_cut [8] (λ_ wx=>∃(z:Lv) (M:List I2),Hid (BxL wx J z)/\Hid (BxL wx (J+1) zLv)/\Hid (NwL F s L M wx z)/\Hid (Mk1 L U M (λa=>decide (a.1=c/\f<=a.2/\a.2<t)))/\Hid (Ext w wx)/\s<=wx.heap.size)
   case first=>
        go_wp2_with fail
        generalize wr.alloc (.cells #[Vu c,Vu f,Vu t] 74)=W3 at*;generalize wr.heap.size=bi at*;clear q0 q1 q2 d3
        go_loopw [8] (λsv W=>∃(q:Int) (z:Lv) (M:List I2),sv=Vu q/\f<=q/\(q<=t\/q=f)/\Hid (BxL W J z)/\Hid (BxL W (J+1) zLv)/\Hid (NwL F s L M W z)/\Hid (Mk1 L U M (λa=>decide (a.1=c/\f<=a.2/\a.2<q)))/\Hid (W.heap[bi]? =some (.cells #[Vu c,Vu f,Vu t] 74 (0,0)))/\Hid (Ext w W)/\s<=W.heap.size) (λsv _=>(t-intOf sv).toNat)
        case atStart=>exact⟨f,z,U,rfl,Int.le_refl _,.inr rfl,b5,b6,b3,ac (λa Y=>by
         have:decide (a.1=c/\f<=a.2/\a.2<f)=false:=by rw[decide_eq_false_iff_not];omega
         show mW U a=(mW U a||decide (a.1=c/\f<=a.2/\a.2<f));rw[this,fO]),bo,a8,a0⟩
        case round=>
         clear b5 b6 b3 bo a8 a0;obtain⟨q,z,M,rfl,d7,e3,bx,br,hN,N,bo,hx,K⟩:=hrel;have o0:wr.cell? ⟨bi,0,none⟩=some (Vu c):=aj wr bi 0 _ _ _ bo.out;have o2:wr.cell? ⟨bi,2,none⟩=some (Vu t):=aj wr bi 2 _ _ _ bo.out;by_cases Zg:q<t
         ·have g1:decide (q<t)=true:=decide_eq_true Zg
          obtain⟨z0,z1,z2,z3,z4,z5,z6,z7,z8⟩:=bx.out.cells;have a7:lF 1= .iface 56 (.int .i64 1):=by simp[lF]
          cases hin:jw L (c,q) with
          |false=>
           have Q:=ac (by
            obtain⟨F1,⟨t1,d4,b4⟩,d2⟩:=hN.out;have:=b4.agq ω c q hin;rw[a7] at this;exact this:aO pg 76 #[lsv z,idv c q] wr λe w'=>∃z2:Lv,e= .returned (.tuple #[lsv z2,.iface 56 (.int .i64 1)])/\Ext wr w')
           have O:=ac (show Mk1 L U M (λa=>decide (a.1=c/\f<=a.2/\a.2<t)) from λa Y=>by
            rw[N.out a Y]
            congr 1
            rw[decide_eq_decide];have e5:=mt (X.out c q).2 (by rw[hin];simp);have h0:=b7.2.2.1;constructor
            ·exact λg=>⟨g.1,g.2.1,ω⟩
            ·intro g
             have h2:=(X.out a.1 a.2).1 Y;rw[g.1] at h2;exact⟨g.1,g.2.1,ω⟩)
           clear hin a7 N
           go_wp2_with fail
           refine Q.out.mono ?_;rintro e w4 ⟨j,rfl,x4⟩;clear Q z0 z1 z2 z3 z4 z5 z6 z7 z8;have x5:=x4.alloc (.cells #[.slice j.A j.n j.c,.pointer j.l,.pointer j.r,Vi j.h,Vi j.m,Vi j.s,Vq j.lo,Vq j.hi,.pointer j.p] 66)
           go_wp2_with fail
           refine(adZ _).mono ?_;rintro e w6 ⟨rfl,x6⟩;have Z:=x5.trans x6
           go_wp2_with fail
           go_meet;exact⟨z,M,ac (bx.out.ext Z),ac (br.out.ext Z),ac (hN.out.ext Z),O,ac (hx.out.trans Z),az K Z.size⟩
          |true=>
           have Q:=ac (by
            obtain⟨F1,⟨t1,d4,b4⟩,d2⟩:=hN.out;refine(b4.del ω c q hin).mono ?_;rintro e w' ⟨F2,z2,rfl,h1,h2,h3⟩;exact⟨z2,rfl,⟨F2,⟨t1,d4,h1⟩,λb hb=>by
             rcases h2 b hb with h|h
             ·exact d2 b h
             ·exact .inr (az K h)⟩,h3⟩:aO pg 76 #[lsv z,idv c q] wr λe w'=>∃z2:Lv,e= .returned (.tuple #[lsv z2,.nilIface])/\NwL F s L (M++[(c,q)]) w' z2/\Ext wr w')
           have O:=ac (show Mk1 L U (M++[(c,q)]) (λa=>decide (a.1=c/\f<=a.2/\a.2<q+1)) from λa Y=>by
            rw[N.out.more (c,q) a Y]
            congr 1
            rw[dC,cE,decide_eq_true_eq,decide_eq_true_eq,decide_eq_true_eq];constructor
            ·rintro(g|g)
             ·exact⟨g.1,g.2.1,ω⟩
             ·subst g
              exact⟨rfl,d7,ω⟩
            ·intro g
             by_cases e:a.2=q
             ·exact .inr (Prod.ext g.1.symm e.symm)
             ·exact .inl ⟨g.1,g.2.1,ω⟩)
           have e2:ak.wrap (q+1)=q+1:=fh _ ω;clear hin a7 N hN
           go_wp2_with fail
           refine Q.out.mono ?_;rintro e w4 ⟨j,rfl,b9,x4⟩;clear Q z0 z1 z2 z3 z4 z5 z6 z7 z8;have x5:=x4.alloc (.cells #[.slice j.A j.n j.c,.pointer j.l,.pointer j.r,Vi j.h,Vi j.m,Vi j.s,Vq j.lo,Vq j.hi,.pointer j.p] 66);have bn:=BxL.new w4 j;have a6:=b9.ext ((Ext.refl w4).alloc (.cells #[.slice j.A j.n j.c,.pointer j.l,.pointer j.r,Vi j.h,Vi j.m,Vi j.s,Vq j.lo,Vq j.hi,.pointer j.p] 66));replace bn:=ac bn;replace a6:=ac a6
           go_wp2_with fail
           generalize w4.alloc (.cells #[.slice j.A j.n j.c,.pointer j.l,.pointer j.r,Vi j.h,Vi j.m,Vi j.s,Vq j.lo,Vq j.hi,.pointer j.p] 66)=w5 at*;generalize w4.heap.size=qn at*;refine(afw _).mono ?_;rintro e w6 ⟨rfl,x6⟩;have Z:=x5.trans x6;have I:=bx.out.ext Z;have u:=br.out.ext Z;obtain⟨k0,k1,k2,k3,k4,k5,k6,k7,k8⟩:=(bn.out.ext x6).cells;obtain⟨z0,z1,z2,z3,z4,z5,z6,z7,z8⟩:=I.cells;have f0:=I.thaw 0;have f1:=I.thaw 1;have f2:=I.thaw 2;have f3:=I.thaw 3;have f4:=I.thaw 4;have f5:=I.thaw 5;have f6:=I.thaw 6;have f7:=I.thaw 7;have f8:=I.thaw 8;have H:=ac (show BxL (qM w6 J j) J j/\BxL (qM w6 J j) (J+1) zLv/\NwL F s L (M++[(c,q)]) (qM w6 J j) j/\(qM w6 J j).heap[bi]? =some (.cells #[Vu c,Vu f,Vu t] 74 (0,0))/\Ext w (qM w6 J j)/\s<=(qM w6 J j).heap.size from
            ⟨I.put j,(nE w6 J j).blk u ω,(a6.out.ext x6).rx (nE w6 J j) d1.out ω,(nE w6 J j).blk (Z.blk bo.out) ω,RX.down (hx.out.trans Z) (by rw[a1.out];exact am _) (nE w6 J j),az K (az Z.size (nE w6 J j).size)⟩)
           clear I u a6 bn x5 x6 Z b9 x4 bx br hx bo o0 o2;go_wp2
           go_roundw
           case rel=>exact⟨q+1,j,_,ν,ω,ω,ac H.out.1,ac H.out.2.1,ac H.out.2.2.1,O,ac H.out.2.2.2.1,ac H.out.2.2.2.2.1,H.out.2.2.2.2.2⟩
           case measure=>simp[intOf];omega
         ·have g1:decide (q<t)=false:=decide_eq_false Zg
          have O:=ac (show Mk1 L U M (λa=>decide (a.1=c/\f<=a.2/\a.2<t)) from λa Y=>by
           rw[N.out a Y]
           congr 1
           rw[decide_eq_decide];constructor
           ·exact λg=>⟨g.1,g.2.1,ω⟩
           ·exact λg=>⟨g.1,g.2.1,ω⟩)
          clear N
          go_wp2_with fail
          go_meet;exact⟨z,M,bx,br,hN,O,hx,K⟩
   case rest=>
        obtain⟨zn,M,bx,br,hN,N,hx,K⟩:=hcut;clear bo b5 b6 b3 a8 a0 d9 q0 q1 q2;go_wp2
        go_roundw
        case rel=>exact⟨k+1,zn,M,ω,ν,bx,br,hN,ac (d3.out M N.out),hx,K⟩
        case measure=>simp[intOf];omega
  ·obtain rfl:k=nd:=ω
   have a2:D.take k=D:=aU (by rw[hn.out];exact am _);have b8:=ac (show Mk1 L G U (λa=>jJ D a.1 a.2) from λa Y=>by have:=a5.out a Y;rw[a2] at this;exact this);obtain⟨k0,k1,k2,k3,k4,k5,k6,k7,k8⟩:=bx.out.cells;have u:=br.out;have f0:=u.thaw 0;have f1:=u.thaw 1;have f2:=u.thaw 2;have f3:=u.thaw 3;have f4:=u.thaw 4;have f5:=u.thaw 5;have f6:=u.thaw 6;have f7:=u.thaw 7;have f8:=u.thaw 8;obtain⟨z0,z1,e1,z3,z4,z5,z6,z7,z8⟩:=u.cells;have b2:=nE wr (J+1) z;obtain⟨j0,j1,j2,j3,j4,j5,j6,j7,j8⟩:=(u.put z).cells;have H:=ac (show NwL F w.heap.size L U (qM wr (J+1) z) z/\Ext w (qM wr (J+1) z) from by
        have h1:=hN.out.rx b2 (λb hb=>Nat.lt_succ_of_lt (d1.out b hb)) ω;obtain⟨F1,h2,h3⟩:=h1;exact⟨⟨F1,h2,λb hb=>(h3 b hb).imp id λh=>by rw[a1.out];omega⟩,RX.down hx.out (by rw[a1.out];omega) b2⟩)
   clear hN hx a2 b2 br bx u a5
   go_wp2_with fail
   exact aB (v:= .tuple #[lsv z,.nilIface]) (by simp[cg,results42,go_sem,j0,j1,j2,j3,j4,j5,j6,j7,j8]) rfl ⟨z,rfl,U,H.out.1,b8.out,H.out.2⟩
end
section
variable {i:Nat} {l:List It}
theorem Ua {a b c d:Int}:mK a b c d<0↔ltI (a,b) (c,d)=true:=by
 rw[qZ];unfold mK rP;simp only
 repeat' split
 all_goals omega
theorem PN {a b c d:Int}:mK a b c d=0↔(a,b)=(c,d):=by
 rw[Prod.mk.injEq];unfold mK rP
 repeat' split
 all_goals omega
theorem JO (x:It) (c t:Int) (w:ae):aO pg 99 #[itv x,idv c t] w λe w'=>e= .returned (Vi (mK x.c x.k c t))/\Ext w w':=by
 have x2:Ext w ((w.alloc (.cells #[Vu x.c,Vu x.k,Vu x.lc,Vu x.lk,Vu x.rc,Vu x.rk,.int .i32 x.ch] 106)).alloc (.cells #[Vu c,Vu t] 38)):=((Ext.refl w).alloc _).alloc _;have a:=ac (MW x.c x.k c t ((w.alloc (.cells #[Vu x.c,Vu x.k,Vu x.lc,Vu x.lk,Vu x.rc,Vu x.rk,.int .i32 x.ch] 106)).alloc (.cells #[Vu c,Vu t] 38)));go_enter func99,ntmps99
 go_wp2_with fail
 refine a.out.mono ?_;rintro e w' ⟨rfl,x⟩;go_wp2;go_ret;exact⟨rfl,x2.trans x⟩
theorem vP (h:oV l) {j:Nat} {x y:It} (hi:l[i]? =some x) (f:l[j]? =some y) (a:i<j):ltI (iid x) (iid y)=true:=by
 obtain⟨l1,u⟩:=aq.1 hi;obtain⟨e,q⟩:=aq.1 f;have:=List.pairwise_iff_getElem.1 h i j l1 e a;rwa[u,q] at this
theorem Qu (h:oV l) {a:I2} (H:∀j x,j<i->l[j]? =some x->ltI (iid x) a=true) (z:∀j x,i<=j->l[j]? =some x->ltI (iid x) a=false):jw l a=match l[i]? with|some x=>decide (iid x=a)|none=>false:=by
 have key:∀j x,l[j]? =some x->iid x=a->j=i:=λj x f e=>by
  rcases Nat.lt_trichotomy j i with g|g|g
  ·have:=H j x g f
   rw[e] at this;exact absurd this (BL a)
  ·exact g
  ·obtain⟨I,_⟩:=aq.1 f
   have hi:l[i]? =some (l[i]'(by omega)):=ay ω;have q:=vP h hi f g;rw[e,z i _ (am _) hi] at q;cases q
 rw[dC,jO];constructor
 ·rintro⟨x,u,e⟩
  obtain⟨j,f⟩:=List.mem_iff_getElem?.1 u;have:=key j x f e;subst this;rw[f];exact decide_eq_true e
 ·intro q
  cases hi:l[i]? with
  |none=>rw[hi] at q;cases q
  |some x=>
   rw[hi] at q;exact⟨x,aD hi,of_decide_eq_true q⟩
def Xi (l:List It) (a:I2) (e:Ending):Prop:=∃i:Nat,e= .returned (.tuple #[Vi (i:Int),.bool (jw l a)])/\(jw l a=true->∃x,l[i]? =some x/\iid x=a)
theorem SE {a:I2} {x:It} (hi:l[i]? =some x) (e:iid x=a):jw l a=true/\(jw l a=true->∃x,l[i]? =some x/\iid x=a):=
 ⟨jO.2 ⟨x,aD hi,e⟩,λ_=>⟨x,hi,e⟩⟩
theorem NU (A:Option Addr) (n cap:Nat) (l:List It) (c t:Int) (w:ae) (hv:ItS w A l) (hn:l.length=n) (hm:oV l) (hb:n<=400000):
  aO pg 98 #[.slice A n cap,idv c t,.func (.func 99) #[] #[]] w λe w'=>Xi l (c,t) e/\Ext w w':=by
 replace hn:=ac hn;replace hv:=ac hv;replace hm:=ac hm;go_enter func98,ntmps98;go_wp2;have x0:Ext w (w.alloc (aT #[ao ak c,ao ak t] 38)):=(Ext.refl _).alloc _;have q0:(w.alloc (aT #[ao ak c,ao ak t] 38)).cell? ⟨w.heap.size,0,none⟩=some (Vu c):=σ
 have q1:(w.alloc (aT #[ao ak c,ao ak t] 38)).cell? ⟨w.heap.size,1,none⟩=some (Vu t):=σ
 generalize w.alloc (aT #[ao ak c,ao ak t] 38)=W0 at*;generalize w.heap.size=pt at*
 go_loopg [9,10] n (λkx s9 a2 wr=>∃lo hi:Nat,s9= .int .i64 lo/\a2= .int .i64 hi/\lo<=hi/\hi<=n/\hi-lo<=kx/\Ext W0 wr/\
  Hid ((∀j p,j<lo->l[j]? =some p->ltI (iid p) (c,t)=true)/\(∀j p,hi<=j->l[j]? =some p->ltI (iid p) (c,t)=false)))
 case atStart=>exact⟨0,n,rfl,rfl,bN _,am _,ω,Ext.refl _,ac ⟨λj p ht=>absurd ht (Nat.not_lt_zero _),λj p h1 h2=>by
  rw[cU (by rw[hn.out];exact h1)] at h2;cases h2⟩⟩
 case round=>
  obtain⟨lo,hi,rfl,rfl,a8,hin,hg,X,I⟩:=hrel;have s0:=ai (X.keep q0);have s1:=ai (X.keep q1);by_cases a7:lo<hi
  ·obtain⟨u,a1⟩:∃u:Nat,u=(lo+hi)/2:=⟨_,rfl⟩
   obtain⟨b,o,x,rfl,U,c0,c1,c2,c3,c4,c5,c6⟩:=(hv.out.ext (x0.trans X)).at (k:=u) (by rw[hn.out];omega);replace U:=ac U;replace c0:=ai c0;replace c1:=ai c1;replace c2:=ai c2;replace c3:=ai c3;replace c4:=ai c4;replace c5:=ai c5;replace c6:=ai c6;have f:=λW=>JO x c t W
   obtain⟨q,Q⟩:∃q,mK x.c x.k c t=q:=⟨_,rfl⟩;rw[Q] at f;replace f:=ac f;have uN:((lo:Int)+(hi:Int))/2=(u:Int):=ω
   have a9:lo<=u/\u<hi:=ω
   have a6:(0:Int)<=(u:Int):=ω
   have a5:(u:Int)<(n:Int):=ω
   clear a1;replace uN:=ac uN;by_cases N:q<0
   ·have a0:decide (q<0)=true:=by simpa using N
    replace Q:=ac (show ltI (iid x) (c,t)=true from Ua.1 (by rw[Q];exact N));have H:=ac (show(∀j p,j<u+1->l[j]? =some p->ltI (iid p) (c,t)=true)/\(∀j p,hi<=j->l[j]? =some p->ltI (iid p) (c,t)=false) from⟨λj p hj J=>by
     rcases bL j u with g|g
     ·exact qP (vP hm.out J U.out g) Q.out
     ·have e:j=u:=ω
      subst e;rw[U.out] at J;injection J with J;subst J;exact Q.out,I.out.2⟩)
    go_wp2_with fail
    rw[uN.out];clear uN;refine ax κ κ ?_
    repeat go_big_quiet_step((with_reducible exact Calls.jA (f.out _)))
    refine bh ?_;intro _ M;obtain⟨⟨Y,osq⟩,z⟩:=M;subst z;have x1:=Ext.jv wr Y osq;go_wp2
    go_roundg (hi-(u+1))
    case measure=>omega
    case rel=>exact⟨u+1,hi,ν,rfl,ω,hin,am _,X.trans x1,H⟩
   ·have a0:decide (q<0)=false:=by simpa using N
    replace Q:=ac (show ltI (iid x) (c,t)=false from hQ.2 λg=>N (by rw[<-Q];exact Ua.2 g));have H:=ac (show(∀j p,j<lo->l[j]? =some p->ltI (iid p) (c,t)=true)/\(∀j p,u<=j->l[j]? =some p->ltI (iid p) (c,t)=false) from⟨I.out.1,λj p hj J=>by
     rcases bL u j with g|g
     ·refine hQ.2 λh=>?_
      have:=qP (vP hm.out U.out J g) h;rw[Q.out] at this;cases this
     ·have e:j=u:=ω
      subst e;rw[U.out] at J;injection J with J;subst J;exact Q.out⟩)
    go_wp2_with fail
    rw[uN.out];clear uN;refine ax κ κ ?_
    repeat go_big_quiet_step((with_reducible exact Calls.jA (f.out _)))
    refine bh ?_;intro _ M;obtain⟨⟨Y,osq⟩,z⟩:=M;subst z;have x1:=Ext.jv wr Y osq;go_wp2
    go_roundg (u-lo)
    case measure=>omega
    case rel=>exact⟨lo,u,rfl,rfl,ω,ω,am _,X.trans x1,H⟩
  ·obtain rfl:hi=lo:=ω
   have hf:=ac (Qu (a:=(c,t)) (i:=hi) hm.out I.out.1 I.out.2);by_cases O:hi<n
   ·obtain⟨b,o,x,rfl,U,c0,c1,c2,c3,c4,c5,c6⟩:=(hv.out.ext (x0.trans X)).at (k:=hi) (by rw[hn.out];exact O)
    replace c0:=ai c0;replace c1:=ai c1;replace c2:=ai c2;replace c3:=ai c3;replace c4:=ai c4;replace c5:=ai c5;replace c6:=ai c6;have a6:(0:Int)<=(hi:Int):=ω
    have a5:(hi:Int)<(n:Int):=ω
    have a4:decide ((hi:Int)<(n:Int))=true:=by simpa using O
    have a3:decide (hi<n)=true:=by simpa using O
    have f:=λW=>JO x c t W
    have K:=hf.out;rw[U] at K;simp only at K;obtain⟨q,Q⟩:∃q,mK x.c x.k c t=q:=⟨_,rfl⟩;rw[Q] at f;replace f:=ac f;clear hf;by_cases N:q=0
    ·subst N
     have he:iid x=(c,t):=PN.1 Q;have H:=ac (show Xi l (c,t) (.returned (.tuple #[.int .i64 (hi:Nat),.bool true])) from⟨hi,by rw[(SE U he).1],(SE U he).2⟩);clear U Q he K
     go_wp2_with fail
     refine ax κ κ ?_
     repeat go_big_quiet_step((with_reducible exact Calls.jA (f.out _)))
     refine bh ?_;intro _ M;obtain⟨⟨Y,osq⟩,z⟩:=M;subst z;have x1:=Ext.jv wr Y osq;go_wp2
     go_ret2
     exact⟨H.out,(x0.trans X).trans x1⟩
    ·have a0:(q==0)=false:=by simpa using N
     have Z:jw l (c,t)=false:=by rw[K,decide_eq_false_iff_not];exact λe=>N (by rw[<-Q];exact PN.2 e)
     have H:=ac (show Xi l (c,t) (.returned (.tuple #[.int .i64 (hi:Nat),.bool false])) from⟨hi,by rw[Z],λe=>by rw[Z] at e;cases e⟩);clear U Q K N Z
     go_wp2_with fail
     refine ax κ κ ?_
     repeat go_big_quiet_step((with_reducible exact Calls.jA (f.out _)))
     refine bh ?_;intro _ M;obtain⟨⟨Y,osq⟩,z⟩:=M;subst z;have x1:=Ext.jv wr Y osq;go_wp2
     go_ret2
     exact⟨H.out,(x0.trans X).trans x1⟩
   ·have K:=hf.out
    rw[cU (by rw[hn.out];omega)] at K;have H:=ac (show Xi l (c,t) (.returned (.tuple #[.int .i64 (hi:Nat),.bool false])) from⟨hi,by rw[K],λe=>by rw[K] at e;cases e⟩);have a3:decide (hi<n)=false:=by simpa using O
    have a4:decide ((hi:Int)<(n:Int))=false:=by simpa using O
    clear hf K
    go_wp2_with fail
    refine ax κ κ ?_
    repeat go_big_quiet_step((fail))
    refine bh ?_;intro _ M;obtain⟨⟨Y,osq⟩,z⟩:=M;subst z;have x1:=Ext.jv wr Y osq;go_wp2
    go_ret2
    exact⟨H.out,(x0.trans X).trans x1⟩
end
section
variable {S:DS}
theorem Yo {l:List It} (h:oV l) {i:Nat} {x:It} {a:I2} (hi:l[i]? =some x) (e:iid x=a):uV l a=x:=by
 obtain⟨j,y,u,f,q⟩:=Cb (jO.2 ⟨x,aD hi,e⟩);rw[DI u f];rcases Nat.lt_trichotomy i j with g|g|g
 ·have:=vP h hi f g
  rw[e,q] at this;exact absurd this (BL a)
 ·subst g
  rw[hi] at f;exact(cO f).symm
 ·have:=vP h f hi g
  rw[e,q] at this;exact absurd this (BL a)
def itD (S:DS) (a:I2):It:=if jw S.L a then uV S.L a else uV S.Wt a
theorem Y9 {R:Nat->Prop} {w:ae} {d:Nat} {q:DM} (h:kV R w d S q) (hm:oV S.Wt) (hb:S.Wt.length<=400000) (c t:Int):aO pg 65 #[.pointer (some ⟨d,0,none⟩),idv c t] w λe w'=>e= .returned (.tuple #[itv (itD S (c,t)),.bool (jw S.L (c,t)||jw S.Wt (c,t))])/\Ext w w':=by
 have x0:Ext w ((w.alloc (.cells #[Vu c,Vu t] 38)).alloc (.cells #[.int .u32 0,.int .u32 0,.int .u32 0,.int .u32 0,.int .u32 0,.int .u32 0,.int .i32 0] 106)):=((Ext.refl w).alloc _).alloc _;have q0:((w.alloc (.cells #[Vu c,Vu t] 38)).alloc (.cells #[.int .u32 0,.int .u32 0,.int .u32 0,.int .u32 0,.int .u32 0,.int .u32 0,.int .i32 0] 106)).cell? ⟨w.heap.size,0,none⟩=some (Vu c):=σ
 have q1:((w.alloc (.cells #[Vu c,Vu t] 38)).alloc (.cells #[.int .u32 0,.int .u32 0,.int .u32 0,.int .u32 0,.int .u32 0,.int .u32 0,.int .i32 0] 106)).cell? ⟨w.heap.size,1,none⟩=some (Vu t):=σ
 have bi:=kI.newL (w.alloc (.cells #[Vu c,Vu t] 38)) ⟨0,0,0,0,0,0,0⟩;rw[show(w.alloc (.cells #[Vu c,Vu t] 38)).heap.size=w.heap.size+1 by simp] at bi;have h2:=ac (h.ext x0);obtain⟨tt,ad,a8⟩:=h.jF.ls;replace a8:=ac (a8.ext x0);have H:=ac (h.jF.its.ext x0);replace bi:=ac bi;replace x0:=ac x0;obtain⟨B,hB⟩:∃B,jw S.L (c,t)=B:=⟨_,rfl⟩;obtain⟨x,hX⟩:∃x,uV S.L (c,t)=x:=⟨_,rfl⟩;have a2:(itD S (c,t)=if B=true then x else uV S.Wt (c,t)):=by unfold itD;rw[hB,hX]
 rw[hB];replace a2:=ac a2;clear h;go_enter func65,ntmps65
 go_wp2_with fail
 generalize(w.alloc (.cells #[Vu c,Vu t] 38)).alloc (.cells #[.int .u32 0,.int .u32 0,.int .u32 0,.int .u32 0,.int .u32 0,.int .u32 0,.int .i32 0] 106)=W2 at*;have hps:w.heap.size<=w.heap.size+1:=Nat.le_succ _;have d4:=bi.out.lt;generalize w.heap.size+1=pi at*;have d3:=x0.out.size;generalize b9:w.heap.size=pt at*;replace hps:w.heap.size<=pi:=by rw[b9];exact hps
 obtain⟨c2,c3,c4,c5,c6,c7,c8,c9,c10⟩:=h2.out.DF;have a3:=ac (λ(W:ae) (e:Ext W2 W)=>(a8.out.ext e).item c t);rw[hB,hX] at a3;refine ou 11 10 [rwI 5 (.tuple #[itv x,.bool B]),rwB 9 (λz9 W=>∃q,z9=Vp q/\W2.heap.size<=q/\kI W q ⟨0,0,0,0,0,0,0⟩),rw2 10 9 (λ_ v W=>∃q,v=Vp q/\W2.heap.size<=q/\kI W q x)] (Ext W2) (λ_=>True) Ext (λ_ _=>True) ((Ext.refl _).drew) trivial (λ_ _=>Ext.trans) (λ_ _ _ _=>trivial)
  ⟨(λ_ _ _ _ h _=>h),(λ_ _ _ _ _ _ h _=>h),(by rintro _ _ _ _ ⟨q,h1,h2,h3⟩ e;exact⟨q,h1,h2,e.blk h3⟩),(λh=>by cases h),(by rintro _ _ _ _ ⟨q,h1,h2,h3⟩ e;exact⟨q,h1,h2,e.blk h3⟩),(λ_ h=>absurd rfl h),trivial⟩ λρ hI=>?_
 refine .s1 5 false [] (λW z _ _=>by
  have e2:=z.keep c2;have e3:=z.keep c3;have e4:=z.keep c4;have e5:=z.keep c5;have e6:=z.keep c6;have e7:=z.keep c7;have e8:=z.keep c8;have e9:=z.keep c9;have d9:=z.keep c10;have a0:=z.keep q0;have a1:=z.keep q1;exact jD) ?_
 refine .kv1 hI 0 _ (λW hx=>a3.out W hx) ?_;refine .s1 3 false [] (λW z _ _=>jD) ?_;refine .o1 1 false [] (λW hx _ _ N hN=>?_) ?_
 ·go_simp
  exact hN _ _ (λ_ e=>by cases e) ⟨_,rfl,hx.size,kI.newL W ⟨0,0,0,0,0,0,0⟩⟩ ((Ext.refl W).alloc _)
 refine .o0 2 [1] (λW hx _ f N hN=>?_) ?_
 ·obtain⟨⟨qb,b0,Z,I⟩,_⟩:=f
  have b0:ρ 9=_:=b0;obtain⟨k0,k1,k2,k3,k4,k5,k6⟩:=I.cells;simp only[aW] at k0 k1 k2 k3 k4 k5 k6;have f0:=I.lg 0;have f1:=I.lg 1;have f2:=I.lg 2;have f3:=I.lg 3;have f4:=I.lg 4;have f5:=I.lg 5;have f6:=I.lg 6;have b5:=I.all x.c x.k x.lc x.lk x.rc x.rk x.ch
  go_simp
  exact hN _ _ (λ_ e=>by cases e) ⟨qb,b0,Z,b5⟩ (((((((hx.setCell Z _).setCell Z _).setCell Z _).setCell Z _).setCell Z _).setCell Z _).setCell Z _) trivial
 refine .fin λW hR ⟨_,_,jV,_⟩=>?_
 obtain⟨qn,eq,d2,a9⟩:=jV rfl;rw[show ρ 9=_ from eq];clear a3;have u:=bi.out.ext hR;replace h2:=ac (h2.out.ext hR);replace H:=ac (H.out.ext hR);have z:=ac (x0.out.trans hR);replace q0:=hR.keep q0;replace q1:=hR.keep q1;clear c2 c3 c4 c5 c6 c7 c8 c9 c10 hR jV bi x0 a8;obtain⟨k0,k1,k2,k3,k4,k5,k6⟩:=u.cells;simp only[aW] at k0 k1 k2 k3 k4 k5 k6;have f0:=u.lg 0;have f1:=u.lg 1;have f2:=u.lg 2;have f3:=u.lg 3;have f4:=u.lg 4;have f5:=u.lg 5;have f6:=u.lg 6;cases B with
 |true=>
  obtain⟨n0,n1,n2,n3,n4,n5,n6⟩:=a9.cells;simp only[aW] at n0 n1 n2 n3 n4 n5 n6;obtain⟨Y,X,U,Q,O,M,J⟩:=(u.all x.c x.k x.lc x.lk x.rc x.rk x.ch).cells;simp only[aW] at Y X U Q O M J;have hz:=ac (aS Y (aS X (aS U (aS Q (aS O (aS M J))))));clear u Y X U Q O M J hB a9 h2 H;go_wp2;obtain⟨Y,X,U,Q,O,M,J⟩:=hz.out;exact aB (v:= .tuple #[itv x,.bool true]) (by simp[cg,results65,go_sem,Y,X,U,Q,O,M,J]) rfl ⟨by rw[a2.out];rfl,((((((z.out.setCell hps _).setCell hps _).setCell hps _).setCell hps _).setCell hps _).setCell hps _).setCell hps _⟩
 |false=>
  clear a9;have b7:=h2.out.cell (j:=12) (v:= .slice q.B S.Wt.length q.cb) rfl;obtain⟨b2,a4⟩:∃b2,jw S.Wt (c,t)=b2:=⟨_,rfl⟩;have b4:=ac (λ(W':ae) (e:Ext W W')=>NU q.B S.Wt.length q.cb S.Wt c t W' (H.out.ext e) rfl hm hb);replace a4:=ac a4
  go_wp2_with fail
  refine mg 10 [rw1 5 (λv _=>Xi S.Wt (c,t) (.returned v)),rw1 7 (λv _=>∃i:Nat,v=Vi (i:Int)/\(b2=true->∃x,S.Wt[i]? =some x/\iid x=(c,t))),rwI 8 (.bool b2)] ⟨λ_ _ _ _ h _=>h,λ_ _ _ _ h _=>h,λ_ _ _ _ h _=>h,trivial⟩ λρ hI=>?_
  refine .s 5 (λW z _=>by
   have d7:=z.keep b7;have a0:=z.keep q0;have a1:=z.keep q1;exact jD) ?_
  refine .k 0 (R:=λv _=>Xi S.Wt (c,t) (.returned v)) (λW' hx=>(b4.out W' hx).mono (by rintro e w1 ⟨⟨i,rfl,h1⟩,h2⟩;exact⟨_,rfl,⟨i,rfl,h1⟩,h2⟩)) ?_;refine .s 1 (λW z _=>jD) ?_;refine .o 1 [0] (λW hx y f N hN=>?_) ?_
  ·obtain⟨⟨i,hi,h1⟩,_⟩:=f
   have hi:ρ 5=_:=ii hi;rw[a4.out] at h1
   go_simp
   exact hN _ _ (λ_ e=>by cases e) ⟨i,rfl,h1⟩ (Ext.refl _)
  refine .v hI 2 [0] _ (λW hx y f N hN=>?_) ?_
  ·obtain⟨⟨i,hi,h1⟩,_⟩:=f
   have hi:ρ 5=_:=ii hi;rw[a4.out] at hi
   go_simp
   exact hN _ (Ext.refl _)
  refine .s 1 (λW z _=>jD) ?_;refine .fin λW4 hR ⟨_,⟨i,hi,hx⟩,_⟩=>?_
  rw[show ρ 7=_ from hi];have a:=u.ext hR;replace h2:=ac (h2.out.ext hR);have d1:=h2.out.cell (j:=12) (v:= .slice q.B S.Wt.length q.cb) rfl;have b6:=ac (z.out.trans hR);obtain⟨k0,k1,k2,k3,k4,k5,k6⟩:=a.cells;simp only[aW] at k0 k1 k2 k3 k4 k5 k6;have g0:=a.lg 0;have g1:=a.lg 1;have g2:=a.lg 2;have g3:=a.lg 3;have g4:=a.lg 4;have g5:=a.lg 5;have g6:=a.lg 6;have b1:=ac (H.out.ext hR);clear H b4 z q0 q1 f0 f1 f2 f3 f4 f5 f6 u b7 h2;cases b2 with
  |true=>
   obtain⟨x,a7,b3⟩:=hx rfl;have a5:uV S.Wt (c,t)=x:=Yo hm a7 b3;have b8:i<S.Wt.length:=(aq.1 a7).1;obtain⟨bb,oo,x',e',a6,m0,m1,m2,m3,m4,m5,m6⟩:=b1.out.at b8;obtain rfl:x'=x:=by rw[a7] at a6;injection a6 with a6;exact a6.symm
   rw[e'] at d1;have d6:(0:Int)<=(i:Int):=ω
   have d5:(i:Int)<(S.Wt.length:Int):=ω
   obtain⟨Y,X,U,Q,O,M,J⟩:=(a.all x'.c x'.k x'.lc x'.lk x'.rc x'.rk x'.ch).cells;simp only[aW] at Y X U Q O M J;have hz:=ac (aS Y (aS X (aS U (aS Q (aS O (aS M J))))));replace a5:=ac a5;clear a Y X U Q O M J hB hx a7 b3 a6 b1 e' hR;go_wp2;obtain⟨Y,X,U,Q,O,M,J⟩:=hz.out;exact aB (v:= .tuple #[itv x',.bool true]) (by simp[cg,results65,go_sem,Y,X,U,Q,O,M,J]) rfl ⟨by rw[a2.out,a4.out];simp[a5.out],((((((b6.out.setCell hps _).setCell hps _).setCell hps _).setCell hps _).setCell hps _).setCell hps _).setCell hps _⟩
  |false=>
   have a5:=ac (JL a4.out);obtain⟨Y,X,U,Q,O,M,J⟩:=(a.all 0 0 0 0 0 0 0).cells;simp only[aW] at Y X U Q O M J;have hz:=ac (aS Y (aS X (aS U (aS Q (aS O (aS M J))))));clear a Y X U Q O M J hB hx b1 hR hi;go_wp2;obtain⟨Y,X,U,Q,O,M,J⟩:=hz.out;exact aB (v:= .tuple #[itv ⟨0,0,0,0,0,0,0⟩,.bool false]) (by simp[cg,results65,go_sem,Y,X,U,Q,O,M,J]) rfl ⟨by rw[a2.out,a4.out];simp[a5.out],((((((b6.out.setCell hps _).setCell hps _).setCell hps _).setCell hps _).setCell hps _).setCell hps _).setCell hps _⟩
theorem VO (x y:It) (W:ae):(binOp .neq 106 (.agg #[.int .u32 x.c,.int .u32 x.k,.int .u32 x.lc,.int .u32 x.lk,.int .u32 x.rc,.int .u32 x.rk,.int .i32 x.ch]) (.agg #[.int .u32 y.c,.int .u32 y.k,.int .u32 y.lc,.int .u32 y.lk,.int .u32 y.rc,.int .u32 y.rk,.int .i32 y.ch])).run pg W= .ok (.bool (!eqI x y)) W:=by
 cases h:eqI x y with
 |true=>
  obtain rfl:=Fv.1 h;simp[go_sem]
 |false=>
  have a:x≠y:=λe=>by rw[Fv.2 e] at h;cases h
  cases x;cases y;simp only[ne_eq,It.mk.injEq,not_and] at a;clear h
  try simp only[Bool.not_false]
  go_simp
  exact a
theorem aaM (S:DS) (x:It):itD S (iid x)=Ni S x:=rfl
theorem YG {M:List It} {k:Nat} {x:It} (h:M[k]? =some x):lq S (M.take (k+1))=lq S (M.take k)++(if hasK S x=true then [] else [x]):=by
 unfold lq;rw[bG,h,fK];cases hh:hasK S x <;> simp[hh]
def ah8 (w:ae) (S:DS) (M:List It) (e:Ending) (w':ae):Prop:=∃v,e= .returned (.tuple #[v,lF (if M.any (uY S)=true then 2 else 0)])/\(M.any (uY S)=false->jS w w' v (lq S M))/\Ext w w'
theorem JW {R:Nat->Prop} {w:ae} {d:Nat} {q:DM} (h:kV R w d S q) (hm:oV S.Wt) (N:S.Wt.length<=400000) (A:Option Addr) (n cap:Nat) (M:List It) (hv:ItS w A M) (hn:M.length=n) (a8:n<=400000):
  aO pg 36 #[.pointer (some ⟨d,0,none⟩),.slice A n cap] w (ah8 w S M):=by
 replace hn:=ac hn;replace hv:=ac hv;replace h:=ac h;replace hm:=ac hm;have c0:=h.out.cell (j:=0) (v:=Vu S.cl) rfl;go_enter func36,ntmps36;go_wp2
 go_loopw [6,13] (λv i W=>∃(k:Nat),k<=n/\i=Vi k/\Hid (∀y∈M.take k,uY S y=false)/\jS w W v (lq S (M.take k))/\Ext w W) (λ_ i _=>n-(intOf i).toNat)
 case atStart=>exact⟨0,bN _,rfl,ac (λy J=>by simp at J),jS.nil _ _,Ext.refl _⟩
 case round=>
  obtain⟨k,hk,rfl,hB,H,O⟩:=hrel;by_cases a3:k<n
  ·obtain⟨b,o,x,rfl,Y,m0,m1,m2,m3,m4,m5,m6⟩:=(hv.out.ext O).at (k:=k) (by rw[hn.out];exact a3)
   have a7:(0:Int)<=(k:Int):=ω
   have a6:(k:Int)<(n:Int):=ω
   have K:=ac (O.alloc (.cells #[Vu x.c,Vu x.k,Vu x.lc,Vu x.lk,Vu x.rc,Vu x.rk,.int .i32 x.ch] 106));have bx:=ac (kI.newL wr x);replace Y:=ac Y;replace H:=ac H;replace O:=ac O;have f:=ac (λ(W:ae) (e:Ext w W)=>Y9 (h.out.ext e) hm.out N x.c x.k);rw[show((x.c,x.k):I2)=iid x from rfl,aaM,show(jw S.L (iid x)||jw S.Wt (iid x))=hasK S x from rfl] at f;obtain⟨y,J⟩:∃y,Ni S x=y:=⟨_,rfl⟩;obtain⟨g,hg⟩:∃g,hasK S x=g:=⟨_,rfl⟩;rw[J,hg] at f
   go_wp2_with fail
   refine(f.out _ (K.out)).mono ?_;rintro e w1 ⟨rfl,x1⟩;replace bx:=bx.out.ext x1;have X:=ac (K.out.trans x1);have z:=ac (X.out.alloc (.cells #[Vu y.c,Vu y.k,Vu y.lc,Vu y.lk,Vu y.rc,Vu y.rk,.int .i32 y.ch] 106));have Q:=ac (kI.newL w1 y);have U:=ac (bx.ext ((Ext.refl _).alloc (.cells #[Vu y.c,Vu y.k,Vu y.lc,Vu y.lk,Vu y.rc,Vu y.rk,.int .i32 y.ch] 106)));replace H:=ac (H.out.ext ((((Ext.refl wr).alloc _).trans x1).alloc (.cells #[Vu y.c,Vu y.k,Vu y.lc,Vu y.lk,Vu y.rc,Vu y.rk,.int .i32 y.ch] 106)));have Z:=ac (VO y x);obtain⟨b,N⟩:∃b,uY S x=b:=⟨_,rfl⟩;have a:b=if g=true then !eqI y x else decide (x.c=S.cl):=by rw[<-N,<-hg,<-J];rfl
   clear x1 bx K X m0 m1 m2 m3 m4 m5 m6;have e0:=z.out.keep c0
   go_wp2_with fail
   generalize w1.alloc (.cells #[Vu y.c,Vu y.k,Vu y.lc,Vu y.lk,Vu y.rc,Vu y.rk,.int .i32 y.ch] 106)=W3 at*;generalize w1.heap.size=pk at*;generalize wr.heap.size=px at*;obtain⟨y0,y1,y2,y3,y4,y5,y6⟩:=Q.out.cells;obtain⟨x0,x1,x2,x3,x4,x5,x6⟩:=U.out.cells;simp only[aW] at y0 y1 y2 y3 y4 y5 y6 x0 x1 x2 x3 x4 x5 x6;cases b with
   |true=>
    have u:=ac (show M.any (uY S)=true from iU.2 ⟨x,aD Y.out,N⟩);clear N f Q U H hB;cases g with
    |true=>
     rw[if_pos rfl] at a;have a4:∀W,(binOp .neq 106 (.agg #[.int .u32 y.c,.int .u32 y.k,.int .u32 y.lc,.int .u32 y.lk,.int .u32 y.rc,.int .u32 y.rk,.int .i32 y.ch]) (.agg #[.int .u32 x.c,.int .u32 x.k,.int .u32 x.lc,.int .u32 x.lk,.int .u32 x.rc,.int .u32 x.rk,.int .i32 x.ch])).run pg W= .ok (.bool true) W:=λW=>by rw[Z.out W,<-a]
     clear a
     go_quiet(fail)
     go_wp2;refine aB (v:= .tuple #[.slice none 0 0,lF 2]) (by simp[cg,results36,go_sem,lF]) rfl ⟨.slice none 0 0,by rw[if_pos u.out],λe=>(by rw[u.out] at e;cases e),z.out.drewN _⟩
    |false=>
     rw[if_neg δ] at a;have a2:(x.c==S.cl)=true:=by simpa using a.symm
     clear a
     go_quiet(fail)
     go_wp2;refine aB (v:= .tuple #[.slice none 0 0,lF 2]) (by simp[cg,results36,go_sem,lF]) rfl ⟨.slice none 0 0,by rw[if_pos u.out],λe=>(by rw[u.out] at e;cases e),z.out.drewN _⟩
   |false=>
    have a1:=ac (show∀y∈M.take (k+1),uY S y=false from λy J=>by
     rw[bG,Y.out] at J;rcases List.mem_append.1 J with h|h
     ·exact hB.out y h
     ·rw[show y=x by simpa using h];exact N)
    have I:=ac (YG (S:=S) Y.out);rw[hg] at I;clear N f Q U hB;cases g with
    |true=>
     rw[if_pos rfl,bB] at I;rw[if_pos rfl] at a;have a4:∀W,(binOp .neq 106 (.agg #[.int .u32 y.c,.int .u32 y.k,.int .u32 y.lc,.int .u32 y.lk,.int .u32 y.rc,.int .u32 y.rk,.int .i32 y.ch]) (.agg #[.int .u32 x.c,.int .u32 x.k,.int .u32 x.lc,.int .u32 x.lk,.int .u32 x.rc,.int .u32 x.rk,.int .i32 x.ch])).run pg W= .ok (.bool false) W:=λW=>by rw[Z.out W,<-a]
     clear a
     go_quiet(fail)
     go_wp2
     go_roundw
     case rel=>exact⟨k+1,ω,ν,a1,by rw[I.out];exact H.out.ext ((Ext.refl _).drewN _),z.out.drewN _⟩
     case measure=>simp[intOf];omega
    |false=>
     rw[if_neg δ] at a I;have a2:(x.c==S.cl)=false:=by simpa using a.symm
     clear a;have a5:(lq S (M.take k)).length<=400000:=az (List.length_filter_le _ _) (by rw[bv];omega)
     go_quiet(fail)
     go_wp2_with(at_builtin;refine kK (w0:=w) rfl (.tmp 47) (.tmp 49) rfl _ (lq S (M.take k)) rfl (H.out.ext (((Ext.refl _).drewN _).alloc _)) ((z.out.drewN _).alloc _) _ 1 1 [x] rfl rfl (ItS.new _ x) (by simp only[ar,aG];omega) ?_;intro v3 w3 o3 x3 _ _)
     go_roundw
     case rel=>exact⟨k+1,ω,ν,a1,by rw[I.out];exact o3,x3⟩
     case measure=>simp[intOf];omega
  ·obtain rfl:k=n:=ω
   have a0:M.take k=M:=aU (by rw[hn.out];exact am _);rw[a0] at H hB;have u:=ac (show M.any (uY S)=false by
        rw[hQ];intro e;obtain⟨y,h1,h2⟩:=iU.1 e;rw[hB.out y h1] at h2;cases h2)
   replace H:=ac H;replace O:=ac O;go_wp2;exact aB (v:= .tuple #[u6,lF 0]) (by simp[cg,results36,go_sem,lF]) rfl ⟨_,by rw[if_neg (by rw[u.out];decide)],λ_=>H.out,O.out⟩
end
end
section
attribute [local go_sem] ah
theorem R3 (A:Option Addr) (n cap:Nat) (l:List I2) (w:ae) (hv:Vec w A l) (hn:l.length=n) (Q:n<=1200000):
  aO pg 23 #[.slice A n cap] w (uR w l):=by
 have O:∀(W:ae) (a:Option Addr) (n c j z:Nat),(binOp .eql 48 (.slice a n c) (.slice none j z)).run pg W= .ok (.bool a.isNone) W:=λW a n c j z=>Lib.run_eql_slice_nil W _ _ a n c j z underlying48
 cases A with
 |none=>
  have M:l=[]:=by
   cases l with
   |nil=>rfl
   |cons x l=>obtain⟨b,o,e,_⟩:=hv (by simp[flat,DX]);cases e
  subst M;go_enter func23,ntmps23;go_wp2;go_ret;exact⟨_,_,_,rfl,rfl,λh=>by simp[flat] at h,Ext.refl _,am _,λa e=>by cases e⟩
 |some a=>
  have H:=(Ext.refl w).alloc (.cells #[] 79);have q:=hv.ext H;have J:(w.alloc (.cells #[] 79)).ownsRow w.heap.size 79 2 (.slice (some ⟨w.heap.size,0,none⟩) 0 0) ([]:List I2).length (flat DX []):=
   ⟨rfl,.inr ⟨w.heap.size,0,#[],rfl,am _,aI w _,am _,by unfold maxLen;omega,rfl,rfl⟩⟩
  go_enter func23,ntmps23
  go_wp2_with(at_builtin;refine jI (w0:=w) rfl (.tmp 5) (.tmp 6) rfl _ [] rfl J H (some a) n cap l rfl hn q (by simp only[aG];omega) ?_)
  intro I w3 f x3;replace f:w3.ownsRow w.heap.size 79 2 I l.length (flat DX l):=by first|exact f|(rw[hn];exact f)
  obtain⟨N,c3,rfl,u⟩:=Vec.own f;have i:=oO f rfl;replace u:=ac u;have K:=ac x3;replace i:=ac i;clear f x3;go_wp2;go_ret;exact⟨N,_,c3,rfl,rfl,u.out,K.out,i.out.1,i.out.2⟩
theorem RY (A:Option Addr) (n cap:Nat) (l:List Sp) (w:ae) (hv:SpS w A l) (hn:l.length=n) (Q:n<=1200000):
  aO pg 28 #[.slice A n cap] w (ado w l):=by
 have O:∀(W:ae) (a:Option Addr) (n c j z:Nat),(binOp .eql 34 (.slice a n c) (.slice none j z)).run pg W= .ok (.bool a.isNone) W:=λW a n c j z=>Lib.run_eql_slice_nil W _ _ a n c j z underlying34
 cases A with
 |none=>
  have M:l=[]:=by
   cases l with
   |nil=>rfl
   |cons x l=>obtain⟨b,o,e,_⟩:=hv (by simp[flat,encS]);cases e
  subst M;go_enter func28,ntmps28;go_wp2;go_ret;exact⟨_,_,_,rfl,rfl,am _,λh=>by simp[flat] at h,Ext.refl _,λa e=>by cases e⟩
 |some a=>
  have H:=(Ext.refl w).alloc (.cells #[] 74);have q:=hv.ext H;have J:(w.alloc (.cells #[] 74)).ownsRow w.heap.size 74 3 (.slice (some ⟨w.heap.size,0,none⟩) 0 0) ([]:List Sp).length (flat encS []):=
   ⟨rfl,.inr ⟨w.heap.size,0,#[],rfl,am _,aI w _,am _,by unfold maxLen;omega,rfl,rfl⟩⟩
  go_enter func28,ntmps28
  go_wp2_with(at_builtin;refine pG (w0:=w) rfl (.tmp 5) (.tmp 6) rfl _ [] rfl J H (some a) n cap l rfl hn q (by simp only[aG];omega) ?_)
  intro I w3 f x3 _;replace f:kZ w w3 I l:=by first|exact f|(rw[hn];exact f)
  obtain⟨N,c3,rfl,u⟩:=SpS.own f;have i:=oO f rfl;replace u:=ac u;have K:=ac x3;replace i:=ac i;clear f x3;go_wp2;go_ret;exact⟨N,_,c3,rfl,rfl,i.out.1,u.out,K.out,i.out.2⟩
theorem Wh (n:Nat) (w:ae) (I:n<=40000000):
  aO pg 71 #[.slice none 0 0,Vi (n:Int)] w λe w'=>∃v,e= .returned v/\jS w w' v []/\Ext w w':=by
 rcases Nat.eq_zero_or_pos n with q|q
 ·subst q
  refine(Any8.slices_Grow_room Tryz.growI none 0 0 0 w (am _) ω ω (am _)).mono ?_;rintro e w' ⟨rfl,rfl⟩;exact⟨_,rfl,jS.nil _ _,Ext.refl _⟩
 ·obtain⟨i,hi,j,u,f⟩:=info_parts OO
  refine(Any8.slices_Grow_grow Tryz.growI i _ hi j ω none 0 0 n [] w (am _) ω (by rw[f];omega) ω ι (λ_=>rfl) (λa e=>by cases e)).mono ?_;rintro e w' ⟨rfl,rfl⟩;refine⟨_,rfl,⟨by simp[flat],.inr ⟨w.heap.size,_,_,rfl,am _,aI (w.drew) _,bN _,grownCap_le_maxLen _ _ _ _ (by unfold maxLen;omega),?_,by simp[flat]⟩⟩,((Ext.refl w).drew).alloc _⟩;have z:=grownCap_ge w (0+n) 0 (Tryz.growI_ren.t 25);simp only[Array.size_append,size_zeroCells,List.size_toArray,aG];have H:(Value.agg #[ao ak 0,ao ak 0,ao ak 0,ao ak 0,ao ak 0,ao ak 0,ao IntKind.i32 0]).cells.size=7:=rfl;rw[H];omega
structure SlI where
 A:Option Addr
 c:Nat
 l:List It
def um (ls:List SlI):Nat:=(ls.map λx=>x.l.length).sum
def ET (ls:List SlI):List It:=ls.flatMap λx=>x.l
theorem PY:∀ls:List SlI,(ET ls).length=um ls
 |[]=>rfl
 |x::ls=>by
  have:=PY ls;unfold ET um at*;simp[this]
theorem Je {ls:List SlI} {j:Nat} {x:SlI} (h:ls[j]? =some x):um (ls.take (j+1))=um (ls.take j)+x.l.length:=by
 rw[bG,h];simp[um]
theorem WS {ls:List SlI} {j:Nat} {x:SlI} (h:ls[j]? =some x):ET (ls.take (j+1))=ET (ls.take j)++x.l:=by
 rw[bG,h];simp[ET]
theorem EZ:∀(ls:List SlI) (j:Nat),um (ls.take j)<=um ls
 |[],j=>by simp[um]
 |x::ls,0=>by simp[um]
 |x::ls,j+1=>by
  have h:=EZ ls j;have e:um ((x::ls).take (j+1))=x.l.length+um (ls.take j):=by simp[um]
  have a:um (x::ls)=x.l.length+um ls:=by simp[um]
  omega
theorem PL (b n cap:Nat) (ls:List SlI) (w:ae) (z:∀(j:Nat) (x:SlI),ls[j]? =some x->w.cell? ⟨b,j,none⟩=some (.slice x.A x.l.length x.c)/\ItS w x.A x.l) (hn:ls.length=n) (a1:n<=400000) (hb:um ls<=40000000):
  aO pg 39 #[.slice (some ⟨b,0,none⟩) n cap] w λe w'=>∃v,e= .returned v/\jS w w' v (ET ls)/\Ext w w':=by
 have O:=ac (λW=>Wh (um ls) W hb);replace z:=ac z;replace hn:=ac hn;go_enter func39,ntmps39;go_wp2
 go_loopw [3,11] (λs i W=>∃(j:Nat),j<=n/\i=Vi j/\s=Vi (um (ls.take j))/\w=W) (λ_ i _=>n-(intOf i).toNat)
 case atStart=>exact⟨0,bN _,rfl,rfl,rfl⟩
 case round=>
  obtain⟨j,hj,rfl,rfl,rfl⟩:=hrel;have a0:=EZ ls j;by_cases K:j<n
  ·obtain⟨x,a⟩:∃x,ls[j]? =some x:=⟨ls[j]'(by rw[hn.out];exact K),ay _⟩
   obtain⟨c0,_⟩:=z.out j x a;have q:=Je a;have f:=EZ ls (j+1);have N:(0:Int)<=(j:Int):=ω
   have M:(j:Int)<(n:Int):=ω
   have I:=ac q;rw[q] at f;clear q a;generalize um (ls.take j)=sj at*;generalize x.l.length=xl at*;go_wp2
   go_roundw
   case rel=>exact⟨j+1,ω,ν,by rw[I.out];go_num,trivial⟩
   case measure=>simp[intOf];omega
  ·obtain rfl:j=n:=ω
   have e:um (ls.take j)=um ls:=by rw[aU (by rw[hn.out];omega)]
   rw[e]
   go_wp2_with fail
   refine(O.out _).mono ?_;rintro e w1 ⟨v1,rfl,o1,x1⟩;go_wp2
   go_loopw [6,27] (λv i W=>∃(k:Nat),k<=j/\i=Vi k/\jS w W v (ET (ls.take k))/\Ext w W) (λ_ i _=>j-(intOf i).toNat)
   case atStart=>exact⟨0,bN _,rfl,o1,x1⟩
   case round=>
        clear o1 x1;obtain⟨k,hk,rfl,J,H⟩:=hrel;by_cases u:k<j
        ·obtain⟨x,a⟩:∃x,ls[k]? =some x:=⟨ls[k]'(by rw[hn.out];exact u),ay _⟩
         obtain⟨c0,Y⟩:=z.out k x a;have c1:=H.keep c0;have X:=Y.ext H;have q:=Je a;have f:=EZ ls (k+1);have Q:=PY (ls.take k);have N:(0:Int)<=(k:Int):=ω
         have M:(k:Int)<(j:Int):=ω
         have I:=ac (WS a);have U:(ET (ls.take k)).length+x.l.length<=40000000:=ω
         clear q f Q a c0 Y
         go_wp2_with(at_builtin;refine kK (w0:=w) rfl (.tmp 31) (.tmp 32) rfl _ _ rfl J H x.A x.l.length x.c x.l rfl rfl X U ?_;intro v3 w3 Z x3 _ _)
         go_roundw
         case rel=>exact⟨k+1,ω,ν,by rw[I.out];exact Z,x3⟩
         case measure=>simp[intOf];omega
        ·obtain rfl:k=j:=ω
         have e2:ET (ls.take k)=ET ls:=by rw[aU (by rw[hn.out];omega)]
         rw[e2] at J;go_wp2;go_ret;exact⟨_,rfl,J,H⟩
theorem uE {R:Nat->Prop} {w:ae} {d:Nat} {S:DS} {q:DM} (h:kV R w d S q) (i:S.V.length<=1200000):aO pg 11 #[.pointer (some ⟨d,0,none⟩)] w (uR w S.V):=by
 have c:=h.cell (j:=11) (v:= .slice q.A S.V.length q.ca) rfl;have f:=ac (R3 q.A _ q.ca S.V w h.jF.vec rfl i);go_enter func11,ntmps11
 go_wp2_with fail
 refine f.out.mono ?_;rintro e W' ⟨A,n,c,rfl,a⟩;replace a:=ac a;go_wp2;go_ret;exact⟨A,n,c,rfl,a.out⟩
end
section
attribute [local go_sem] ah calm jL jH
theorem PS (L:List It) (c:Int):∀(n:Nat) (k:Int),uX L c k (n+1)=uX L c k n++[uV L (c,k+n)]
 |0,k=>by simp[uX]
 |n+1,k=>by
  rw[uX,PS L c n (k+1),uX,aJ,show k+1+(n:Int)=k+((n+1:Nat):Int) by omega]
theorem KS (L:List It) (v:List I2):∀V U:List I2,sU L (V++U) v=sU L V v++sU L U v
 |[],U=>rfl
 |p::V,U=>by rw[aJ,sU,sU,KS L v V U,aK]
theorem Yb {L:List It} {v V:List I2} {k:Nat} {c n:Int} (h:V[k]? =some (c,n)):sU L (V.take (k+1)) v=sU L (V.take k) v++uX L c (jq v c) (n-jq v c).toNat:=by
 rw[bG,h,KS];simp[sU]
theorem ady (L:List It) (v V:List I2) (k:Nat):(sU L (V.take k) v).length<=(sU L V v).length:=by
 have:=KS L v (V.take k) (V.drop k);rw[List.take_append_drop] at this;rw[this,ag];omega
theorem UK {v:List I2} {R:Nat->Prop} {w:ae} {d:Nat} {S:DS} {q:DM} (h:kV R w d S q) (Y:wfC S.V) (hV:S.V.length<=400000) (hN:(l6 S v).length<=400000) (A:Option Addr) (n cap:Nat) (hv:Vec w A v) (hn:v.length=n) (hm:jB 0 v=true) (hb:n<=400000):
  aO pg 27 #[.pointer (some ⟨d,0,none⟩),.slice A n cap] w (Xj w (l6 S v)):=by
 unfold l6 at*;have b6:=h.cell (j:=11) (v:= .slice q.A S.V.length q.ca) rfl;obtain⟨c2,c3,c4,c5,c6,c7,c8,c9,c10⟩:=h.DF;have f8:=ac h.jF.vec;obtain⟨tt,ad,a1⟩:=h.jF.ls;replace a1:=ac a1;replace h:=ac h;replace hv:=ac hv;replace hm:=ac hm;replace hn:=ac hn;replace hN:=ac hN;replace Y:=ac Y;obtain⟨m,J⟩:∃m,S.V.length=m:=⟨_,rfl⟩;rw[J] at b6 hV;replace J:=ac J;generalize g6:S.L=L at*;generalize g5:S.V=V at*;generalize q.A=AV at*;go_enter func27,ntmps27;go_wp2
 go_loopw [5,16] (λtv i W=>∃(k:Nat),k<=m/\i=Vi (k:Nat)/\Hid (jS w W tv (sU L (V.take k) v))/\Hid (Ext w W)) (λ_ i _=>m-(intOf i).toNat)
 case atStart=>exact⟨0,bN _,rfl,ac (jS.nil _ _),ac (Ext.refl _)⟩
 case round=>
  obtain⟨k,hk,rfl,U,a⟩:=hrel;by_cases d9:k<m
  ·obtain⟨bb,oo,c,t,rfl,hp,q0,q1⟩:=(f8.out.ext a.out).at (k:=k) (by rw[J.out];exact d9)
   have d4:=Y.out (c,t) (aD hp);simp only at d4;have a6:=ac (Yb (L:=L) (v:=v) hp);have b1:=ady L v V (k+1);have b0:=az b1 hN.out;clear b1;have g4:(0:Int)<=(k:Int):=ω
   have e0:(k:Int)<(m:Int):=ω
   have g3:decide ((k:Int)<(m:Int))=true:=decide_eq_true e0;have x1:Ext wr (wr.alloc (.cells #[Vu c,Vu t] 79)):=(Ext.refl _).alloc _;have X:=ac (show(wr.alloc (.cells #[Vu c,Vu t] 79)).heap[wr.heap.size]? =some (.cells #[Vu c,Vu t] 79 (0,0)) from aI wr _);have Z:=ac (U.out.ext x1);have Q:=ac (a.out.trans x1);have d7:=ac (nO c hm.out);have b3:=ac (λ(W:ae) (e:Ext w W)=>GD A n cap v c W (hv.out.ext e) hn.out hm.out hb);generalize a8:jq v c=s at*;replace a8:=ac a8;have I:=ac (show u5.ownBlock≠some wr.heap.size from λe=>by have:=(U.out.lt _ e).2;omega);clear U a x1 hp
   go_upto_block 1 with fail
   go_cut [5] (λtv wx=>Hid (jS w wx tv (sU L (V.take (k+1)) v))/\Hid (Ext w wx))
   case first=>
        go_wp2_with fail
        generalize wr.alloc (.cells #[Vu c,Vu t] 79)=W3 at*;generalize wr.heap.size=O at*;refine(b3.out _ Q.out).mono ?_;rintro e w4 ⟨rfl,x4⟩;have a9:=ac (Z.out.ext x4);have a5:=ac (Q.out.trans x4);have b9:=ac (x4.blk X.out);clear X Z Q x4 q0 q1 b3 b6;go_wp2
        go_loopw [5,8] (λtv sv W=>∃(j:Nat),sv=Vu (s+(j:Int))/\j<=(t-s).toNat/\Hid (jS w W tv (sU L (V.take k) v++uX L c s j))/\Hid (W.heap[O]? =some (.cells #[Vu c,Vu t] 79 (0,0)))/\Hid (Ext w W)/\Hid (tv.ownBlock≠some O)) (λ_ sv _=>(t-intOf sv).toNat)
        case atStart=>exact⟨0,ι,bN _,ac (by rw[uX,bB];exact a9.out),b9,a5,I⟩
        case round=>
         clear a9 a5 b9 I;obtain⟨j,rfl,hj,U,X,a,I⟩:=hrel;have o0:wr.cell? ⟨O,0,none⟩=some (Vu c):=aj wr O 0 _ _ _ X.out;have o1:wr.cell? ⟨O,1,none⟩=some (Vu t):=aj wr O 1 _ _ _ X.out;by_cases Zg:s+(j:Int)<t
         ·have g1:decide (s+(j:Int)<t)=true:=decide_eq_true Zg
          obtain⟨x,hX⟩:∃x,uV L (c,s+(j:Int))=x:=⟨_,rfl⟩;have a7:=ac (PS L c j s);rw[hX] at a7;have H:=ac (λ(W:ae) (e:Ext wr W)=>(a1.out.ext (a.out.trans e)).item c (s+(j:Int)));rw[hX] at H;generalize hB:jw L (c,s+(j:Int))=B at*;clear hB hX;have f9:(sU L (V.take k) v++uX L c s j).length<=400000:=by
           rw[a6.out,ag,MX] at b0;rw[ag,MX];omega
          have e2:=a.out.keep c2;have e3:=a.out.keep c3;have e4:=a.out.keep c4;have e5:=a.out.keep c5;have e6:=a.out.keep c6;have e7:=a.out.keep c7;have e8:=a.out.keep c8;have e9:=a.out.keep c9;have a4:=a.out.keep c10
          go_wp2_with fail
          refine ou 14 13 [rwI 8 (.tuple #[itv x,.bool B]),rwB 12 (λz9 W=>∃q,z9=Vp q/\wr.heap.size<=q/\kI W q ⟨0,0,0,0,0,0,0⟩),rw2 13 12 (λ_ v W=>∃q,v=Vp q/\wr.heap.size<=q/\kI W q x)] (Ext wr) (λ_=>True) Ext (λ_ _=>True) ((Ext.refl _).drew) trivial (λ_ _=>Ext.trans) (λ_ _ _ _=>trivial)
           ⟨(λ_ _ _ _ h _=>h),(λ_ _ _ _ _ _ h _=>h),(by rintro _ _ _ _ ⟨q,h1,h2,h3⟩ e;exact⟨q,h1,h2,e.blk h3⟩),(λh=>by cases h),(by rintro _ _ _ _ ⟨q,h1,h2,h3⟩ e;exact⟨q,h1,h2,e.blk h3⟩),(λ_ h=>absurd rfl h),trivial⟩ λρ hI=>?_
          refine .s1 8 false [] (λW M _ _=>by
           have e2:=M.keep e2;have e3:=M.keep e3;have e4:=M.keep e4;have e5:=M.keep e5;have e6:=M.keep e6;have e7:=M.keep e7;have e8:=M.keep e8;have e9:=M.keep e9;have a4:=M.keep a4;have a0:=M.keep o0;exact jD) ?_
          refine .kv1 hI 0 _ (λW a=>H.out W a) ?_;refine .s1 3 false [] (λW M _ _=>jD) ?_;refine .o1 1 false [] (λW a _ _ N hN=>?_) ?_
          ·go_simp
           exact hN _ _ (λ_ e=>by cases e) ⟨_,rfl,a.size,kI.newL W ⟨0,0,0,0,0,0,0⟩⟩ ((Ext.refl W).alloc _)
          refine .o0 2 [1] (λW a _ f N hN=>?_) ?_
          ·obtain⟨⟨qb,a3,z,u⟩,_⟩:=f
           have a3:ρ 12=_:=a3;obtain⟨k0,k1,k2,k3,k4,k5,k6⟩:=u.cells;simp only[aW] at k0 k1 k2 k3 k4 k5 k6;have f0:=u.lg 0;have f1:=u.lg 1;have f2:=u.lg 2;have f3:=u.lg 3;have f4:=u.lg 4;have f5:=u.lg 5;have f6:=u.lg 6;have b5:=u.all x.c x.k x.lc x.lk x.rc x.rk x.ch
           go_simp
           exact hN _ _ (λ_ e=>by cases e) ⟨qb,a3,z,b5⟩ (((((((a.setCell z _).setCell z _).setCell z _).setCell z _).setCell z _).setCell z _).setCell z _) trivial
          refine .fin λW hR ⟨_,_,jV,_⟩=>?_
          obtain⟨qn,eq,g2,b4⟩:=jV rfl;rw[show ρ 12=_ from eq];obtain⟨n0,n1,n2,n3,n4,n5,n6⟩:=b4.cells;simp only[aW] at n0 n1 n2 n3 n4 n5 n6;have d6:=ac (U.out.ext hR);have d3:=ac (a.out.trans hR);have b8:=ac (hR.blk X.out);clear H jV b4 o0 o1 X U a hR e2 e3 e4 e5 e6 e7 e8 e9 a4;generalize W=W6 at*;have d1:=ac (show O<W6.heap.size from(an.1 b8.out).1);have g0:ak.wrap (s+(j:Int)+1)=s+(j:Int)+1:=fh _ (by have:=d7.out;omega)
          go_wp2_with(at_builtin;refine kK (w0:=w) rfl (.tmp 42) (.tmp 44) rfl _ _ rfl (d6.out.ext ((Ext.refl _).alloc _)) (d3.out.alloc _) _ 1 1 [x] rfl rfl (ItS.new _ x) (by simp only[ar,aG];omega) ?_;intro v7 w7 o7 x7 g7 b7)
          have e1:=ac (show w7.heap[O]? =_ from(g7.block O (by have:=d1.out;simp;omega) (λe=>I.out e.symm)).trans ((((Ext.refl W6).alloc _).blk b8.out)));have f7:=ac (show v7.ownBlock≠some O from λe=>by
           rcases b7 with h|h
           ·rw[h] at e;exact I.out e
           ·rw[h] at e;have:=d1.out;simp at e;omega)
          go_roundw
          case rel=>exact⟨j+1,by congr 1;omega,ω,ac (by rw[a7.out,<-aK];exact o7),e1,ac x7,f7⟩
          case measure=>simp[intOf];omega
         ·have g1:decide (s+(j:Int)<t)=false:=decide_eq_false Zg
          have b2:=ac (show sU L (V.take (k+1)) v=sU L (V.take k) v++uX L c s j by rw[a6.out,show(t-s).toNat=j by omega])
          go_wp2_with fail
          go_meet;exact⟨ac (by rw[b2.out];exact U.out),a⟩
   case rest=>
        obtain⟨d5,d2⟩:=hcut;clear X Z Q q0 q1;go_wp2
        go_roundw
        case rel=>exact⟨k+1,ω,ν,d5,d2⟩
        case measure=>simp[intOf];omega
  ·obtain rfl:k=m:=ω
   have a2:V.take k=V:=aU (by rw[J.out];exact am _);rw[a2] at U
   go_wp2_with fail
   go_ret;exact⟨_,rfl,U.out,a.out⟩
def acO (W:ae) (rs:List Rn) (ds:List Sp) (v:au):Prop:=∃A c B d,v=Si A rs.length c B ds.length d/\RnS W A rs/\rs.length<=c/\SpS W B ds/\ds.length<=d
theorem Qn {v:List I2} {R:Nat->Prop} {w:ae} {d:Nat} {S:DS} {q:DM} (h:kV R w d S q) (hK:DOK S) (hV:S.V.length<=400000) (hD:S.D.length<=400000) (hN:(l6 S v).length<=400000) (A:Option Addr) (n cap:Nat) (hv:Vec w A v) (hn:v.length=n) (hm:jB 0 v=true) (hb:n<=400000):
  aO pg 15 #[.pointer (some ⟨d,0,none⟩),.slice A n cap] w λe w'=>∃z,e= .returned z/\acO w' (ko (l6 S v)) S.D z/\Ext w w':=by
 have hw:Bh (l6 S v):=λx U=>(hK.wfL x (((Ya hK hm).2 x).1 U).1).1
 have a6:=h.cell (j:=13) (v:= .slice q.C S.D.length q.cc) rfl;have a4:=ac (λ(W:ae) (e:Ext w W)=>UK (h.ext e) hK.wfV hV hN A n cap (hv.ext e) hn hm hb);have a3:=ac (λ(W:ae) (e:Ext w W)=>RY q.C _ q.cc S.D W (h.jF.sps.ext e) rfl ω);have x0:Ext w (w.alloc (.cells #[.slice none 0 0,.slice none 0 0] 36)):=(Ext.refl _).alloc _;have b0:(w.alloc (.cells #[.slice none 0 0,.slice none 0 0] 36)).heap[w.heap.size]? =some (.cells #[.slice none 0 0,.slice none 0 0] 36 (0,0)):=aI w _;clear h;go_enter func15,ntmps15
 go_wp2_with fail
 generalize w.alloc (.cells #[.slice none 0 0,.slice none 0 0] 36)=W2 at*;generalize a2:w.heap.size=i at*;refine mg 9 [rw1 2 (λv9 W=>∃A c,v9= .slice A (l6 S v).length c/\(l6 S v).length<=c/\ItS W A (l6 S v)),rw1 3 (λz W=>∃A c,z= .slice A (ko (l6 S v)).length c/\(ko (l6 S v)).length<=c/\RnS W A (ko (l6 S v))/\rZ W2.heap.size A),rw1 8 (λz W=>∃A c,z= .slice A S.D.length c/\S.D.length<=c/\SpS W A S.D/\rZ W2.heap.size A)]
  ⟨(by rintro _ _ _ _ ⟨A,c,M,I,H⟩ e;exact⟨A,c,M,I,H.ext e⟩),(by rintro _ _ _ _ ⟨A,c,M,I,H,J⟩ e;exact⟨A,c,M,I,H.ext e,J⟩),(by rintro _ _ _ _ ⟨A,c,M,I,H,J⟩ e;exact⟨A,c,M,I,H.ext e,J⟩),trivial⟩ λρ hI=>?_
 refine .s 2 (λW hE _=>jD) ?_;refine .k 0 (R:=λv9 W=>∃A c,v9= .slice A (l6 S v).length c/\(l6 S v).length<=c/\ItS W A (l6 S v)) (λW' U=>(a4.out W' (x0.trans U)).mono (by rintro e w1 ⟨v1,rfl,M,I⟩;obtain⟨u,c1,rfl,H,J⟩:=M.open;exact⟨_,rfl,⟨u,c1,rfl,H,J⟩,I⟩)) ?_;refine .o 1 [0] (λW U y f N hN=>?_) ?_
 ·obtain⟨⟨u,c1,e1,M,I⟩,_⟩:=f
  have e1:ρ 2=_:=e1
  go_simp
  refine(Gv u _ c1 (l6 S v) W I rfl M hw ω).mono ?_;rintro e w1 ⟨v1,rfl,H,J⟩;obtain⟨A3,c3,rfl,h5,h6⟩:=H.open;exact⟨_,rfl,hN _ _ (λ_ e=>by cases e) ⟨A3,c3,rfl,h5,h6,λa Y=>az U.size ((oO H rfl).2 a Y)⟩ J⟩
 refine .s 4 (λW hE _=>by
  have a8:=(x0.trans hE).keep a6;exact jD) ?_
 refine .k 2 (R:=λz W=>∃A c,z= .slice A S.D.length c/\S.D.length<=c/\SpS W A S.D/\rZ W2.heap.size A) (λW' U=>(a3.out W' (x0.trans U)).mono (by rintro e w1 ⟨u,n1,c1,rfl,rfl,I,H,J,h5⟩;exact⟨_,rfl,⟨u,c1,rfl,I,H,λa Y=>az U.size (h5 a Y)⟩,J⟩)) ?_;refine .fin λW hR ⟨_,⟨u,c1,e1,M,I,u1⟩,⟨Q,O,e2,H,J,u2⟩,_⟩=>?_
 rw[show ρ 3=_ from e1,show ρ 8=_ from e2];have bW:=hR.blk b0;have hE:=x0.trans hR;generalize a0:S.D=D at*;replace a0:=ac a0;generalize Z:ko (l6 S v)=rs at*;replace Z:=ac Z;have k0:W.cell? ⟨i,0,none⟩=some (.slice none 0 0):=aj W i 0 _ _ _ bW;have k1:W.cell? ⟨i,1,none⟩=some (.slice none 0 0):=aj W i 1 _ _ _ bW;have f0:W.frozen? ⟨i,0,none⟩=false:=aw W i 0 _ _ bW;have f1:W.frozen? ⟨i,1,none⟩=false:=aw W i 1 _ _ bW;have j0:(W.setCell ⟨i,0,none⟩ (.slice u rs.length c1)).heap[i]? =some (.cells #[.slice u rs.length c1,.slice none 0 0] 36 (0,0)):=al W i 0 _ _ _ bW;have j1:((W.setCell ⟨i,0,none⟩ (.slice u rs.length c1)).setCell ⟨i,1,none⟩ (.slice Q D.length O)).heap[i]? =some (.cells #[.slice u rs.length c1,.slice Q D.length O] 36 (0,0)):=al _ i 1 _ _ _ j0;have a7:i<W2.heap.size:=(an.1 b0).1;have X:RX i W ((W.setCell ⟨i,0,none⟩ (.slice u rs.length c1)).setCell ⟨i,1,none⟩ (.slice Q D.length O)):=((RX.refl i W).set 0 _ (.inr rfl)).set 1 _ (.inr rfl);have z0:((W.setCell ⟨i,0,none⟩ (.slice u rs.length c1)).setCell ⟨i,1,none⟩ (.slice Q D.length O)).cell? ⟨i,0,none⟩=some (.slice u rs.length c1):=aj _ i 0 _ _ _ j1;have z1:((W.setCell ⟨i,0,none⟩ (.slice u rs.length c1)).setCell ⟨i,1,none⟩ (.slice Q D.length O)).cell? ⟨i,1,none⟩=some (.slice Q D.length O):=aj _ i 1 _ _ _ j1;have a5:=ac (show Ext w ((W.setCell ⟨i,0,none⟩ (.slice u rs.length c1)).setCell ⟨i,1,none⟩ (.slice Q D.length O)) from(hE.setCell (by rw[a2];exact am _) _).setCell (by rw[a2];exact am _) _);have a1:=ac (show acO ((W.setCell ⟨i,0,none⟩ (.slice u rs.length c1)).setCell ⟨i,1,none⟩ (.slice Q D.length O)) rs D (Si u rs.length c1 Q D.length O) from⟨u,c1,Q,O,rfl,Row.rx I X (λa Y e=>by have:=u1 a Y;omega),M,Row.rx J X (λa Y e=>by have:=u2 a Y;omega),H⟩);have hz:=ac (aS z0 z1);clear z0 z1 j0 j1 bW hE I J hR a4 a3 X
 go_wp2_with fail
 obtain⟨z0,z1⟩:=hz.out;exact aB (v:=Si u rs.length c1 Q D.length O) (by simp[cg,results15,go_sem,z0,z1]) rfl ⟨_,rfl,by rw[Z.out,a0.out];exact a1.out,a5.out⟩
end
section
attribute [local go_sem] ah
def oZ (w:ae) (d:Nat) (R:Nat->Prop) (c:Int) (S:DS) (e:Ending) (w':ae):Prop:=∃(R':Nat->Prop) (q:DM),e= .returned (lF c)/\kV R' w' d S q/\RX d w w'/\∀b,R' b->R b\/w.heap.size<=b
variable {R:Nat->Prop} {W:ae} {d:Nat}
theorem oZ.same {w:ae} {S:DS} {q:DM} (h:kV R w d S q) (c:Int) {v:au} (hv:lF c=v) (W:ae) (x:Ext w W):oZ w d R c S (.returned v) W:=
 ⟨R,q,by rw[hv],h.ext x,RX.ext x,λb a=> .inl a⟩
theorem mV {c:Int} (h:c≠0):lF c= .iface 56 (.int .i64 c):=by simp[lF,h]
theorem yM:lF 0= .nilIface:=by simp[lF]
abbrev AQ (u q:au) (y:Lv) (j i f e a:au):Array au:= #[u,q,.slice y.A y.n y.c,.pointer y.l,.pointer y.r,Vi y.h,Vi y.m,Vi y.s,Vq y.lo,Vq y.hi,.pointer y.p,j,i,f,e,a]
abbrev QA (W:ae) (q:Nat) (y:Lv):ae:=(((((((((W.setCell ⟨q,2,none⟩ (.slice y.A y.n y.c)).setCell ⟨q,3,none⟩ (.pointer y.l)).setCell ⟨q,4,none⟩ (.pointer y.r)).setCell ⟨q,5,none⟩ (Vi y.h)).setCell ⟨q,6,none⟩ (Vi y.m)).setCell ⟨q,7,none⟩ (Vi y.s)).setCell ⟨q,8,none⟩ (Vq y.lo)).setCell ⟨q,9,none⟩ (Vq y.hi)).setCell ⟨q,10,none⟩ (.pointer y.p))
theorem SN (W:ae) (q:Nat) (y:Lv):RX q W (QA W q y):=(((((((((RX.refl q W).set 2 _ (.inr rfl)).set 3 _ (.inr rfl)).set 4 _ (.inr rfl)).set 5 _ (.inr rfl)).set 6 _ (.inr rfl)).set 7 _ (.inr rfl)).set 8 _ (.inr rfl)).set 9 _ (.inr rfl)).set 10 _ (.inr rfl)
theorem Jr {q:Nat} {z u j i f e a:au} {x:Lv} (h:W.heap[q]? =some (.cells (AQ z u x j i f e a) 69 (0,0))) (y:Lv):(QA W q y).heap[q]? =some (.cells (AQ z u y j i f e a) 69 (0,0)):=by
 have h:=h;replace h:=al _ q 2 _ _ (.slice y.A y.n y.c) h;replace h:=al _ q 3 _ _ (.pointer y.l) h;replace h:=al _ q 4 _ _ (.pointer y.r) h;replace h:=al _ q 5 _ _ (Vi y.h) h;replace h:=al _ q 6 _ _ (Vi y.m) h;replace h:=al _ q 7 _ _ (Vi y.s) h;replace h:=al _ q 8 _ _ (Vq y.lo) h;replace h:=al _ q 9 _ _ (Vq y.hi) h;replace h:=al _ q 10 _ _ (.pointer y.p) h;simpa only[AQ,List.setIfInBounds_toArray,List.set_cons_zero,List.set_cons_succ] using h
theorem afb.vals {q:Nat} {u z i f e a j:au} {y:Lv} (h:W.heap[q]? =some (.cells (AQ u z y i f e a j) 69 (0,0))):(W.cell? ⟨q,0,none⟩=some u/\W.cell? ⟨q,11,none⟩=some i/\W.cell? ⟨q,12,none⟩=some f/\W.cell? ⟨q,13,none⟩=some e/\W.cell? ⟨q,14,none⟩=some a)/\(W.cell? ⟨q,2,none⟩=some (.slice y.A y.n y.c)/\W.cell? ⟨q,3,none⟩=some (.pointer y.l)/\W.cell? ⟨q,4,none⟩=some (.pointer y.r)/\W.cell? ⟨q,5,none⟩=some (Vi y.h)/\W.cell? ⟨q,6,none⟩=some (Vi y.m)/\W.cell? ⟨q,7,none⟩=some (Vi y.s)/\W.cell? ⟨q,8,none⟩=some (Vq y.lo)/\W.cell? ⟨q,9,none⟩=some (Vq y.hi)/\W.cell? ⟨q,10,none⟩=some (.pointer y.p)):=
 ⟨⟨aj W q 0 _ _ _ h,aj W q 11 _ _ _ h,aj W q 12 _ _ _ h,aj W q 13 _ _ _ h,aj W q 14 _ _ _ h⟩,aj W q 2 _ _ _ h,aj W q 3 _ _ _ h,aj W q 4 _ _ _ h,aj W q 5 _ _ _ h,aj W q 6 _ _ _ h,aj W q 7 _ _ _ h,aj W q 8 _ _ _ h,aj W q 9 _ _ _ h,aj W q 10 _ _ _ h⟩
def Qe (s n a:Nat) (A e:Option Addr):Prop:=(A=e/\n<=a)\/rZ s A
theorem Qe.off {s n e:Nat} {A i:Option Addr} (h:Qe s n e A i) (j:0<e->∀a,i=some a->R a.block/\a.block≠d) (q:d<s):0<n->∀a,A=some a->(R a.block\/s<=a.block)/\a.block≠d:=λhn a f=>by
 rcases h with⟨h,hn0⟩|h
 ·have:=j (aV hn hn0) a (h▸f)
  exact⟨.inl this.1,this.2⟩
 ·have:=h a f
  exact⟨.inr this,ω⟩
theorem yX.next {f:ae} {S e:DS} {q a:DM} (h:yX R f d S q) (M:f.heap.size<=W.heap.size) (H:W.heap[d]? =some (.cells (WI e a) 69 (0,0)))
  (N:LCx a.F W a.y e.L a.G) (hF:∀b,a.F b->q.F b\/f.heap.size<=b) (hm:Marks e.D e.L a.G)
  (hv:Vec W a.A e.V) (z:Qe f.heap.size e.V.length S.V.length a.A q.A) (u:e.V.length<=a.ca) (K:ItS W a.B e.Wt) (j:Qe f.heap.size e.Wt.length S.Wt.length a.B q.B) (i:e.Wt.length<=a.cb) (O:SpS W a.C e.D) (J:Qe f.heap.size e.D.length S.D.length a.C q.C) (I:e.D.length<=a.cc):
  kV (λb=>R b\/f.heap.size<=b) W d e a:=
 ⟨⟨.inl h.rd,N,λb H=>by
   rcases hF b H with g|g
   ·exact⟨.inl (h.rF b g).1,(h.rF b g).2⟩
   ·exact⟨.inr g,by have:=h.low;omega⟩,hm,hv,z.off h.rA h.low,u,K,j.off h.rB h.low,i,O,J.off h.rC h.low,I,aV h.low M⟩,H⟩
theorem JE {D:List Sp} {L M:List It} {G:List I2} (h:Marks D L G) (f:∀g∈G,jw L g=true):Marks D (L++M) (G++gdL D M):=λa e=>by
 rw[Ph,dC,cE,pY,pY];constructor
 ·rintro(g|g)
  ·rw[<-h a (f a g)];exact pY.2 g
  ·exact(Rt.1 g).2
 ·intro g
  rw[O8,cE] at e;rcases e with e|e
  ·exact .inl (pY.1 (by rw[h a e];exact g))
  ·exact .inr (Rt.2 ⟨e,g⟩)
theorem LCx.gin {F:Nat->Prop} {W:ae} {y:Lv} {L:List It} {G:List I2} (h:LCx F W y L G):∀g∈G,jw L g=true:=by
 obtain⟨t,ad,h⟩:=h;exact h.gin
end
section
attribute [local go_sem] ah calm jL jH
theorem OA {W:ae} {q:Nat} {y:Lv} {E:Operand->au} {x z:Operand} {o:Oper} {N:au->ae->Prop} (e:o.op= .store 66 x z) (Y:E x=Vp q) (X:E z=lsv y) (a:BxL W q zLv) (h:∀v,N v (qM W q y)):jH pg N ((execOp E o).run pg W):=by
 obtain⟨i,u,j,f,af,Z⟩:=o;simp only at e;subst e;obtain⟨k0,U,Q,O,M,K,J,I,H⟩:=a.cells;have f0:=a.thaw 0;have f1:=a.thaw 1;have f2:=a.thaw 2;have f3:=a.thaw 3;have f4:=a.thaw 4;have f5:=a.thaw 5;have f6:=a.thaw 6;have f7:=a.thaw 7;have f8:=a.thaw 8
 go_simp
 exact h _
end
end Go.Proofs.YtncfhbpejchbfaaGreatDoor

/-
  Lemmas of this seat; no claim.
-/
import Derived.Test.YtejbpijamdlgcaaGreatDoorCards
import Derived.Test.YtejbpijamdlgcaaGreatDoorTie
import Derived.Lib.LaidU8T
import Derived.Deep.DeepHandedRow
import Derived.Test.YtejbpijamdlgcaaGreatDoorPD2
import Derived.Test.YtejbpijamdlgcaaGreatDoorPB2
set_option linter.unusedVariables false
set_option linter.unusedSimpArgs false
set_option maxRecDepth 100000
set_option maxHeartbeats 32000000
open Array renaming getElem?_eq_some_iff→aC
open Bool renaming and_eq_true→aQ
open Go renaming Calls→aX,Value→aI,World→aj,bodyPost_ret→aN,cell_of_row→ak,results→dK
open Go.DataW renaming trod_int→kF,trod→mo
open Go.Lib renaming hid→ah
open Go.Lib.laidMet renaming reads→mW
open Go.RowKit.Below renaming block→aJ
open Go.Value renaming okWide→lM
open Go.World renaming cell?_alloc_some→au
open Go.World.grownBy renaming size→eY
open List renaming mem_of_getElem?→aP,mem_singleton→cu,range→jm
open Nat renaming le_refl→aD,le_trans→aM,lt_of_lt_of_le→bD,zero_le→cK
open Option.some renaming injEq→bJ,inj→fI
namespace Go.Proofs.YtejbpijamdlgcaaGreatDoor
section
open Go.ChangeShapes Go.WideShapes Go.ChangeAt Go.RowKit Go.Sort
def zH:List (String×DataW Unit):=[("unicode/utf8.acceptRanges",Rows.laid_unicode_utf8_acceptRanges),("unicode/utf8.first",Rows.laid_unicode_utf8_first)]
def ag8:Go.Shelf.Ren:=⟨λn=>n,λ|119=>228|138=>230|139=>231|5=>5|n=>n,λ|3=>1|4=>2|n=>n⟩
theorem afd:U8Types Tryz.prog ag8:=⟨Tryz.underlying5,Tryz.underlying228,Tryz.underlying230,Tryz.underlying231⟩
theorem agl:U8Extra Tryz.prog ag8:=⟨κ,κ,κ,κ,κ,κ,κ⟩
theorem agi:Rows.laid_unicode_utf8_first=Lib.firstData:=κ
theorem aer:Rows.laid_unicode_utf8_acceptRanges=Lib.acceptData:=κ
theorem acI {W:aj} (h:laidMet Tryz.prog zH W):Tabs W:=
 utf8Tabs_of_readsT afd agl (agi▸mW h (.tail _ (.head _))) (aer▸mW h (.head _))
def aau:List (String×DataW Unit):=[("unicode/utf8.acceptRanges",Rows.laid_unicode_utf8_acceptRanges),("errors.errorType",Rows.laid_errors_errorType),("unicode/utf8.first",Rows.laid_unicode_utf8_first)]
theorem abC:Tryz.prog.globalNamed "errors.errorType" =some 0:=κ
theorem adV:(Tryz.prog.cutTypes.find? (·.1== "internal/reflectlite.rtype")).map (·.2)=some 234:=κ
theorem ahY:((jm Tryz.prog.types.size).filter λt=>Tryz.prog.rowNamed t [101,114,114,111,114])=[29]:=κ
theorem abB:typeHandle Tryz.prog 29= .pointer (some ⟨3,29,none⟩):=κ
theorem adP {W:aj} (h:laidMetH Tryz.prog aau W):Tabs W/\zR W:=by
 have f:laidMet Tryz.prog zH W/\handlesMet Tryz.prog [("errors.errorType",Rows.laid_errors_errorType)] W:=h
 refine⟨acI f.1,?_⟩;obtain⟨a,u,j,J,I,H,z,i⟩:=f.2 _ (cu.2 rfl);have q:a=[101,114,114,111,114]:=(fI J).symm;subst q;obtain rfl:=fI (adV.symm.trans I);have e:j∈(jm Tryz.prog.types.size).filter λt=>Tryz.prog.rowNamed t [101,114,114,111,114]:=List.mem_filter.2 ⟨List.mem_range.2 H,z⟩
 rw[ahY] at e;obtain rfl:=cu.1 e;rw[abB] at i;unfold zR;simpa using World.var?_cell abC i 0
noncomputable def aeP (os:Os):aj:=
 let w0:=World.holding Tryz.prog os ⟨#[],#[],[]⟩
 { w0 with heap:=w0.heap.modify 0 λ
   | .cells _ t frozen=> .cells #[.iface 234 (.agg #[.pointer (some ⟨3,29,none⟩)])] t frozen
   |o=>o }
noncomputable def xO (os:Os):aj:=(aeP os).layVars Tryz.prog zH
theorem Le (os:Os):(xO os).os=os:=(World.layVars_os _ _ _).trans rfl
theorem XO (os:Os) (args:Array aI):laidMetH Tryz.prog aau ((xO os).forCall (λ_ _=>0) ⟨#[],args,[]⟩).memory:=by
 refine laidMetH_of_parts (show laidMet Tryz.prog zH _ from ?_) κ;have h:laidMet Tryz.prog zH (xO os):=laidMet_layVars (w0:=aeP os) (zH.map (·.1)) [] rfl κ κ LaidIn.none;exact h.of_heap (by simp[World.memory,World.forCall,Input.heap])
end
section
open Go.ChangeShapes Go.WideShapes Go.ChangeAt Go.RowKit Go.Sort
attribute [local go_sem] au
def nmF (s:ByteArray) (c:Int):ByteArray:=if c=0 then⟨#[]⟩ else s
theorem agh (p:aI) (W:aj):(Instr.typeAssert (.iface 117 p) 29 117 true).run Tryz.prog W= .ok (.tuple #[p,.bool true]) W:=κ
theorem Ea (s:ByteArray) (c:Int) (v:aI) (w:aj) (h:aco w s c v):aX Tryz.prog 29 #[v] w λe w'=>e= .returned (.tuple #[.string (nmF s c),Vi c])/\Ext w w':=by
 rcases h with⟨rfl,rfl⟩|⟨hc,q,rfl,hb⟩
 ·rw[show nmF s 0=⟨#[]⟩ from rfl]
  go_enter Tryz.func29,Tryz.ntmps29;go_wp2;exact aN (v:= .tuple #[.string ⟨#[]⟩,Vi 0]) (by simp[dK,Tryz.results29,go_sem]) rfl ⟨rfl,Ext.refl _⟩
 ·have a:=ah (show nmF s c=s from if_neg hc)
  have f:=agh (.pointer (some ⟨q,0,none⟩));have c0:=ak w q 0 _ _ _ hb;have c1:=ak w q 1 _ _ _ hb;replace c0:w.cell? ⟨q,0,none⟩=some (.string s):=c0;replace c1:w.cell? ⟨q,1,none⟩=some (.int .i64 c):=c1;clear hc hb;go_enter Tryz.func29,Tryz.ntmps29;go_wp2
  go_region
  go_wp2;exact aN (v:= .tuple #[.string s,Vi c]) (by simp[dK,Tryz.results29,go_sem]) rfl ⟨by rw[a.out],(Ext.refl _).drewN _⟩
structure Dq where
 what:Int
 p:Int
 k:Int
 t:List UInt8
 A:Option Addr
 m:Nat
 cap:Nat
 b:List UInt8
def adT (x:Dq):List aI:=[Vi x.what,Vi x.p,Vi x.k,Vs x.t,.slice x.A x.m x.cap]
theorem RP (x:Dq):(adT x).length=5:=rfl
abbrev dqv (x:Dq):aI:= .agg #[Vi x.what,Vi x.p,Vi x.k,Vs x.t,.slice x.A x.m x.cap]
structure U4 (W:aj) (x:Dq):Prop where
 by_:Bys W x.A x.b
 len:x.b.length=x.m
 cap:x.m<=x.cap
structure aew (x:Dq):Prop where
 w: -9223372036854775808<=x.what/\x.what<=9223372036854775807
 p: -9223372036854775808<=x.p/\x.p<=9223372036854775807
 k: -9223372036854775808<=x.k/\x.k<=9223372036854775807
 t:x.t.length<=60
 b:x.m<=600
def kD (x:Dq):Nat:=pkN x.what 4
def deC (S:DS) (x:Dq):Int:=if kD x=2 then Fa S x.p x.k else if kD x=3 then zP S x.b else yV S x.p x.t
def deS (S:DS) (x:Dq):DS:=if kD x=2 then E9 S x.p x.k else if kD x=3 then Du S x.b else Ba S x.p x.t
def deN (x:Dq):ByteArray:=if kD x=2 then⟨#[68,101,108,101,116,101]⟩ else if kD x=3 then⟨#[65,112,112,108,121]⟩ else⟨#[73,110,115,101,114,116]⟩
theorem FJ {l:List UInt8} {rs:List Rn} {ds:List Sp} {e:Nat} (h:parse l=some (rs,ds,e)):ds.length*3<=l.length:=by
 obtain⟨f,_,_,_,a⟩:=DU h;omega
theorem zV {l:List UInt8} {rs:List Rn} {ds:List Sp} (h:uo l=some (rs,ds)):ds.length*3<=l.length:=by
 unfold uo at h
 split at h
 ·cases h
 ·split at h
  ·cases h
  ·rename_i a
   split at h
   ·simp only[bJ,Prod.mk.injEq] at h
    obtain⟨rfl,rfl⟩:=h;exact FJ a
   ·cases h
def acs (w:aj) (d:Nat) (R:Nat->Prop) (S:DS) (x:Dq) (e:Ending) (w':aj):Prop:=
 e= .returned (.tuple #[Vi (if deC S x=0 then((deS S x).ver:Int) else 0),.string (nmF (deN x) (deC S x)),Vi (deC S x)])/\(∃R' a,pK R' w' d (deS S x) a/\∀b,R' b->R b\/w.heap.size<=b)/\RX d w w'
theorem abG {R:Nat->Prop} {w:aj} {d:Nat} {S:DS} {q:DM} (h:pK R w d S q) (hE:zR w) (hT:Tabs w) (hK:DOK S) (hl:S.L.length<=100000) (a1:S.Wt.length<=20000) (hV:S.V.length<=100000) (hD:S.D.length<=130000) (Lj:S.ver<=1000000000) (x:Dq) (hx:aew x) (ha:U4 w x):
  aX Tryz.prog 10 #[.pointer (some ⟨d,0,none⟩),dqv x] w (acs w d R S x):=by
 obtain⟨f,J⟩:∃W,w.alloc (.cells #[Vi x.what,Vi x.p,Vi x.k,Vs x.t,.slice x.A x.m x.cap] 34)=W:=⟨_,rfl⟩;have x1:Ext w f:=J▸(Ext.refl w).alloc _;have u:f.heap[w.heap.size]? =some (.cells #[Vi x.what,Vi x.p,Vi x.k,Vs x.t,.slice x.A x.m x.cap] 34 (0,0)):=J▸heap_alloc_new w _;have a2:=ah (Xm x.what 4 f ω ω);have H:=h.ext x1;have U:=hE.ext x1;have Z:=hT.ext x1;have a0:=ha.len;have a3:=hx.b;have N:=RY H U x.p x.k (UC H hK hl ω Lj x.p x.k hx.p hx.k);have M:=Hl H U x.p ⟨x.t.toArray⟩ (JX H hK Z ω ω ω Lj x.p hx.p x.t (by have:=hx.t;omega));have O:=KP H U x.A x.m x.cap (Nw H hK Z x.A x.m x.cap x.b (ha.by_.ext x1) a0 ha.cap ω (λrs ds e hp _=>by have:=FJ hp;omega) (λrs ds hg=>by have:=zV hg;omega) hl a1 hV hD Lj);have j:=ah (λ(s:ByteArray) (c:Int) (S':DS) (e:Ending) (w':aj) (e1:s=deN x) (e2:c=deC S x) (e3:S'=deS S x) (Q:Dk f d R s c S' e w')=>show∃v,e= .returned (.tuple #[Vi (if deC S x=0 then((deS S x).ver:Int) else 0),v])/\aco w' (deN x) (deC S x) v/\(∃R' Y,pK R' w' d (deS S x) Y/\∀b,R' b->R b\/w.heap.size<=b)/\RX d w w' from by
  subst e1 e2 e3;obtain⟨R',Y,v,H,h2,X,h4,h5⟩:=Q;exact⟨v,H,h2,⟨R',Y,X,λb hb=>(h5 b hb).imp id (aM x1.size)⟩,(RX.ext x1).trans h4⟩)
 have i:=ah (λ(W W':aj) (H:(∃R' Y,pK R' W d (deS S x) Y/\∀b,R' b->R b\/w.heap.size<=b)/\RX d w W) (x2:Ext W W') (e:Ending) (he:e= .returned (.tuple #[Vi (if deC S x=0 then((deS S x).ver:Int) else 0),.string (nmF (deN x) (deC S x)),Vi (deC S x)]))=>show acs w d R S x e W' from
  ⟨he,by obtain⟨R',Y,X,h4⟩:=H.1;exact⟨R',Y,X.ext x2,h4⟩,H.2.trans (RX.ext x2)⟩)
 obtain⟨z,hz⟩:∃z,(if deC S x=0 then((deS S x).ver:Int) else 0)=z:=⟨_,rfl⟩;obtain⟨c,hc⟩:∃c,deC S x=c:=⟨_,rfl⟩;obtain⟨s,hs⟩:∃s,deN x=s:=⟨_,rfl⟩;rw[hz,hc,hs] at j i;have c0:f.cell? ⟨w.heap.size,0,none⟩=some (Vi x.what):=ak f w.heap.size 0 _ _ _ u;have c1:f.cell? ⟨w.heap.size,1,none⟩=some (Vi x.p):=ak f w.heap.size 1 _ _ _ u;have c2:f.cell? ⟨w.heap.size,2,none⟩=some (Vi x.k):=ak f w.heap.size 2 _ _ _ u;have c3:f.cell? ⟨w.heap.size,3,none⟩=some (Vs x.t):=ak f w.heap.size 3 _ _ _ u;have c4:f.cell? ⟨w.heap.size,4,none⟩=some (.slice x.A x.m x.cap):=ak f w.heap.size 4 _ _ _ u;replace N:=ah N;replace M:=ah M;replace O:=ah O;have a:Hid (kD x=pkN x.what 4):=ah rfl;have a4:=afp (z:=x.what) (k:=4) ω;replace J:=ah J;clear u h hE hT hK hl a1 hV hD Lj hx ha x1 H U Z a0 a3;replace hz:=ah hz;replace hc:=ah hc;replace hs:=ah hs;go_enter Tryz.func10,Tryz.ntmps10
 go_wp2_with fail
 rw[J.out];generalize w.heap.size=pa at*;refine a2.out.mono ?_;rintro e _ ⟨rfl,rfl⟩;generalize pkN x.what 4=r at*;by_cases h2:r=2
 ·subst h2
  go_wp2_with fail
  refine N.out.mono ?_;rintro e I Q;obtain⟨v,rfl,hv,K⟩:=j.out _ _ _ e I (by rw[<-hs.out];unfold deN;rw[a.out];simp) (by rw[<-hc.out];unfold deC;rw[a.out];simp) (by unfold deS;rw[a.out];simp) Q;have hf:=ah (Ea s c v I hv);replace K:=ah K;clear hv Q
  go_wp2_with fail
  refine hf.out.mono ?_;rintro e w3 ⟨rfl,x3⟩;have hd:=ah (i.out I w3 K.out x3);clear x3
  go_wp2_with fail
  exact aN (v:= .tuple #[Vi z,.string (nmF s c),Vi c]) (by simp[dK,Tryz.results10,go_sem]) rfl (hd.out _ rfl)
 by_cases X:r=3
 ·subst X
  go_wp2_with fail
  refine O.out.mono ?_;rintro e I Q;obtain⟨v,rfl,hv,K⟩:=j.out _ _ _ e I (by rw[<-hs.out];unfold deN;rw[a.out];simp) (by rw[<-hc.out];unfold deC;rw[a.out];simp) (by unfold deS;rw[a.out];simp) Q;have hf:=ah (Ea s c v I hv);replace K:=ah K;clear hv Q
  go_wp2_with fail
  refine hf.out.mono ?_;rintro e w3 ⟨rfl,x3⟩;have hd:=ah (i.out I w3 K.out x3);clear x3
  go_wp2_with fail
  exact aN (v:= .tuple #[Vi z,.string (nmF s c),Vi c]) (by simp[dK,Tryz.results10,go_sem]) rfl (hd.out _ rfl)
 ·have g2:(((r:Nat):Int)==2)=false:=by rw[beq_eq_false_iff_ne];omega
  have g3:(((r:Nat):Int)==3)=false:=by rw[beq_eq_false_iff_ne];omega
  go_wp2_with fail
  refine M.out.mono ?_;rintro e I Q;obtain⟨v,rfl,hv,K⟩:=j.out _ _ _ e I (by rw[<-hs.out];unfold deN;rw[a.out];rw[if_neg h2,if_neg X]) (by rw[<-hc.out];unfold deC;rw[a.out];rw[if_neg h2,if_neg X]) (by unfold deS;rw[a.out];rw[if_neg h2,if_neg X]) Q;have hf:=ah (Ea s c v I hv);replace K:=ah K;clear hv Q
  go_wp2_with fail
  refine hf.out.mono ?_;rintro e w3 ⟨rfl,x3⟩;have hd:=ah (i.out I w3 K.out x3);clear x3
  go_wp2_with fail
  exact aN (v:= .tuple #[Vi z,.string (nmF s c),Vi c]) (by simp[dK,Tryz.results10,go_sem]) rfl (hd.out _ rfl)
def DqS (w:aj) (A:Option Addr) (l:List Dq):Prop:=Row w A (flat adT l)
theorem DqS.ext {w w':aj} {A:Option Addr} {l:List Dq} (h:DqS w A l) (a:Ext w w'):DqS w' A l:=Row.ext h a
theorem DqS.at {w:aj} {A:Option Addr} {l:List Dq} (h:DqS w A l) {k:Nat} (i:k<l.length):∃b o x,A=some ⟨b,o,none⟩/\l[k]? =some x/\w.cell? ⟨b,o+k*5,none⟩=some (Vi x.what)/\w.cell? ⟨b,o+k*5+1,none⟩=some (Vi x.p)/\w.cell? ⟨b,o+k*5+2,none⟩=some (Vi x.k)/\w.cell? ⟨b,o+k*5+3,none⟩=some (Vs x.t)/\w.cell? ⟨b,o+k*5+4,none⟩=some (.slice x.A x.m x.cap):=by
 obtain⟨x,f⟩:∃p,l[k]? =some p:=⟨l[k],List.getElem?_eq_getElem i⟩;obtain⟨b,o,e,a⟩:=Row.at h RP f ω;exact⟨b,o,x,e,f,a 0 _ rfl,a 1 _ rfl,a 2 _ rfl,a 3 _ rfl,a 4 _ rfl⟩
def okQ (x:Dq):Bool:=decide (x.t.length<=60)&&decide (x.m<=600)
def smD (l:List Dq):Bool:=decide (l.length<=20)&&l.all okQ
theorem Vd {l:List Dq} {k:Nat} {x:Dq} (h:l[k]? =some x) (a:okQ x=false):smD l=false:=by
 unfold smD;rw[Bool.and_eq_false_iff]
 right
 rw[List.all_eq_false];exact⟨x,aP h,by rw[a];exact Bool.false_ne_true⟩
theorem GU (A:Option Addr) (n cap:Nat) (l:List Dq) (w:aj) (hv:DqS w A l) (q:l.length=n) (Z:n<=9223372036854775807):
  aX Tryz.prog 7 #[.slice A n cap] w λe w'=>e= .returned (Vi (if smD l=true then 1 else 0))/\Ext w w':=by
 obtain⟨z,j⟩:∃z:Int,(if smD l=true then 1 else 0)=z:=⟨_,rfl⟩;rw[j];by_cases O:20<n
 ·have f:=ah (show(0:Int)=z by rw[<-j];unfold smD;rw[decide_eq_false ω];rfl)
  have Q:decide ((20:Int)<(n:Int))=true:=decide_eq_true ω;clear j q;go_enter Tryz.func7,Tryz.ntmps7;go_wp2;go_ret;exact⟨qW f.out,Ext.refl _⟩
 ·replace j:=ah j
  replace q:=ah q;replace hv:=ah hv;go_enter Tryz.func7,Tryz.ntmps7;go_wp2
  go_loopw [3] (λi W=>∃(k:Nat),k<=n/\i= .int .i64 k/\(l.take k).all okQ=true/\Ext w W) (λi _=>n-(intOf i).toNat)
  case atStart=>exact⟨0,cK _,rfl,rfl,Ext.refl _⟩
  case round=>
   obtain⟨k,Y,rfl,a,H⟩:=hrel;by_cases I:k<n
   ·obtain⟨b,o,x,N,u,c0,c1,c2,c3,c4⟩:=(hv.out.ext H).at (k:=k) (by rw[q.out];exact I)
    subst N;have M:(0:Int)<=(k:Int):=ω
    have K:(k:Int)<(n:Int):=ω
    replace a:=ah a;replace u:=ah u;by_cases U:60<x.t.length
    ·have f:=ah (show(0:Int)=z by rw[<-j.out,Vd u.out (by unfold okQ;rw[decide_eq_false ω];rfl)];rfl)
     go_wp2;go_ret;exact⟨qW f.out,H⟩
    ·by_cases X:600<x.m
     ·have f:=ah (show(0:Int)=z by rw[<-j.out,Vd u.out (by unfold okQ;rw[decide_eq_false (show¬x.m<=600 by omega),Bool.and_false])];rfl)
      go_wp2;go_ret;exact⟨qW f.out,H⟩
     ·have J:=ah (show(l.take (k+1)).all okQ=true by
       rw[List.take_add_one,u.out,Option.toList_some,List.all_append,a.out];simp[okQ];omega)
      go_wp2
      go_roundw
      case rel=>exact⟨k+1,ω,ν,J.out,H⟩
      case measure=>simp[intOf];omega
   ·obtain rfl:k=n:=ω
    have f:=ah (show(1:Int)=z by
     rw[<-j.out];have:smD l=true:=by
          unfold smD;rw[List.take_of_length_le (by rw[q.out];exact aD _)] at a;rw[a,decide_eq_true (by rw[q.out];omega)];rfl
     rw[if_pos this])
    clear a;go_wp2;go_ret;exact⟨qW f.out,H⟩
end
section
open Go.ChangeShapes Go.WideShapes Go.ChangeAt Go.RowKit Go.Sort
theorem ab4 {H:Type} {enc:TypeId×aI->H} {W:aj} {base:Nat} {Z:Nat->Bool} {hd:Bool} {J:Nat} {v:aI} {x:DataW H×List MemPlace} (M:mo enc Tryz.prog W base Z hd J 32 [v]=some x):
  ∃(A:Option Addr) (n cap:Nat) (l:List UInt8),v= .slice A n cap/\l.length=n/\n<=cap/\n<=maxLen/\Bys W A l:=by
 have ce:Tryz.prog.cellsOf 5=1:=κ
 rcases Go.Deep.open_slice Tryz.underlying32 M with⟨e,_⟩|⟨a',len,cap,m,n,D,Pl,e,_,hl,hm,hmm,_,hi⟩
 ·injection e with e
  subst e;exact⟨_,_,_,[],rfl,rfl,aD _,ω,Bys.nil _ _⟩
 ·injection e with e
  subst e;have a0:len<=m:=by rw[hmm];split <;> omega
  have z:∀i,i<len->∃q:UInt8,W.cell? (a'.add i)=some (Vb q):=by
   intro i a1;obtain⟨a2,Q,h2⟩:=hi i ω;rw[ce,Nat.mul_one] at Q;obtain⟨_,a,hc⟩:=World.cells?_some Q;obtain⟨x,Y,_,X⟩:=kF Tryz.underlying5 h2;have bx:0<=x/\x<=255:=by simpa[Lit.wf,IntKind.min,IntKind.max,IntKind.signed,IntKind.bits] using X
   have U:=hc 0 ω;rw[Go.Deep.add_add,Nat.add_zero,Y] at U;refine⟨UInt8.ofNat x.toNat,?_⟩;rw[U,Vb,CZ];have:((x.toNat%256:Nat):Int)=x:=ω
   rw[this];rfl
  obtain⟨q,N⟩:=Go.Deep.choose_lt z;refine⟨some a',len,cap,(jm len).map q,rfl,ι,hl,ω,?_⟩;intro h0;have a:0<len:=by simpa using h0
  have g0:=N 0 a;obtain⟨b,o,I⟩:=a';have f:I=none:=by simpa[Addr.add] using World.cell?_spot g0
  subst f;refine⟨b,o,rfl,λj u K=>?_⟩;have O:j<len:=by
   rcases Nat.lt_or_ge j len with k|k
   ·exact k
   ·rw[List.getElem?_eq_none (by simpa using k)] at K;cases K
  have:=N j O;rw[wU] at this;rw[this];simpa[List.getElem?_map,List.getElem?_range O] using K
section
theorem U4.ext {W W':aj} {x:Dq} (h:U4 W x) (a:Ext W W'):U4 W' x:=⟨h.by_.ext a,h.len,h.cap⟩
instance:Inhabited Dq:=⟨⟨0,0,0,[],none,0,0,[]⟩⟩
structure U3 (W:aj) (x:Dq):Prop where
 at_:U4 W x
 w: -9223372036854775808<=x.what/\x.what<=9223372036854775807
 p: -9223372036854775808<=x.p/\x.p<=9223372036854775807
 k: -9223372036854775808<=x.k/\x.k<=9223372036854775807
variable {H:Type} {W:aj} {base:Nat} {hd:Bool} {sp:Nat->Bool}
theorem U3.ok {x:Dq} (h:U3 W x) (a:okQ x=true):aew x:=by
 unfold okQ at a;simp only[aQ,decide_eq_true_eq] at a;exact⟨h.w,h.p,h.k,a.1,a.2⟩
theorem RV {enc:TypeId×aI->H} (f:Nat) (i:List aI) (x:DataW H×List MemPlace) (hl:i.length=5) (h:mo enc Tryz.prog W base sp hd f 34 i=some x):
  ∃q,U3 W q/\adT q=i:=by
 match i,hl with
 |[v0,v1,v2,v3,v4],_=>
  obtain⟨xs,k,hk,a0,_,j,e⟩:=DataW.trod_struct Tryz.underlying34 h
  match xs,j with
  |[y0,y1,y2,y3,y4],_=>
   have Z:=e 0 _ rfl;have Y:=e 1 _ rfl;have X:=e 2 _ rfl;have U:=e 3 _ rfl;have Q:=e 4 _ rfl;have ci:Tryz.prog.cellsOf 3=1:=κ
   have J:Tryz.prog.cellsOf 9=1:=κ
   have cb:Tryz.prog.cellsOf 32=1:=κ
   simp[ci,J,cb] at Z Y X U Q;obtain⟨a,O,_,wa⟩:=kF Tryz.underlying3 Z;obtain⟨b,N,_,wb⟩:=kF Tryz.underlying3 Y;obtain⟨c,M,_,wc⟩:=kF Tryz.underlying3 X;obtain⟨z,K,_,wz⟩:=DataW.trod_string Tryz.underlying9 U;obtain⟨A,m,cap,l,rfl,I,u,_,hb⟩:=ab4 Q;simp at O N M K;exact⟨⟨a,b,c,z.data.toList,A,m,cap,l⟩,⟨⟨hb,I,u⟩,bounds_i64 wa,bounds_i64 wb,bounds_i64 wc⟩,by simp[adT,O,N,M,K]⟩
theorem abD {enc:TypeId×aI->H} {a:Nat} {r:Reach} {v:aI} {d:DataW H} {p:List MemPlace} (hv:lM Tryz.prog W r a 22 v) (h:DataW.Trod enc Tryz.prog W base sp hd 22 v d p):
  ∃(A:Option Addr) (n cap:Nat) (l:List Dq),v= .slice A n cap/\l.length=n/\n<=cap/\n<=maxLen/\DqS W A l/\∀x∈l,U3 W x:=
 NU RP ω Tryz.underlying22 κ RV hv h
theorem adW {enc:TypeId×aI->H} {I:Nat} {r:Reach} {v:aI} {d:DataW H} {p:List MemPlace} (hv:lM Tryz.prog W r I 34 v) (h:DataW.Trod enc Tryz.prog W base sp hd 34 v d p):
  ∃q,U3 W q/\v=dqv q:=by
 simp only[lM,Tryz.underlying34] at hv;obtain⟨i,rfl,a,_⟩:=hv;have c5:Tryz.prog.cellsOf 34=5:=κ
 rw[c5] at a;obtain⟨e,u⟩:=h;have f:mo enc Tryz.prog W base sp hd e 34 i.toList=some (d,p):=u;obtain⟨q,j,z⟩:=RV _ _ _ (by simpa using a) f;exact⟨q,j,by rw[<-Array.toArray_toList (xs:=i),<-z];rfl⟩
end
end
section
open Go.Lib
variable {S:DS} {x:Dq}
theorem GN.mono {n m a e:Nat} (h:GN S n m) (i:n<=a) (f:m<=e):GN S a e:=⟨aM h.lw i,h.v,aM h.d f⟩
theorem adk (S:DS) (p:Int) (t:List UInt8):0<=yV S p t/\yV S p t<=6:=by unfold yV;repeat' split <;> omega
theorem adY (S:DS) (p m:Int):0<=Fa S p m/\Fa S p m<=6:=by unfold Fa;repeat' split <;> omega
theorem ael (S:DS) (b:List UInt8):0<=zP S b/\zP S b<=6:=by
 unfold zP
 split
 ·omega
 ·split
  ·omega
  ·split
   ·omega
   ·split <;> omega
theorem ad7 (S:DS) (x:Dq):0<=deC S x/\deC S x<=6:=by
 unfold deC
 split
 ·exact adY ..
 ·split
  ·exact ael ..
  ·exact adk ..
theorem ad4 (h:S.closed=true) (x:Dq):deC S x=6:=by
 unfold deC Fa zP yV;simp[h]
theorem ad5 (h:deC S x≠0):deS S x=S:=by
 unfold deC at h;unfold deS
 split
 ·rename_i a
  rw[if_pos a] at h;unfold E9;rw[if_neg (λe=>h e.1)]
 ·rename_i a
  rw[if_neg a] at h
  split
  ·rename_i f
   rw[if_pos f] at h;unfold Du;rw[if_neg h]
  ·rename_i f
   rw[if_neg f] at h;unfold Ba;rw[if_neg (λe=>h e.1)]
theorem Pg (S:DS) (x:Dq):S.ver<=(deS S x).ver/\(deS S x).ver<=S.ver+1:=by
 unfold deS
 split
 ·unfold E9
  split <;> simp
 ·split
  ·unfold Du
   split
   ·split
    ·simp
    ·simp only
     split <;> simp
   ·simp
  ·unfold Ba
   split <;> simp
theorem ah3 (h:DOK S) (x:Dq):DOK (deS S x):=by
 unfold deS
 split
 ·exact ags h _ _
 ·split
  ·exact ace h _
  ·exact aaC h _ _
theorem agt {n m:Nat} (e:DOK S) (h:GN S n m) {W:aj} (a:aew x) (f:U4 W x):GN (deS S x) (n+600) (m+n+600):=by
 unfold deS
 split
 ·exact(adX e.kn h x.p x.k).mono (aD _) ω
 ·split
  ·exact WG e h x.b (by have:=f.len;have:=a.b;omega) λrs ds i=>by have:=zV i;have:=f.len;have:=a.b;omega
  ·exact(VJ h x.p x.t a.t).mono (aD _) ω
structure uZ (S:DS) (k:Nat):Prop where
 ok:DOK S
 len:GN S (600*k) (300*(k*(k+1)))
 ver:S.ver<=k
theorem uZ.new {c l:Int} (h:DOK (newS c l)):uZ (newS c l) 0:=⟨h,⟨aD _,aD _,aD _⟩,aD _⟩
theorem uZ.step {k:Nat} (h:uZ S k) {W:aj} (a:aew x) (e:U4 W x):uZ (deS S x) (k+1):=
 ⟨ah3 h.ok x,(agt h.ok h.len a e).mono ω (by rw[show(k+1)*(k+1+1)=k*(k+1)+2*(k+1) by rw[Nat.add_mul k 1,Nat.mul_add k (k+1) 1];omega];omega),by have:=(Pg S x).2;have:=h.ver;omega⟩
theorem uZ.few {k:Nat} (h:uZ S k) (a:k<=21):S.L.length<=100000/\S.Wt.length<=20000/\S.V.length<=100000/\S.D.length<=139000/\S.ver<=1000000000/\(k<=20->S.D.length<=130000):=by
 have u:=h.len.lw;have q:=h.len.v;have j:=h.len.d;have i:=h.ver;have f:k*(k+1)<=21*22:=Nat.mul_le_mul a ω;refine⟨ω,ω,ω,ω,ω,λa=>?_⟩;have e:k*(k+1)<=20*21:=Nat.mul_le_mul a ω;omega
theorem ad6 (x:Dq):deN x=⟨#[73,110,115,101,114,116]⟩\/deN x=⟨#[68,101,108,101,116,101]⟩\/deN x=⟨#[65,112,112,108,121]⟩:=by
 unfold deN
 split
 ·exact .inr (.inl rfl)
 ·split
  ·exact .inr (.inr rfl)
  ·exact .inl rfl
end
section
open Go.ChangeShapes Go.WideShapes Go.ChangeAt Go.RowKit Go.Sort
variable {B d e k:Nat} {R:Nat->Prop} {S:DS} {W w:aj} {q:DM}
theorem pK.off {W':aj} (h:pK R W d S q) (f:RX e W W') (j:∀b,R b->b≠e) (u:d≠e):pK R W' d S q:=
 ⟨⟨h.ou.rd,h.ou.ls.rx f λb z=>j b (h.ou.rF b z).1,h.ou.rF,h.ou.mks,Row.rx h.ou.vec f λa i=>j _ (h.ou.rA a i).1,h.ou.rA,h.ou.nA,Row.rx h.ou.its f λa i=>j _ (h.ou.rB a i).1,h.ou.rB,h.ou.nB,Row.rx h.ou.sps f λa i=>j _ (h.ou.rC a i).1,h.ou.rC,h.ou.nC,bD h.ou.low (eY f)⟩,f.blk h.box u⟩
theorem wK.wide {R':Nat->Prop} (h:wK R W d S q) (i:∀b,R b->R' b):wK R' W d S q:=
 ⟨i _ h.rd,h.ls,λb j=>⟨i _ (h.rF b j).1,(h.rF b j).2⟩,h.mks,h.vec,λa f=>⟨i _ (h.rA a f).1,(h.rA a f).2⟩,h.nA,h.its,λa f=>⟨i _ (h.rB a f).1,(h.rB a f).2⟩,h.nB,h.sps,λa f=>⟨i _ (h.rC a f).1,(h.rC a f).2⟩,h.nC,h.low⟩
theorem pK.wide {R R':Nat->Prop} {W:aj} {d:Nat} {S:DS} {q:DM} (h:pK R W d S q) (a:∀b,R b->R' b):pK R' W d S q:=⟨h.ou.wide a,h.box⟩
def yD (B e:Nat) (W:aj) (d:Nat) (S:DS):Prop:=∃q,pK (λb=>B<=b/\b≠e) W d S q
theorem yD.ext {B e:Nat} {W W':aj} {d:Nat} {S:DS} (h:yD B e W d S) (a:Ext W W'):yD B e W' d S:=by
 obtain⟨q,h⟩:=h;exact⟨q,h.ext a⟩
theorem yD.off {B e:Nat} {W W':aj} {d:Nat} {S:DS} (h:yD B e W d S) (a:RX e W W'):yD B e W' d S:=by
 obtain⟨q,h⟩:=h;exact⟨q,h.off a (λb f=>f.2) h.ou.rd.2⟩
theorem yD.next {W':aj} {R':Nat->Prop} (h:pK R' W' d S q) (j:B<=W.heap.size) (i:e<W.heap.size) (f:∀b,R' b->(B<=b/\b≠e)\/W.heap.size<=b):yD B e W' d S:=
 ⟨q,h.wide λb a=>(f b a).elim id λh=>⟨ω,ω⟩⟩
theorem abF (h:DOK S) (b:Bool):DOK { S with closed:=b }:=⟨h.c0,h.c1,h.l0,h.l1,h.kn,h.wfL,h.BM,h.wfV,h.cnt,h.rise,h.wfW,h.DY,h.wfD,h.own⟩
theorem uZ.shut (h:uZ S k) (b:Bool):uZ { S with closed:=b } k:=⟨abF h.ok b,⟨h.len.lw,h.len.v,h.len.d⟩,h.ver⟩
theorem Vy {c l:Int} (h:W.heap[d]? =some (.cells (Lr (newS c l) ⟨zLv,none,0,none,0,none,0,λ_=>False,[]⟩) 87 (0,0))) (i:w.heap.size<=d) (u:R d):pK R W d (newS c l) ⟨zLv,none,0,none,0,none,0,λ_=>False,[]⟩:=
 have k:=(Vz h i).ou
 ⟨⟨u,k.ls,(λb j=>j.elim),k.mks,k.vec,(λa f=>by cases f),k.nA,k.its,(λa f=>by cases f),k.nB,k.sps,(λa f=>by cases f),k.nC,k.low⟩,h⟩
def U2 (B e:Nat) (w:aj) (d:Nat) (S:DS) (z:Ending) (w':aj):Prop:=∃v,z= .returned v/\yD B e w' d S/\RX d w w'
theorem Dk.two {s:ByteArray} {c:Int} {z:Ending} {w':aj} (h:Dk w d (λb=>B<=b/\b≠e) s c S z w') (f:B<=w.heap.size) (a:e<w.heap.size):U2 B e w d S z w':=by
 obtain⟨R',q,v,rfl,_,u,j,i⟩:=h;exact⟨_,rfl,yD.next u f a i,j⟩
theorem ahf (h:yD B e w d S) (u:B<=w.heap.size) (f:e<w.heap.size) (j:zR w) (i:Tabs w) (hi:uZ S k) (a:k<=20) (p:Int) (J:0<=p/\p<=1000) (t:List UInt8) (I:t.length<=60):
  aX Tryz.prog 26 #[.pointer (some ⟨d,0,none⟩),Vi p,Vs t] w (U2 B e w d (Ba S p t)):=by
 obtain⟨q,h⟩:=h;obtain⟨N,M,K,_,H,z⟩:=hi.few ω;have:=z a;exact(Hl h j p ⟨t.toArray⟩ (JX h hi.ok i ω ω ω H p ω t ω)).mono λ_ _ hh=>hh.two u f
theorem aiq (h:yD B e w d S) (M:B<=w.heap.size) (z:e<w.heap.size) (K:zR w) (J:Tabs w) (hi:uZ S k) (j:k<=20) (A:Option Addr) (n c:Nat) (b:List UInt8) (I:Bys w A b) (i:b.length=n) (H:n<=c) (a:n<=20000):
  aX Tryz.prog 22 #[.pointer (some ⟨d,0,none⟩),.slice A n c] w (U2 B e w d (Du S b)):=by
 obtain⟨q,h⟩:=h;obtain⟨X,U,Q,_,O,N⟩:=hi.few ω;exact(KP h K A n c (Nw h hi.ok J A n c b I i H a (λrs ds e f _=>by have:=FJ f;omega) (λrs ds u=>by have:=zV u;omega) X U Q (N j) O)).mono λ_ _ hh=>hh.two M z
theorem uZ.nx {a:DS} (h:uZ S k) (i:DOK a) (f:GN a (600*k+600) (300*(k*(k+1))+600*k+600)) (hv:a.ver<=S.ver+1):uZ a (k+1):=
 ⟨i,f.mono ω (by rw[show(k+1)*(k+1+1)=k*(k+1)+2*(k+1) by rw[Nat.add_mul k 1,Nat.mul_add k (k+1) 1];omega];omega),by have:=h.ver;omega⟩
theorem uZ.app (h:uZ S k) (b:List UInt8) (f:b.length<=600):uZ (Du S b) (k+1):=
 h.nx (ace h.ok b) (WG h.ok h.len b f λrs ds a=>by have:=zV a;omega) (Pg S ⟨3,0,0,[],none,0,0,b⟩).2
theorem uZ.ins (h:uZ S k) (p:Int) (t:List UInt8) (a:t.length<=60):uZ (Ba S p t) (k+1):=
 h.nx (aaC h.ok p t) ((VJ h.len p t a).mono (aD _) ω) (Pg S ⟨0,p,0,t,none,0,0,[]⟩).2
end
section
open Go.ChangeShapes Go.WideShapes Go.ChangeAt Go.RowKit Go.Sort
attribute [local go_sem] au
def uA0:DS:=newS 1 100
def uB0:DS:=newS 2 100
def uA1:DS:=Ba uA0 0 [97,98]
def uB1:DS:=Ba uB0 0 [120,121]
def uAr:List Rn:=pO (qV uA1 uB1.V)
def uBr:List Rn:=pO (qV uB1 uA1.V)
def uAb:List UInt8:=Ap uAr uA1.D
def uBb:List UInt8:=Ap uBr uB1.D
def uA2:DS:=Du uA1 uBb
def uB2:DS:=Du uB1 uAb
theorem aeF:uZ uA0 0:=uZ.new (TF ω ω ω ω)
theorem aeE:uZ uB0 0:=uZ.new (TF ω ω ω ω)
theorem acz:textE uA2.E=⟨#[97,98,120,121]⟩:=by decide+kernel
theorem acy:textE uB2.E=⟨#[97,98,120,121]⟩:=by decide+kernel
theorem afc:uAr=[⟨1,0,0,0,0,0,[97,98]⟩]:=κ
theorem afb:uBr=[⟨2,0,0,0,0,0,[120,121]⟩]:=κ
theorem aiJ:uA1.D=[]:=κ
theorem aiI:uB1.D=[]:=κ
theorem NR:uAb.length=14:=κ
theorem NQ:uBb.length=14:=κ
theorem ag5 {c:Int} {t:List UInt8} (i:0<=c) (f:c<=4294967295) (e:t.length<=4):∀r∈[(⟨c,0,0,0,0,0,t⟩:Rn)],wfR r/\r.t.length<=20000:=by
 intro r a;rw[cu] at a;subst a;exact⟨by unfold wfR;simp;omega,by show t.length<=20000;omega⟩
theorem IJ:uZ uA1 1:=aeF.ins 0 [97,98] ι
theorem II:uZ uB1 1:=aeE.ins 0 [120,121] ι
theorem Zj {S:DS} {v:List (Int×Int)} {rs:List Rn} {b:List UInt8} (j:pO (qV S v)=rs) (I:S.D=[]) (f:Ap rs S.D=b) (K:Ia rs S.D=true) (O:∀r∈rs,wfR r/\r.t.length<=20000) (u:rs.length<=100) (H:b.length<=100) (hN:(qV S v).length<=100) (i:oq 0 v=true) {k:Nat} (hi:uZ S k) (hk:k<=20):
  (∀{R:Nat->Prop} {W:aj} {d:Nat} {q:DM} (h:pK R W d S q) (A:Option Addr) (n cap:Nat) (hv:Vec W A v) (u:v.length=n),n<=1000->aX Tryz.prog 13 #[.pointer (some ⟨d,0,none⟩),.slice A n cap] W λe W'=>∃z,e= .returned z/\aex W' rs [] z/\Ext W W')/\
  ∀{W:aj} {z:aI},Tabs W->aex W rs [] z->aX Tryz.prog 21 #[z] W λe W'=>∃A c,e= .returned (.tuple #[.slice A b.length c,.nilIface])/\b.length<=c/\Bys W' A b/\wV W.heap.size A/\Ext W W':=by
 obtain⟨h1,h2,h3,_,h5,h6⟩:=hi.few ω;subst j;refine⟨λh A n cap hv u H=>?_,λhT M=>?_⟩
 ·have:=SK h hi.ok ω (by rw[I];simp) ω A n cap hv u i ω
  rw[I] at this;exact this
 ·obtain⟨A,c,B,d,rfl,Y,X,U,Q⟩:=M
  rw[I] at f K;refine(Tn A _ c B _ d _ [] _ hT Y rfl U rfl O (λx N=>by cases N) ι ω (by rw[f];omega)).mono ?_;rw[K,f];rintro e W' ⟨v,rfl,J,x⟩;obtain⟨A',c',rfl,Z,H⟩:=J.open;exact⟨A',c',rfl,Z,H,λa ha=>J.lt a.block (by rw[ha];rfl),x⟩
theorem Za (w:aj) (hE:zR w) (hT:Tabs w):aX Tryz.prog 6 #[] w λe w'=>e= .returned (.bool true)/\Ext w w':=by
 have I:=ah (λW=>JD 1 100 W ω ω);have a6:=ah (λW=>JD 2 100 W ω ω);go_enter Tryz.func6,Tryz.ntmps6
 go_wp2_with fail
 refine(I.out w).mono ?_;rintro e w1 ⟨rfl,b1,x1⟩;obtain⟨H,b3⟩:∃d,w.heap.size=d:=⟨_,rfl⟩;rw[b3] at b1⊢;have a7:=(aC.1 b1).1
 go_wp2_with fail
 refine(a6.out w1).mono ?_;rintro e w2 ⟨rfl,b2,x2⟩;obtain⟨d2,b0⟩:∃d,w1.heap.size=d:=⟨_,rfl⟩;rw[b0] at b2 a7⊢;have a0:=(aC.1 b2).1;have u:yD H d2 w2 H uA0:=⟨_,(Vy (w:=w) b1 ω ⟨aD _,ω⟩).ext x2⟩;have q:yD H H w2 d2 uB0:=⟨_,Vy (w:=w1) b2 ω ⟨ω,ω⟩⟩;have j:=x1.trans x2;have a2:H<=w2.heap.size:=ω
 clear b1 b2 x1 x2 I a6;have h3:=ah (ahf u a2 a0 (hE.ext j) (hT.ext j) aeF ω 0 ω [97,98] ι);replace q:=ah q;clear u
 go_wp2_with fail
 refine h3.out.mono ?_;rintro e w3 ⟨v,rfl,u,rx⟩;replace u:yD H d2 w3 H uA1:=u;replace q:=q.out.off rx;replace j:=RX.down j ω rx;have a1:=aM a2 (eY rx);have e0:=bD a7 (aM (Nat.le_of_lt a0) (eY rx));have d7:=bD a0 (eY rx);clear rx h3 a2 a0;have h4:=ah (ahf q a1 ω (hE.ext j) (hT.ext j) aeE ω 0 ω [120,121] ι);replace u:=ah u;clear q
 go_wp2_with fail
 refine h4.out.mono ?_;rintro e w4 ⟨v',rfl,q,rx⟩;replace q:yD H H w4 d2 uB1:=q;replace u:=u.out.off rx;replace j:=RX.down j ω rx;have f:=aM a1 (eY rx);have i:=bD d7 (eY rx);clear rx h4 a1 e0 d7;have Zi:=Zj (v:=uB1.V) (rs:=uAr) (b:=uAb) rfl aiJ rfl (by decide+kernel) (by rw[afc];exact ag5 ω ω ι) (of_decide_eq_true κ) (by rw[NR];omega) (of_decide_eq_true κ) II.ok.BM IJ ω;have Zh:=Zj (v:=uA1.V) (rs:=uBr) (b:=uBb) rfl aiI rfl (by decide+kernel) (by rw[afb];exact ag5 ω ω ι) (of_decide_eq_true κ) (by rw[NQ];omega) (of_decide_eq_true κ) IJ.ok.BM II ω;obtain⟨qB,Y⟩:=q;have h5:=ah (yE Y (by have:=(II.few ω).2.2.1;omega));have X:=ah u;have U:=ah Y;clear u Y
 go_wp2_with fail
 refine h5.out.mono ?_;rintro e w5 ⟨A,n,c,rfl,hn,hv,x5,_,_⟩;obtain⟨qA,Z⟩:=X.out.ext x5;have Q:=ah (U.out.ext x5);have I:n<=1000:=by rw[<-hn];exact of_decide_eq_true κ
 have h6:=ah (Zi.1 Z A n c hv hn I);replace j:=j.trans x5;replace f:=aM f x5.size;replace i:=bD i x5.size;have N:=ah Z;clear h5 X U Z hv hn x5
 go_wp2_with fail
 refine h6.out.mono ?_;rintro e w6 ⟨z,rfl,hz,x6⟩;replace j:=j.trans x6;have h7:=ah (Zi.2 (hT.ext j) hz);have O:=ah (Q.out.ext x6);have M:=ah (N.out.ext x6);replace f:=aM f x6.size;replace i:=bD i x6.size;clear h6 hz x6 Q N
 go_wp2_with fail
 refine h7.out.mono ?_;rintro e w7 ⟨AA,cA,rfl,b5,b7,d3,J⟩;have a9:∀a,AA=some a->a.block≠H:=λa ha=>by have:=d3 a ha;omega
 replace j:=j.trans J;have u:yD H d2 w7 H uA1:=⟨qA,M.out.ext J⟩;have q:yD H H w7 d2 uB1:=⟨qB,O.out.ext J⟩;replace f:=aM f J.size;replace i:=bD i J.size;have K:=ah b7;clear h7 O M b7;obtain⟨qA,Z⟩:=u;have h5:=ah (yE Z (by have:=(IJ.few ω).2.2.1;omega));have X:=ah q;have U:=ah Z;clear q Z
 go_wp2_with fail
 refine h5.out.mono ?_;rintro e w8 ⟨A,n,c,rfl,hn,hv,x5,_,_⟩;obtain⟨qB,Y⟩:=X.out.ext x5;have Q:=ah (U.out.ext x5);have I:n<=1000:=by rw[<-hn];exact of_decide_eq_true κ
 have h6:=ah (Zh.1 Y A n c hv hn I);replace j:=j.trans x5;replace f:=aM f x5.size;replace i:=bD i x5.size;have N:=ah Y;have d5:=ah (K.out.ext x5);clear h5 X U Y hv hn x5 K
 go_wp2_with fail
 refine h6.out.mono ?_;rintro e w9 ⟨z,rfl,hz,x6⟩;replace j:=j.trans x6;have h7:=ah (Zh.2 (hT.ext j) hz);have O:=ah (Q.out.ext x6);have M:=ah (N.out.ext x6);replace f:=aM f x6.size;replace i:=bD i x6.size;have d6:=ah (d5.out.ext x6);clear h6 hz x6 Q N d5
 go_wp2_with fail
 refine h7.out.mono ?_;rintro e a5 ⟨AB,cB,rfl,b4,b6,e1,J⟩;replace j:=j.trans J;have q:yD H H a5 d2 uB1:=⟨qB,M.out.ext J⟩;have u:yD H d2 a5 H uA1:=⟨qA,O.out.ext J⟩;replace f:=aM f J.size;replace i:=bD i J.size;have a8:=ah b6;have K:=ah (d6.out.ext J);clear d6;clear h7 O M b6;have h8:=ah (aiq u f i (hE.ext j) (hT.ext j) IJ ω AB uBb.length cB uBb a8.out rfl b4 (by rw[NQ];omega));replace q:=ah q;clear u
 go_wp2_with fail
 refine h8.out.mono ?_;rintro e d9 ⟨v,rfl,u,rx⟩;replace u:yD H d2 d9 H uA2:=u;replace q:=q.out.off rx;have d4:=Row.rx K.out rx a9;replace j:=RX.down j ω rx;replace f:=aM f (eY rx);replace i:=bD i (eY rx);have h9:=ah (aiq q f ω (hE.ext j) (hT.ext j) II ω AA uAb.length cA uAb d4 rfl b5 (by rw[NR];omega));replace u:=ah u;clear rx q h8 K d4 a8
 go_wp2_with fail
 refine h9.out.mono ?_;rintro e a4 ⟨v',rfl,q,rx⟩;replace q:yD H H a4 d2 uB2:=q;replace u:=u.out.off rx;replace j:=RX.down j ω rx;obtain⟨qa,Z⟩:=u;obtain⟨qb,Y⟩:=q;have b9:=ah (Es Z (by have:=((IJ.app uBb (by rw[NQ];omega)).few ω).1;show uA2.L.length<=300000;unfold uA2;omega));have b8:=ah (λ(W:aj) (x:Ext a4 W)=>Es (Y.ext x) (by have:=((II.app uAb (by rw[NR];omega)).few ω).1;show uB2.L.length<=300000;unfold uB2;omega));rw[acz] at b9;rw[acy] at b8;clear rx h9 Z Y b5 b4 a9 d3 e1 f i Zi Zh b3 b0
 go_wp2_with fail
 refine b9.out.mono ?_;rintro e e3 ⟨rfl,a3⟩
 go_wp2_with fail
 refine(b8.out _ a3).mono ?_;rintro e e2 ⟨rfl,d8⟩;go_wp2;go_ret;exact⟨rfl,(j.trans a3).trans d8⟩
theorem acL (x:Dq):smD [x]=okQ x:=by unfold smD;simp
theorem acM {l:List Dq} (h:smD l=true):l.length<=20/\∀x∈l,okQ x=true:=by
 unfold smD at h;rw[aQ,decide_eq_true_eq,List.all_eq_true] at h;exact h
def Dn (W:aj) (d k:Nat) (P:DS->Prop):Prop:=∃S R q,pK R W d S q/\uZ S k/\P S
theorem H6 (lim:Int) (g8:0<=lim) (g7:lim<=4294967295) (A:Option Addr) (n cap:Nat) (l:List Dq) (x:Dq) (shut:Bool) (w:aj) (hv:DqS w A l) (hn:l.length=n) (hb:n<=maxLen) (hin:∀y∈l,U3 w y) (hx:U3 w x) (hE:zR w) (hT:Tabs w):
  aX Tryz.prog 5 #[Vu lim,.slice A n cap,dqv x,.bool shut] w λe w'=>e= .returned (.bool true)/\Ext w w':=by
 unfold maxLen at hb;obtain⟨w1,Q⟩:∃W,w.alloc (.cells #[Vi x.what,Vi x.p,Vi x.k,Vs x.t,.slice x.A x.m x.cap] 34)=W:=⟨_,rfl⟩;have x1:Ext w w1:=Q▸(Ext.refl w).alloc _;have a4:w1.heap[w.heap.size]? =some (.cells #[Vi x.what,Vi x.p,Vi x.k,Vs x.t,.slice x.A x.m x.cap] 34 (0,0)):=Q▸heap_alloc_new w _;have d3:=ah (Za w1 (hE.ext x1) (hT.ext x1));have d4:=ah (λ(W:aj) (e:Ext w W)=>GU A n cap l W (hv.ext e) hn ω);have b0:=ah (λW:aj=>GU (some ⟨W.heap.size,0,none⟩) 1 1 [x] (W.alloc (.cells #[Vi x.what,Vi x.p,Vi x.k,Vs x.t,.slice x.A x.m x.cap] 34)) (Row.new W #[Vi x.what,Vi x.p,Vi x.k,Vs x.t,.slice x.A x.m x.cap] 34) rfl ω);obtain⟨f,a2⟩:∃p,w.heap.size=p:=⟨_,rfl⟩;rw[a2] at a4;replace Q:=ah Q;have a3:=ah (λ(W:aj) (e:Ext w1 W)=>(aJ e f (aC.1 a4).1).trans a4);replace a2:=ah a2;clear a4;go_enter Tryz.func5,Tryz.ntmps5
 go_wp2_with fail
 rw[Q.out,a2.out];refine d3.out.mono ?_;rintro e w2 ⟨rfl,x2⟩
 go_wp2_with fail
 refine(d4.out _ (x1.trans x2)).mono ?_;rintro e w3 ⟨rfl,x3⟩;replace x3:=x2.trans x3;clear x2 d3 d4;cases f1:smD l with
 |false=>
  rw[if_neg ι];clear b0 a3
  go_wp2_with fail
  go_ret;exact⟨rfl,x1.trans x3⟩
 |true=>
 rw[if_pos rfl];have N:=a3.out _ x3;have c0:w3.cell? ⟨f,0,none⟩=some (Vi x.what):=ak w3 f 0 _ _ _ N;have c1:w3.cell? ⟨f,1,none⟩=some (Vi x.p):=ak w3 f 1 _ _ _ N;have c2:w3.cell? ⟨f,2,none⟩=some (Vi x.k):=ak w3 f 2 _ _ _ N;have c3:w3.cell? ⟨f,3,none⟩=some (Vs x.t):=ak w3 f 3 _ _ _ N;have c4:w3.cell? ⟨f,4,none⟩=some (.slice x.A x.m x.cap):=ak w3 f 4 _ _ _ N;clear N
 go_wp2_with fail
 refine(b0.out w3).mono ?_;rintro e w4 ⟨rfl,x4⟩;replace x4:=(x3.alloc _).trans x4;clear x3 b0 c0 c1 c2 c3 c4;rw[acL];cases f0:okQ x with
 |false=>
  rw[if_neg ι];clear a3
  go_wp2_with fail
  go_ret;exact⟨rfl,x1.trans x4⟩
 |true=>
 rw[if_pos rfl];obtain⟨g0,Y⟩:=acM f1;rw[hn] at g0;have b8:=hx.ok f0;obtain⟨M,hM⟩:∃M,min lim 4294967294=M:=⟨_,rfl⟩;have a5:0<=M/\M<=4294967294:=ω
 have d5:=ah (JD 3 M w4 ω a5.2);have f7:=ah hM
 go_wp2_with fail
 refine d5.out.mono ?_;rintro e w5 ⟨rfl,b5,x5⟩;obtain⟨d,hd⟩:∃d,w4.heap.size=d:=⟨_,rfl⟩;rw[hd] at b5⊢;have e7:=ah (show Dn w5 d 0 (λ_=>True) from⟨_,_,_,Vz (w:=w4) b5 ω,uZ.new (TF ω ω a5.1 a5.2),trivial⟩);have b4:=ah (show w1.heap.size<=d by have:=x4.size;omega);have x6:=ah (x4.trans x5);replace hM:=ah hM;clear b5 d5 x4 x5 f7 a5 hd;replace hin:=ah hin;replace Y:=ah Y;replace hv:=ah hv;replace hn:=ah hn;replace x1:=ah x1;replace hE:=ah hE;replace hT:=ah hT
 go_wp2_with fail
 go_loopw [12] (λi W=>∃(k:Nat),k<=n/\i= .int .i64 k/\Hid (Dn W d k (λ_=>True))/\Hid (Ext w1 W)) (λi _=>n-(intOf i).toNat)
 case atStart=>exact⟨0,cK _,rfl,e7,x6⟩
 case round=>
  clear e7 x6;obtain⟨k,hk,rfl,hP,H⟩:=hrel;by_cases d6:k<n
  ·obtain⟨b,o,y,hA,hy,c0,c1,c2,c3,c4⟩:=(hv.out.ext (x1.out.trans H.out)).at (k:=k) (by rw[hn.out];exact d6)
   subst hA;have h0:(0:Int)<=(k:Int):=ω
   have g9:(k:Int)<(n:Int):=ω
   have a0:=hin.out y (aP hy);have a6:=a0.ok (Y.out y (aP hy));obtain⟨S,R,q,Z,hi,_⟩:=hP.out;have u:=x1.out.trans H.out;obtain⟨g1,g2,g3,_,g5,g6⟩:=hi.few ω;have f6:=ah (abG Z (hE.out.ext u) (hT.out.ext u) hi.ok g1 g2 g3 (g6 ω) g5 y a6 (a0.at_.ext u));have f3:=ah (λ(e:Ending) (W:aj) (h:acs wr d R S y e W)=>show(∃v,e= .returned v)/\Hid (Dn W d (k+1) (λ_=>True))/\Hid (Ext w1 W) from by
        obtain⟨h1,⟨R',q',h2,_⟩,h3⟩:=h;exact⟨⟨_,h1⟩,ah ⟨_,R',q',h2,hi.step a6 (a0.at_.ext u),trivial⟩,ah (RX.down H.out b4.out h3)⟩)
   clear hP hy a0 a6 Z hi g1 g2 g3 g5 g6 u
   go_wp2_with fail
   refine f6.out.mono ?_;rintro e W h;obtain⟨⟨v,rfl⟩,K,j⟩:=f3.out e W h;clear h
   go_wp2_with fail
   go_roundw
   case rel=>exact⟨k+1,ω,ν,K,j⟩
   case measure=>simp[intOf];omega
  ·obtain rfl:k=n:=ω
   clear d6 hk;obtain⟨S0,R0,q0,b7,b3,_⟩:=hP.out;have u:=x1.out.trans H.out;have d9:=ah (Yx b7 (hE.out.ext u));have e6:=ah (show Dn wr d k (λS=>false=true->S.closed=true) from⟨S0,R0,q0,b7,b3,λe=>by cases e⟩);have e5:=ah (λ(W:aj) (h:pK R0 W d { S0 with closed:=true } q0)=>show Dn W d k (λS=>true=true->S.closed=true) from⟨_,R0,q0,h,b3.shut true,λ_=>rfl⟩);clear hP b7 b3 u
   go_upto_if 56 with fail
   go_cut [12] (λs wx=>s= .int .i64 (k:Int)/\Hid (Dn wx d k (λS=>shut=true->S.closed=true))/\Hid (Ext w1 wx))
   case first=>
        cases shut with
        |false=>
         go_wp2_with fail
         go_meet;exact⟨rfl,e6,H⟩
        |true=>
         go_wp2_with fail
         refine d9.out.mono ?_;rintro e W ⟨v,rfl,_,h2,h3⟩;have K:=ah (e5.out W h2);have j:=ah (RX.down H.out b4.out h3);clear h2 h3
         go_wp2_with fail
         go_meet;exact⟨rfl,K,j⟩
   case rest=>
        obtain⟨rfl,K,j⟩:=hcut;clear d9 e6 e5 H;obtain⟨S,R,q,Z,hi,J⟩:=K.out;obtain⟨g1,g2,g3,g4,g5,g6⟩:=hi.few ω;have h1:=ah (Es Z ω);have h2:=ah (λ(W:aj) (e:Ext wc W)=>yE (Z.ext e) ω);have h3:=ah (λ(W:aj) (e:Ext wc W)=>Bc (Z.ext e));have h4:=ah (λ(W:aj) (e:Ext wc W)=>LD (Z.ext e));have h5:=ah (λ(W:aj) (e:Ext wc W)=>abG (Z.ext e) (hE.out.ext ((x1.out.trans j.out).trans e)) (hT.out.ext ((x1.out.trans j.out).trans e)) hi.ok g1 g2 g3 (g6 ω) g5 x b8 (hx.at_.ext ((x1.out.trans j.out).trans e)));have Lj:=hi.ver;have a7:=Pg S x;have b6:=ad7 S x;have a9:=ah (λh:deC S x≠0=>ad5 h);have X:=ah (λh:S.closed=true=>ad4 h x);have d7:=ah ((hi.step b8 (hx.at_.ext (Ext.refl w))).few ω);replace hi:=ah hi;replace J:=ah J;have f5:=ah Z.ou.low;clear Z K g1 g2 g3 g4 g5 g6
        go_wp2_with fail
        refine h1.out.mono ?_;rintro e wt ⟨rfl,xt⟩;obtain⟨tx,a1⟩:∃t,textE S.E=t:=⟨_,rfl⟩;rw[a1];replace a1:=ah a1
        go_wp2_with fail
        refine(h2.out wt xt).mono ?_;rintro e wv ⟨A1,n1,c1,rfl,b2,I,xv,_,d8⟩;have e9:=ah (show∀a,A1=some a->a.block≠d from λa ha=>by have:=d8 a ha;have:=xt.size;have:=f5.out;omega);replace xv:=xt.trans xv;replace b2:=ah b2;replace I:=ah I;clear h1 xt d8
        go_wp2_with fail
        refine(h3.out wv xv).mono ?_;rintro e wn ⟨rfl,xn⟩;have e8:=ah (I.out.ext xn);replace xn:=xv.trans xn
        go_wp2_with fail
        refine(h4.out wn xn).mono ?_;rintro e O ⟨rfl,xa⟩;have U:=ah (e8.out.ext xa);replace xa:=xn.trans xa;have N:=a3.out O (j.out.trans xa);have c0:O.cell? ⟨f,0,none⟩=some (Vi x.what):=ak O f 0 _ _ _ N;have f9:O.cell? ⟨f,1,none⟩=some (Vi x.p):=ak O f 1 _ _ _ N;have c2:O.cell? ⟨f,2,none⟩=some (Vi x.k):=ak O f 2 _ _ _ N;have c3:O.cell? ⟨f,3,none⟩=some (Vs x.t):=ak O f 3 _ _ _ N;have c4:O.cell? ⟨f,4,none⟩=some (.slice x.A x.m x.cap):=ak O f 4 _ _ _ N;have h6:=ah (h5.out O xa);have d1:=ah (j.out.trans xa);clear N h5 h2 h3 h4 xv xn xa I e8 j
        go_wp2_with fail
        refine h6.out.mono ?_;rintro e wz ⟨rfl,⟨R',q',z,_⟩,rx⟩;clear h6 c0 f9 c2 c3 c4;have a8:=ah (Row.rx U.out rx e9.out);have b9:=ah (RX.down d1.out b4.out rx);clear U rx d1 e9;by_cases hc:deC S x=0
        ·rw[hc,if_pos rfl,show nmF (deN x) 0=⟨#[]⟩ from rfl]
         have f2:shut=false:=by
          cases shut with
          |false=>rfl
          |true=>have:=X.out (J.out rfl);omega
         subst f2;have h7:=ah (Bc z);obtain⟨v1,I⟩:∃v,S.ver=v:=⟨_,rfl⟩;obtain⟨v2,U⟩:∃v,(deS S x).ver=v:=⟨_,rfl⟩;rw[I] at Lj a7⊢;rw[U] at a7 h7⊢;have e1:decide ((v1:Int)<=(v2:Int))=true:=decide_eq_true ω;have e2:IntKind.i64.wrap ((v1:Int)+1)=(v1:Int)+1:=IntWalk.i64_in _ ω;have e3:decide ((v2:Int)<=(v1:Int)+1)=true:=decide_eq_true ω;clear hc z a9 X J hi d7 b6 I U a8
         go_wp2_with fail
         refine h7.out.mono ?_;rintro e wy ⟨rfl,xy⟩
         go_wp2_with fail
         go_ret;exact⟨rfl,(x1.out.trans b9.out).trans xy⟩
        ·have hS:=a9.out hc
         rw[hS] at z;obtain⟨g1,g2,g3,g4,g5,_⟩:=hi.out.few ω;have hN:=ah (show nmF (deN x) (deC S x)=deN x from if_neg hc);rw[if_neg hc,hN.out];obtain⟨c,e4⟩:∃c,deC S x=c:=⟨_,rfl⟩;rw[e4] at b6 hc X⊢;have e0:(c==0)=false:=by simpa using hc
         have e1:decide (1<=c)=true:=decide_eq_true ω;have e2:decide (c<=6)=true:=decide_eq_true ω;have e3:shut=true->c=6:=λh=>X.out (J.out h)
         have f4:=ad6 x;generalize deN x=nm at*;have k1:=ah (yE z ω);have k2:=ah (λ(W:aj) (e:Ext wz W)=>Es (z.ext e) ω);have k3:=ah (λ(W:aj) (e:Ext wz W)=>Bc (z.ext e));have k4:=ah (λ(W:aj) (e:Ext wz W)=>LD (z.ext e));have f8:=ah g3;clear z a9 X J hi d7 a7 Lj g1 g2 g3 g4 g5 hS e4 hN b6
         go_wp2_with fail
         refine k1.out.mono ?_;rintro e wy ⟨A2,n2,c2,rfl,b1,d2,xy,_,_⟩;obtain rfl:n1=n2:=by rw[<-b2.out,b1]
         have k5:=ah (ZH A2 A1 n1 c2 c1 S.V wy d2 (Vec.ext a8.out xy) b1 (by have:=f8.out;omega));clear k1 b1 d2 a8
         go_wp2_with fail
         refine k5.out.mono ?_;rintro e wx ⟨rfl,xx⟩;replace xx:=xy.trans xx;clear k5 xy;have k2:Hid (∀(W:aj),Ext wz W->aX Tryz.prog 19 #[.pointer (some ⟨d,0,none⟩)] W λe W'=>e= .returned (.string tx)/\Ext W W'):=by rw[<-a1.out];exact k2
         have h6:shut=false\/shut=true/\c=6:=by
          cases shut with
          |false=>exact .inl rfl
          |true=>exact .inr ⟨rfl,e3 rfl⟩
         clear e3;rcases h6 with rfl|⟨rfl,rfl⟩ <;> rcases f4 with rfl|rfl|rfl
         all_goals
          go_wp2_with fail
          refine(k2.out _ xx).mono ?_;rintro e wq ⟨rfl,xq⟩;replace xq:=xx.trans xq
          go_wp2_with fail
          refine(k3.out _ xq).mono ?_;rintro e wr ⟨rfl,xr⟩;replace xr:=xq.trans xr
          go_wp2_with fail
          refine(k4.out _ xr).mono ?_;rintro e ws ⟨rfl,xs⟩
          go_wp2_with fail
          go_ret;exact⟨rfl,(x1.out.trans b9.out).trans (xr.trans xs)⟩
end
end Go.Proofs.YtejbpijamdlgcaaGreatDoor

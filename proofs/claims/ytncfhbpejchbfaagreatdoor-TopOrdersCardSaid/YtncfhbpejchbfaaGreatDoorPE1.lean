/-
  Lemmas of this seat; no claim.
-/
import Derived.Test.YtncfhbpejchbfaaGreatDoorCards
import Derived.Test.YtncfhbpejchbfaaGreatDoorTie
import Derived.Lib.LaidU8T
import Derived.Deep.DeepHandedRow
import Derived.Test.YtncfhbpejchbfaaGreatDoorPD2
set_option linter.unusedVariables false
set_option linter.unusedSimpArgs false
set_option maxRecDepth 100000
open Go renaming World→ae
open Go.Lib.laidMet renaming reads→iQ
open Go.World renaming cell?_alloc_some→ah
open Go.World.grownBy renaming size→cN
open List renaming mem_singleton→aN,range→fQ
open Nat renaming le_refl→am,le_trans→az
open Option.some renaming injEq→aL,inj→cO
open Go.Proofs.Tryz
open Go.Proofs.Tryz renaming prog→pg
namespace Go.Proofs.YtncfhbpejchbfaaGreatDoor
section
open Go.ChangeShapes Go.WideShapes Go.ChangeAt Go.RowKit Go.Sort
def wh:List (String×DataW Unit):=[("unicode/utf8.acceptRanges",Rows.laid_unicode_utf8_acceptRanges),("unicode/utf8.first",Rows.laid_unicode_utf8_first)]
def afo:Go.Shelf.Ren:=⟨λn=>n,λ|119=>175|138=>177|139=>178|5=>5|n=>n,λ|3=>1|4=>2|n=>n⟩
theorem adv:U8Types pg afo:=⟨underlying5,underlying175,underlying177,underlying178⟩
theorem aeF:U8Extra pg afo:=⟨κ,κ,κ,κ,κ,κ,κ⟩
theorem aeC:Rows.laid_unicode_utf8_first=Lib.firstData:=κ
theorem acK:Rows.laid_unicode_utf8_acceptRanges=Lib.acceptData:=κ
theorem aaZ {W:ae} (h:laidMet pg wh W):Tabs W:=
 utf8Tabs_of_readsT adv aeF (aeC▸iQ h (.tail _ (.head _))) (acK▸iQ h (.head _))
def Y2:List (String×DataW Unit):=[("unicode/utf8.acceptRanges",Rows.laid_unicode_utf8_acceptRanges),("errors.errorType",Rows.laid_errors_errorType),("unicode/utf8.first",Rows.laid_unicode_utf8_first)]
theorem Z8:pg.globalNamed "errors.errorType" =some 0:=κ
theorem ace:(pg.cutTypes.find? (·.1== "internal/reflectlite.rtype")).map (·.2)=some 190:=κ
theorem agk:((fQ pg.types.size).filter λt=>pg.rowNamed t [101,114,114,111,114])=[27]:=κ
theorem Z7:typeHandle pg 27= .pointer (some ⟨3,27,none⟩):=κ
theorem ab6 {W:ae} (h:laidMetH pg Y2 W):Tabs W/\wJ W:=by
 have e:laidMet pg wh W/\handlesMet pg [("errors.errorType",Rows.laid_errors_errorType)] W:=h
 refine⟨aaZ e.1,?_⟩;obtain⟨a,u,i,H,z,q,j,f⟩:=e.2 _ (aN.2 rfl);have en:a=[101,114,114,111,114]:=(cO H).symm;subst en;obtain rfl:=cO (ace.symm.trans z);have hm:i∈(fQ pg.types.size).filter λt=>pg.rowNamed t [101,114,114,111,114]:=List.mem_filter.2 ⟨List.mem_range.2 q,j⟩
 rw[agk] at hm;obtain rfl:=aN.1 hm;rw[Z7] at f;unfold wJ;simpa using World.var?_cell Z8 f 0
noncomputable def ac3 (os:Os):ae:=
 let w0:=World.holding pg os ⟨#[],#[],[]⟩
 { w0 with heap:=w0.heap.modify 0 λ
   | .cells _ t frozen=> .cells #[.iface 190 (.agg #[.pointer (some ⟨3,27,none⟩)])] t frozen
   |o=>o }
noncomputable def tC (os:Os):ae:=(ac3 os).layVars pg wh
theorem IX (os:Os):(tC os).os=os:=(World.layVars_os _ _ _).trans rfl
theorem VI (os:Os) (args:Array Value):laidMetH pg Y2 ((tC os).forCall (λ_ _=>0) ⟨#[],args,[]⟩).memory:=by
 refine laidMetH_of_parts (show laidMet pg wh _ from ?_) κ;have h:laidMet pg wh (tC os):=laidMet_layVars (w0:=ac3 os) (wh.map (·.1)) [] rfl κ κ LaidIn.none;exact h.of_heap (by simp[World.memory,World.forCall,Input.heap])
end
section
open Go.ChangeShapes Go.WideShapes Go.ChangeAt Go.RowKit Go.Sort
attribute [local go_sem] ah
structure Dq where
 what:Int
 p:Int
 k:Int
 t:List UInt8
 A:Option Addr
 m:Nat
 cap:Nat
 b:List UInt8
def kD (x:Dq):Nat:=pkN x.what 4
def deS (S:DS) (x:Dq):DS:=if kD x=2 then agp S x.p x.k else if kD x=3 then mG S x.b else yD S x.p x.t
theorem CX {l:List UInt8} {rs:List Rn} {ds:List Sp} {e:Nat} (h:parse l=some (rs,ds,e)):ds.length*3<=l.length:=by
 obtain⟨f,_,_,_,a⟩:=Ae h;omega
theorem zR {l:List UInt8} {rs:List Rn} {ds:List Sp} (h:kT l=some (rs,ds)):ds.length*3<=l.length:=by
 unfold kT at h
 split at h
 ·cases h
 ·split at h
  ·cases h
  ·rename_i a
   split at h
   ·simp only[aL,Prod.mk.injEq] at h
    obtain⟨rfl,rfl⟩:=h;exact CX a
   ·cases h
end
section
open Go.ChangeShapes Go.WideShapes Go.ChangeAt Go.RowKit Go.Sort
instance:Inhabited Dq:=⟨⟨0,0,0,[],none,0,0,[]⟩⟩
end
section
open Go.Lib
theorem CO.mono {S:DS} {n m a e:Nat} (h:CO S n m) (i:n<=a) (f:m<=e):CO S a e:=⟨az h.lw i,h.v,az h.d f⟩
theorem RP (S:DS) (x:Dq):S.ver<=(deS S x).ver/\(deS S x).ver<=S.ver+1:=by
 unfold deS
 split
 ·unfold agp
  split <;> simp
 ·split
  ·unfold mG
   split
   ·split
    ·simp
    ·simp only
     split <;> simp
   ·simp
  ·unfold yD
   split <;> simp
structure uz (S:DS) (k:Nat):Prop where
 ok:DOK S
 len:CO S (600*k) (300*(k*(k+1)))
 ver:S.ver<=k
theorem uz.new {c l:Int} (h:DOK (newS c l)):uz (newS c l) 0:=⟨h,⟨am _,am _,am _⟩,am _⟩
theorem uz.few {S:DS} {k:Nat} (h:uz S k) (a:k<=21):S.L.length<=100000/\S.Wt.length<=20000/\S.V.length<=100000/\S.D.length<=139000/\S.ver<=1000000000/\(k<=20->S.D.length<=130000):=by
 have u:=h.len.lw;have q:=h.len.v;have j:=h.len.d;have i:=h.ver;have f:k*(k+1)<=21*22:=Nat.mul_le_mul a ω;refine⟨ω,ω,ω,ω,ω,λa=>?_⟩;have e:k*(k+1)<=20*21:=Nat.mul_le_mul a ω;omega
end
section
open Go.ChangeShapes Go.WideShapes Go.ChangeAt Go.RowKit Go.Sort
variable {B d e k:Nat} {R:Nat->Prop} {S:DS} {W w:ae} {q:DM}
theorem kV.off {W':ae} (h:kV R W d S q) (f:RX e W W') (hR:∀b,R b->b≠e) (j:d≠e):kV R W' d S q:=
 ⟨⟨h.jF.rd,h.jF.ls.rx f λb u=>hR b (h.jF.rF b u).1,h.jF.rF,h.jF.mks,Row.rxe h.jF.vec f λg a i=>hR _ (h.jF.rA g a i).1,h.jF.rA,h.jF.nA,Row.rxe h.jF.its f λg a i=>hR _ (h.jF.rB g a i).1,h.jF.rB,h.jF.nB,Row.rxe h.jF.sps f λg a i=>hR _ (h.jF.rC g a i).1,h.jF.rC,h.jF.nC,Nat.lt_of_lt_of_le h.jF.low (cN f)⟩,f.blk h.box j⟩
theorem yX.wide {R':Nat->Prop} (h:yX R W d S q) (hR:∀b,R b->R' b):yX R' W d S q:=
 ⟨hR _ h.rd,h.ls,λb i=>⟨hR _ (h.rF b i).1,(h.rF b i).2⟩,h.mks,h.vec,λg a f=>⟨hR _ (h.rA g a f).1,(h.rA g a f).2⟩,h.nA,h.its,λg a f=>⟨hR _ (h.rB g a f).1,(h.rB g a f).2⟩,h.nB,h.sps,λg a f=>⟨hR _ (h.rC g a f).1,(h.rC g a f).2⟩,h.nC,h.low⟩
theorem kV.wide {R R':Nat->Prop} {W:ae} {d:Nat} {S:DS} {q:DM} (h:kV R W d S q) (hR:∀b,R b->R' b):kV R' W d S q:=⟨h.jF.wide hR,h.box⟩
def uD (B e:Nat) (W:ae) (d:Nat) (S:DS):Prop:=∃q,kV (λb=>B<=b/\b≠e) W d S q
theorem uD.ext {B e:Nat} {W W':ae} {d:Nat} {S:DS} (h:uD B e W d S) (a:Ext W W'):uD B e W' d S:=by
 obtain⟨q,h⟩:=h;exact⟨q,h.ext a⟩
theorem uD.off {B e:Nat} {W W':ae} {d:Nat} {S:DS} (h:uD B e W d S) (a:RX e W W'):uD B e W' d S:=by
 obtain⟨q,h⟩:=h;exact⟨q,h.off a (λb f=>f.2) h.jF.rd.2⟩
theorem uD.next {W':ae} {R':Nat->Prop} (h:kV R' W' d S q) (i:B<=W.heap.size) (f:e<W.heap.size) (hR:∀b,R' b->(B<=b/\b≠e)\/W.heap.size<=b):uD B e W' d S:=
 ⟨q,h.wide λb a=>(hR b a).elim id λh=>⟨ω,ω⟩⟩
theorem Fe {c l:Int} (h:W.heap[d]? =some (.cells (WI (newS c l) ⟨zLv,none,0,none,0,none,0,λ_=>False,[]⟩) 69 (0,0))) (i:w.heap.size<=d) (hR:R d):kV R W d (newS c l) ⟨zLv,none,0,none,0,none,0,λ_=>False,[]⟩:=
 have k:=(abr h i).jF
 ⟨⟨hR,k.ls,(λb j=>j.elim),k.mks,k.vec,(λ_ a f=>by cases f),k.nA,k.its,(λ_ a f=>by cases f),k.nB,k.sps,(λ_ a f=>by cases f),k.nC,k.low⟩,h⟩
def Sr (B e:Nat) (w:ae) (d:Nat) (S:DS) (z:Ending) (w':ae):Prop:=∃v,z= .returned v/\uD B e w' d S/\RX d w w'
theorem FC.two {s:ByteArray} {c:Int} {z:Ending} {w':ae} (h:FC w d (λb=>B<=b/\b≠e) s c S z w') (f:B<=w.heap.size) (a:e<w.heap.size):Sr B e w d S z w':=by
 obtain⟨R',q,v,rfl,_,u,j,i⟩:=h;exact⟨_,rfl,uD.next u f a i,j⟩
theorem afy (h:uD B e w d S) (u:B<=w.heap.size) (f:e<w.heap.size) (j:wJ w) (i:Tabs w) (hi:uz S k) (a:k<=20) (p:Int) (J:0<=p/\p<=1000) (t:List UInt8) (I:t.length<=60):
  Calls pg 14 #[.pointer (some ⟨d,0,none⟩),Vi p,Vs t] w (Sr B e w d (yD S p t)):=by
 obtain⟨q,h⟩:=h;obtain⟨N,M,K,_,H,z⟩:=hi.few ω;have:=z a;exact(OI h j p ⟨t.toArray⟩ (Q7 h hi.ok i ω ω ω H p ω t ω)).mono λ_ _ hh=>hh.two u f
theorem agK (h:uD B e w d S) (K:B<=w.heap.size) (u:e<w.heap.size) (J:wJ w) (I:Tabs w) (hi:uz S k) (i:k<=20) (A:Option Addr) (n c:Nat) (b:List UInt8) (H:Bys w A b) (hn:b.length=n) (z:n<=c) (a:n<=20000):
  Calls pg 8 #[.pointer (some ⟨d,0,none⟩),.slice A n c] w (Sr B e w d (mG S b)):=by
 obtain⟨q,h⟩:=h;obtain⟨U,Q,O,_,N,M⟩:=hi.few ω;exact(IB h J A n c (Kw h hi.ok I A n c b H hn z a (λrs ds e f _=>by have:=CX f;omega) (λrs ds j=>by have:=zR j;omega) U Q O (M i) N)).mono λ_ _ hh=>hh.two K u
theorem uz.nx {a:DS} (h:uz S k) (i:DOK a) (f:CO a (600*k+600) (300*(k*(k+1))+600*k+600)) (hv:a.ver<=S.ver+1):uz a (k+1):=
 ⟨i,f.mono ω (by rw[show(k+1)*(k+1+1)=k*(k+1)+2*(k+1) by rw[Nat.add_mul k 1,Nat.mul_add k (k+1) 1];omega];omega),by have:=h.ver;omega⟩
theorem uz.app (h:uz S k) (b:List UInt8) (f:b.length<=600):uz (mG S b) (k+1):=
 h.nx (aaC h.ok b) (acE h.ok h.len b f λrs ds a=>by have:=zR a;omega) (RP S ⟨3,0,0,[],none,0,0,b⟩).2
theorem uz.ins (h:uz S k) (p:Int) (t:List UInt8) (a:t.length<=60):uz (yD S p t) (k+1):=
 h.nx (ad3 h.ok p t) ((abF h.len p t a).mono (am _) ω) (RP S ⟨0,p,0,t,none,0,0,[]⟩).2
end
end Go.Proofs.YtncfhbpejchbfaaGreatDoor

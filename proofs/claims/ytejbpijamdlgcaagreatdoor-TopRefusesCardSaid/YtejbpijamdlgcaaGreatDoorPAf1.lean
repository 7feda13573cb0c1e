/-
  Lemmas of this seat; no claim.
-/
import Derived.Test.YtejbpijamdlgcaaGreatDoorCloP
import Derived.Test.YtejbpijamdlgcaaGreatDoorRows
import Derived.Lib.SmallJoins
import Derived.Lib.Hide
import Derived.Lib.QuietBelow
import Derived.BigQuiet
import Derived.Deep.RegionHeld
import Derived.Deep.AppendLies
import Derived.Lib.BufferRead
import Derived.Lib.EndianBits
import Derived.Lib.ValidAsc
import Derived.Deep.LoopGhost
import Derived.Test.YtejbpijamdlgcaaGreatDoorWMathP
set_option linter.unusedVariables false
set_option linter.unusedSimpArgs false
set_option maxRecDepth 100000
set_option maxHeartbeats 8000000
open Go renaming Calls→aX,Program→fZ,TypeId→ji,TypeInfo→mY,Value→aI,World→aj,bodyPost_ret→aN,bytes→mD,info_parts→gJ,redrawn→iY,run_underlying→bR,typeInfo→lY,wpList→lK
open Go.Builtin renaming append_→fG,firstCells→jB,lenOf→lJ
open Go.Ending renaming returned→dz
open Go.Instr renaming makeSlice→mZ,sliceBounds→jA,slice→fE
open Go.RowKit.Below renaming block→aJ,cell→jG,frozen→l6,os→iy,output→gG,size→mH,tape→gN
open Go.World renaming block_lt_of_cell?→eO
open Go.World.ownsRow renaming lt→dM
open List renaming getElem?_eq_none→eF,length_append→ay,length_map→gI,length_take→bN,map_append→iw
open Nat renaming eq_zero_or_pos→gD,le_refl→aD,le_trans→aM,lt_of_lt_of_le→bD,lt_or_ge→dD,succ_mul→iU
namespace Go.Proofs.YtejbpijamdlgcaaGreatDoor
open Go.ChangeShapes Go.WideShapes Go.ChangeAt Go.RowKit Go.Sort
section
def Ext (w w':aj):Prop:=Below w.heap.size w w'
theorem Ext.refl (w:aj):Ext w w:=Below.refl _ _
theorem Ext.size {a b:aj} (h:Ext a b):a.heap.size<=b.heap.size:=mH h
theorem Ext.trans {a b c:aj} (h:Ext a b) (k:Ext b c):Ext a c:=Below.trans h (Below.mono k h.size)
theorem Ext.alloc {a w:aj} (h:Ext a w) (o:Obj):Ext a (w.alloc o):=Below.alloc h h.size o
theorem Ext.drew {a w:aj} (h:Ext a w):Ext a w.drew:=Below.drew h
theorem Ext.drewN {a w:aj} (h:Ext a w) (n:Nat):Ext a (w.drewN n):=⟨iy (w':=w) h,gN (w':=w) h,gG (w':=w) h,mH (w':=w) h,aJ (w':=w) h⟩
theorem Ext.setCell {a w:aj} (h:Ext a w) {p:Addr} (e:a.heap.size<=p.block) (u:aI):Ext a (w.setCell p u):=Below.setCell h e u
variable {P:fZ} {W w1:aj} {a:Int} {args:Array aI} {v:aI}
theorem Ext.cells (e:Ext W w1):(∀b o,b<W.heap.size->w1.cell? ⟨b,o,none⟩=W.cell? ⟨b,o,none⟩)/\(∀b o,b<W.heap.size->w1.frozen? ⟨b,o,none⟩=W.frozen? ⟨b,o,none⟩):=
 ⟨λb o h=>jG (p:=⟨b,o,none⟩) e h,λb o h=>l6 (p:=⟨b,o,none⟩) e h⟩
theorem Ext.keep (h:Ext W w1) {p:Addr} (e:W.cell? p=some v):w1.cell? p=some v:=by
 rw[jG h (eO W p e)];exact e
theorem Ext.thaw (h:Ext W w1) {p:Addr} (f:W.cell? p=some v) (e:W.frozen? p=false):w1.frozen? p=false:=by
 rw[l6 h (eO W p f)];exact e
theorem Ext.lt (h:Ext W w1) {n:Nat} (e:n<W.heap.size):n<w1.heap.size:=bD e h.size
theorem Calls.oh {f:FuncId} {w:aj} {d:Nat} {os:Array Obj} 
  (h:aX P f args (grow (iY w d) os) λe w'=>e= .returned v/\Ext (grow (iY w d) os) w'):aX P f args (grow (iY w d) os) λe i=>e= .returned v/\∃p:Regrown,i=grow (iY w p.d) p.os:=Calls.regrown_of h
theorem Calls.wZ {f:FuncId} {w:aj} {d:Nat} {os:Array Obj} 
  (h:aX P f args (grow (iY w d) os) λe w'=>e= .returned v/\grow (iY w d) os=w'):aX P f args (grow (iY w d) os) λe i=>e= .returned v/\∃p:Regrown,i=grow (iY w p.d) p.os:=
 Calls.oh (h.mono λe w' hh=>⟨hh.1,by rw[<-hh.2];exact Ext.refl _⟩)
theorem Ext.nX (w:aj) (d:Nat) (os:Array Obj):Ext w (grow (iY w d) os):=below_regrown w d os
abbrev Vu (n:Int):aI:= .int .u32 n
abbrev Vi (n:Int):aI:= .int .i64 n
abbrev idv (a b:Int):aI:= .agg #[.int .u32 a,.int .u32 b]
theorem qW {b:Int} (h:a=b):dz (.int .i64 a)= .returned (.int .i64 b):=by rw[h]
theorem CV {b:Int} (h:a=b):dz (.int .u32 a)= .returned (.int .u32 b):=by rw[h]
theorem pR {a b:Bool} (h:a=b):dz (.bool a)= .returned (.bool b):=by rw[h]
theorem Jj {f:Int} {b e:Bool} (h:a=f) (g:b=e):dz (.tuple #[.int .i64 a,.bool b])= .returned (.tuple #[.int .i64 f,.bool e]):=by rw[h,g]
theorem ZN {H:Type} {enc:ji×aI->H} (M:laidOutB P=true) {W':aj} (K:Ext W W'):∀(ts:List ji) (e:List aI) (ds:List (DataW H)) (i:List MemPlace),
  (∀t∈ts,P.readableRec t=true/\t<P.types.size)->DataW.TrodAll enc P W 0 (λ_=>true) true ts e ds i->(∀x∈i,x.block<W.heap.size)->DataW.TrodAll enc P W' 0 (λb=>decide (b<W.heap.size)) true ts e ds i:=by
 intro ts
 induction ts with
 |nil=>intro e ds i _ h _;cases e <;> cases ds <;> first|exact h|exact h.elim
 |cons t ts ih=>
  intro e ds i z h I;cases e with
  |nil=>exact h.elim
  |cons v e=>
   cases ds with
   |nil=>exact h.elim
   |cons d ds=>
    obtain⟨p,q,O,N,rfl⟩:=h;have u:=z t (List.mem_cons_self ..);exact⟨p,q,RowKit.Below.trod M u.1 u.2 O K (λx f=>I x (List.mem_append_left _ f)),ih e ds q (λJ j=>z J (List.mem_cons_of_mem _ j)) N (λx f=>I x (List.mem_append_right _ f)),rfl⟩
theorem aat {H:Type} {enc:ji×aI->H} {f:Func} {s:ChangeSpec} {W':aj} {ds j:List (DataW H)} {e:List MemPlace} {tb:ji}
  (N:DataW.Whole enc P f.params.toList s.vars false W args.toList ds j e) (Y:laidOutB P=true) (J:∀t∈f.params.toList,P.readableRec t=true/\t<P.types.size)
  (i:s.vars=[]) (U:(s.fn H (ds++j)).results=[.lit (.bool true)]) (ha:(s.fn H (ds++j)).args=ds) (hv:(s.fn H (ds++j)).vars=[]) (Q:Ext W W')
  (u:f.resultTypes= #[tb]) (Z:P.underlying tb=some .bool):s.post enc P f false true false false W args (.bool true) W':=by
 have K:∀p∈e,p.block<W.heap.size:=λp I=>N.lt p I
 have M:=N;obtain⟨p,q,hA,O,z,_,_⟩:=N;have X:q=[]:=by
  rw[i] at O;cases j with
  |nil=>exact O
  |cons g j=>exact O.elim
 subst X;rw[List.append_nil] at z;subst z;refine⟨ds,j,e,[],e,[],M,?_,?_,?_,?_,λh=>by cases h⟩
 ·rw[U,u];exact trodAll_mk1 (shut_bool Z true)
 ·rw[ha];exact ZN Y Q _ _ _ _ J hA K
 ·rw[hv,i];rfl
 ·exact World.keptBut_mono (λp I=>⟨I,.inr (.inl I)⟩) (RowKit.Below.frame Q (· ∈e))
theorem own:ownKnob Tryz.prog.godebug=Option.none:=κ
theorem laid:laidOutB Tryz.prog=true:=κ
theorem bounds_u32 (h:(Lit.int .u32 a).wf=true):0<=a/\a<=4294967295:=by
 simpa[Lit.wf,IntKind.min,IntKind.max,IntKind.signed,IntKind.bits] using h
theorem bounds_i64 (h:(Lit.int .i64 a).wf=true): -9223372036854775808<=a/\a<=9223372036854775807:=by
 simpa[Lit.wf,IntKind.min,IntKind.max,IntKind.signed,IntKind.bits] using h
end
section
theorem wU (b o n:Nat):(⟨b,o,none⟩:Addr).add n=⟨b,o+n,none⟩:=by unfold Addr.add;split <;> simp_all
def Row (w:aj) (A:Option Addr) (xs:List aI):Prop:=
 0<xs.length->∃b o,A=some ⟨b,o,none⟩/\∀(j:Nat) (u:aI),xs[j]? =some u->w.cell? ⟨b,o+j,none⟩=some u
theorem Row.nil (w:aj) (A:Option Addr):Row w A []:=λh=>absurd h ι
theorem Row.ext {w w':aj} {A:Option Addr} {xs:List aI} (h:Row w A xs) (a:Ext w w'):Row w' A xs:=λq=>by
 obtain⟨b,o,e,i⟩:=h q;exact⟨b,o,e,λj u f=>a.keep (i j u f)⟩
theorem Row.take {w:aj} {A:Option Addr} {xs:List aI} (h:Row w A xs) (k:Nat):Row w A (xs.take k):=λi=>by
 obtain⟨b,o,e,f⟩:=h (by simp at i;omega);refine⟨b,o,e,λj u a=>f j u ?_⟩;rw[List.getElem?_take] at a
 split at a
 ·exact a
 ·cases a
theorem Row.drop {w:aj} {b o:Nat} {xs:List aI} (h:Row w (some ⟨b,o,none⟩) xs) (k:Nat):Row w (some ⟨b,o+k,none⟩) (xs.drop k):=λi=>by
 obtain⟨z,q,e,f⟩:=h (by simp at i;omega);injection e with e;injection e with e1 e2 e3;subst e1;subst e2;refine⟨_,_,rfl,λj u a=>?_⟩;rw[List.getElem?_drop] at a;rw[Nat.add_assoc];exact f _ u a
theorem Row.own {w:aj} {base:Nat} {e:ji} {size:Nat} {A:Option Addr} {n c:Nat} {xs:List aI} (h:w.ownsRow base e size (.slice A n c) n xs):Row w A xs:=λH=>by
 have i:0<n:=by
  rcases gD n with a|a
  ·subst a;have:=h.1;omega
  ·exact a
 obtain⟨g,cap,hv,_,q⟩:=h.form i;have z:A=some ⟨g,0,none⟩:=by injection hv
 subst z;refine⟨g,0,rfl,λj u f=>?_⟩;rw[<-wU];exact h.cells (g:=g) rfl j u f
def flat {a:Type} (enc:a->List aI) (l:List a):List aI:=l.flatMap enc
theorem tJ {e:Type} (enc:e->List aI) (a:e) (l:List e):flat enc (a::l)=enc a++flat enc l:=by simp[flat]
theorem qp {a:Type} (enc:a->List aI) (l m:List a):flat enc (l++m)=flat enc l++flat enc m:=by simp[flat]
theorem Kw {e:Type} (enc:e->List aI) (a:e):flat enc [a]=enc a:=by simp[flat]
section
variable {α:Type} {enc:α->List aI} {s:Nat}
theorem oV (e:∀a,(enc a).length=s):∀l:List α,(flat enc l).length=l.length*s
 |[]=>by simp[flat]
 |a::l=>by rw[tJ,ay,e,oV e l,List.length_cons,iU,Nat.add_comm]
theorem E5 (f:∀a,(enc a).length=s):∀{l:List α} {k:Nat} {a:α} {j:Nat},l[k]? =some a->j<s->(flat enc l)[k*s+j]? =(enc a)[j]?
 |[],k,a,j,h,_=>by simp at h
 |x::l,0,a,j,h,hj=>by
  have e:x=a:=by simpa using h
  subst e;rw[tJ,Nat.zero_mul,Nat.zero_add,List.getElem?_append_left (by rw[f];exact hj)]
 |x::l,k+1,a,j,h,hj=>by
  rw[tJ,List.getElem?_append_right (by rw[f,iU];omega),f,show(k+1)*s+j-s=k*s+j by rw[iU];omega];exact E5 f (by simpa using h) hj
theorem Dh (e:∀a,(enc a).length=s):∀(l:List α) (k:Nat),flat enc (l.take k)=(flat enc l).take (k*s)
 |[],k=>by simp[flat]
 |x::l,0=>by simp[flat]
 |x::l,k+1=>by
  rw[List.take_succ_cons,tJ,tJ,Dh e l k,List.take_append,e,show(k+1)*s-s=k*s by rw[iU];omega,List.take_of_length_le (l:=enc x) (by rw[e,iU];omega)]
theorem zN (e:∀a,(enc a).length=s):∀(l:List α) (k:Nat),flat enc (l.drop k)=(flat enc l).drop (k*s)
 |[],k=>by simp[flat]
 |x::l,0=>by simp[flat]
 |x::l,k+1=>by
  rw[List.drop_succ_cons,tJ,zN e l k,List.drop_append,e,show(k+1)*s-s=k*s by rw[iU];omega,show(enc x).drop ((k+1)*s)=[] from List.drop_eq_nil_of_le (by rw[e,iU];omega),List.nil_append]
theorem qy (f:∀a,∀u∈enc a,u.oneCell'=true) (l:List α):∀u∈flat enc l,u.oneCell'=true:=λu e=>by
 obtain⟨a,_,h⟩:=List.mem_flatMap.1 e;exact f a u h
theorem Row.at {w:aj} {A:Option Addr} {l:List α} (h:Row w A (flat enc l)) (i:∀a,(enc a).length=s) {k:Nat} {a:α} (q:l[k]? =some a) (J:0<s):
  ∃b o,A=some ⟨b,o,none⟩/\∀j u,(enc a)[j]? =some u->w.cell? ⟨b,o+(k*s+j),none⟩=some u:=by
 have z:k<l.length:=by
  rcases dD k l.length with g|g
  ·exact g
  ·rw[eF g] at q;cases q
 obtain⟨b,o,e,I⟩:=h (by rw[oV i];exact Nat.mul_pos ω J);refine⟨b,o,e,λj u f=>I _ u ?_⟩;have H:j<s:=by
  rcases dD j s with g|g
  ·exact g
  ·rw[eF (by rw[i];exact g)] at f;cases f
 rw[E5 i q H];exact f
end
theorem Ext.grown {a w w':aj} {v:aI} (h:Ext a w) (e:w.grownBy w' v.ownBlock) (hv:∀k,v.ownBlock=some k->a.heap.size<=k):Ext a w':=RowKit.Below.grown h e h.size hv
theorem Jf {P:fZ} (w:aj) (base:Nat) (t W e:ji) (i:mY) (z:aI) (size mD:Nat) (N:P.underlying t=some (.slice e)) (hi:P.info? e=some i) (hz:i.zero=some z)
  (H:i.size=size) (Q:i.bytes=mD) (M:z.cells.size=size) (O:0<size)
  (v:aI) (n:Nat) (xs:List aI) (f:w.ownsRow base e size v n xs)
  (A:Option Addr) (m c:Nat) (a:List aI) (Z:a.length=m*size) (Y:Row w A a) (h1:∀u∈a,u.oneCell'=true)
  (U:n+m<=maxLen) (q:(n+m)*mD<=140737488355328) (I:base<=w.heap.size):
  ∃K w',(fG #[t,t] W #[v,.slice A m c]).run P w= .ok K w'/\w'.ownsRow base e size K (n+m) (xs++a)/\w.grownBy w' v.ownBlock:=by
 cases A with
 |none=>
  have h0:a=[]:=by
   cases a with
   |nil=>rfl
   |cons u us=>obtain⟨b,o,e,_⟩:=Y ι;cases e
  subst h0;have hm:m=0:=by
   have:=Z;simp only[List.length_nil] at this;rcases Nat.mul_eq_zero.1 this.symm with h|h
   ·exact h
   ·omega
  subst hm;refine⟨v,w,?_,by simpa using f,⟨rfl,rfl,rfl,aD _,λ_ _ _=>rfl⟩⟩;rcases f.2 with⟨rfl,rfl⟩|⟨g,cap,cur,rfl,_,_,hnc,_⟩
  ·simp[fG,bR N,sizeOf,lY,hi,lJ,jB]
  ·simp[fG,bR N,sizeOf,lY,hi,lJ,jB,hnc,storeCells]
 |some ad=>
  obtain⟨K,w',J,h2,h3,_,_⟩:=run_append_own_at (P:=P) w base t W e i z size mD N hi hz H Q M O v n xs f ad m c a Z (λj u X=>by
   obtain⟨b,o,e,hc⟩:=Y (by cases a <;> simp at X⊢);injection e with e;subst e;rw[wU];exact hc j u X) h1 U q I
  exact⟨K,w',J,h2,h3⟩
theorem KZ {P:fZ} (w:aj) {o:Oper} {a:Act} {K:Act->aj->Prop} {Q:Exit->Act->aj->Prop} (s x:Operand) (t:ji)
  (ho:o.op= .call { callee:= .builtin .append,args:= #[s,x],argTypes:= #[t,t] })
  (base:Nat) (e:ji) (i:mY) (z:aI) (size mD:Nat) (Z:P.underlying t=some (.slice e)) (hi:P.info? e=some i) (X:i.zero=some z)
  (q:i.size=size) (U:i.bytes=mD) (N:z.cells.size=size) (O:0<size)
  (v:aI) (n:Nat) (xs:List aI) (hs:a.eval s=v) (J:w.ownsRow base e size v n xs)
  (A:Option Addr) (m c:Nat) (f:List aI) (Y:a.eval x= .slice A m c) (hl:f.length=m*size) (hr:Row w A f) (h1:∀u∈f,u.oneCell'=true)
  (W:n+m<=maxLen) (j:(n+m)*mD<=140737488355328) (H:base<=w.heap.size)
  (h:∀M w',w'.ownsRow base e size M (n+m) (xs++f)->w.grownBy w' v.ownBlock->K (a.put o.dst M) w'):o.wp P a w K Q:=by
 obtain⟨M,w',I,h2,h3⟩:=Jf (P:=P) w base t o.type e i z size mD Z hi X q U N O v n xs J A m c f hl hr h1 W j H;unfold Oper.wp execOp;simp only[ho,resolve,invoke,builtin,Sem.run_bind,Sem.run_pure,Result.andThen_ok,List.map_toArray,List.map_cons,List.map_nil,hs,Y,I];exact h M w' h2 h3
theorem vg {P:fZ} (w:aj) {I:Array Oper} {rest:List Oper} {o:Oper} {a:Act} {Q:Exit->Act->aj->Prop} (O:o.guard=none) (s x:Operand) (t:ji)
  (ho:o.op= .call { callee:= .builtin .append,args:= #[s,x],argTypes:= #[t,t] })
  (base:Nat) (e:ji) (i:mY) (z:aI) (size mD:Nat) (Z:P.underlying t=some (.slice e)) (hi:P.info? e=some i) (X:i.zero=some z)
  (q:i.size=size) (U:i.bytes=mD) (M:z.cells.size=size) (N:0<size)
  (v:aI) (n:Nat) (xs:List aI) (hs:a.eval s=v) (J:w.ownsRow base e size v n xs)
  (A:Option Addr) (m c:Nat) (f:List aI) (Y:a.eval x= .slice A m c) (hl:f.length=m*size) (hr:Row w A f) (h1:∀u∈f,u.oneCell'=true)
  (W:n+m<=maxLen) (j:(n+m)*mD<=140737488355328) (H:base<=w.heap.size)
  (h:∀K w',w'.ownsRow base e size K (n+m) (xs++f)->w.grownBy w' v.ownBlock->lK P I Q rest (a.put o.dst K) w'):lK P I Q (o::rest) a w:=
 wpList_plain O λ_ hK=>KZ w s x t ho base e i z size mD Z hi X q U M N v n xs hs J A m c f Y hl hr h1 W j H λK w' h2 h3=>hK _ _ (h K w' h2 h3)
def tX (A:Option Addr) (cap k s:Nat):Option Addr:=if cap=k then A else A.map (·.add (k*s))
theorem Row.cut {w:aj} {A:Option Addr} {xs:List aI} (h:Row w A xs) {n cap k s:Nat} (f:xs.length=n*s) (u:n<=cap) (q:k<=n):Row w (tX A cap k s) (xs.drop (k*s)):=λe=>by
 have j:k*s<n*s:=by rw[List.length_drop,f] at e;omega
 have i:k<n:=Nat.lt_of_mul_lt_mul_right j;obtain⟨b,o,rfl,a⟩:=h ω;unfold tX;rw[if_neg ω,Option.map_some,wU];exact Row.drop h (k*s) e
theorem Row.new (w:aj) (a:Array aI) (t:ji):Row (w.alloc (.cells a t)) (some ⟨w.heap.size,0,none⟩) a.toList:=λ_=>
 ⟨_,_,rfl,λj u e=>by rw[<-wU];exact World.news_of_block (heap_alloc_new w _) j u e⟩
theorem Bo {P:fZ} {t e:ji} {i:mY} (a:P.underlying t=some (.slice e)) (hi:P.info? e=some i) (A:Option Addr) (n cap:Nat) (k:Int) (W:aj) (j:0<=k) (f:k<=n):
  (fE t (.slice A n cap) (some (.int .i64 k)) none none).run P W= .ok (.slice (tX A cap k.toNat i.size) (n-k.toNat) (cap-k.toNat)) W:=by
 simp[fE,bR a,jA,run_sliceBound,sizeOf,lY,hi,tX,j,f]
theorem Bl {P:fZ} {t e:ji} {i:mY} (a:P.underlying t=some (.slice e)) (hi:P.info? e=some i) (A:Option Addr) (n cap:Nat) (k:Int) (W:aj) (j:0<=k) (f:k<=cap):
  (fE t (.slice A n cap) none (some (.int .i64 k)) none).run P W= .ok (.slice A k.toNat cap) W:=by
 have q:A.map (·.add 0)=A:=by cases A <;> simp[Addr.add]
 simp[fE,bR a,jA,run_sliceBound,sizeOf,lY,hi,j,f,q]
def Br (z:aI) (n:Nat):Array aI:=madeCells z.cells n
theorem Bn {P:fZ} {t e:ji} {i:mY} {z:aI} {s mD:Nat} (j:P.underlying t=some (.slice e)) (hi:P.info? e=some i) (f:i.zero=some z) (q:i.size=s) (a:i.bytes=mD) (c:Int) (W:aj) (I:0<=c) (H:(mD:Int)*c<=281474976710656) (u:c<=9223372036854775807):
  (mZ t (.int .i64 0) (.int .i64 c)).run P W= .ok (.slice (some ⟨W.heap.size,0,none⟩) 0 c.toNat) (W.alloc (.cells (Br z (c.toNat*s)) e)):=by
 subst q;subst a
 exact run_make W t e i z j hi f .i64 .i64 0 c (Int.le_refl _) I H u
theorem xJ (z:aI) (n:Nat):(Br z n).size=n:=size_madeCells _ _
def wV (s:Nat) (A:Option Addr):Prop:=∀a,A=some a->s<=a.block
theorem uy {W:aj} {base:Nat} {e:ji} {size:Nat} {v:aI} {n:Nat} {xs:List aI} (h:W.ownsRow base e size v n xs) {A:Option Addr} {m c:Nat} (hv:v= .slice A m c):n<=c/\wV base A:=by
 subst hv;rcases h.2 with⟨h1,h0⟩|⟨g,cap,cur,h1,hb,_,h2,_⟩
 ·injection h1 with e1 e2 e3
  subst e1;exact⟨ω,λa f=>by cases f⟩
 ·injection h1 with e1 e2 e3
  subst e1;exact⟨ω,λa f=>by cases f;exact hb⟩
end
section
def oW (t:ji) (s:Nat) (w W:aj) (v:aI) (n:Nat) (xs:List aI):Prop:=W.ownsRow w.heap.size t s v n xs
section
variable {t:ji} {s:Nat} {w W W':aj} {v:aI} {n:Nat} {xs:List aI}
theorem oW.nil (t:ji) (s:Nat) (w W:aj):oW t s w W (.slice none 0 0) 0 []:=World.ownsRow_nil W _ _ _
theorem oW.ext (h:oW t s w W v n xs) (a:Ext W W'):oW t s w W' v n xs:=by
 unfold oW at h⊢;rcases h with⟨h1,h2|⟨g,cap,cur,h2,h3,h4,h5⟩⟩
 ·exact⟨h1,.inl h2⟩
 ·refine⟨h1,.inr ⟨g,cap,cur,h2,h3,?_,h5⟩⟩
  have e:g<W.heap.size:=by
   rcases dD g W.heap.size with k|k
   ·exact k
   ·rw[Array.getElem?_eq_none k] at h4;cases h4
  rw[aJ a g e];exact h4
theorem oW.down {w0:aj} (h:oW t s w W v n xs) (a:Ext w0 w):oW t s w0 W v n xs:=by
 unfold oW at h⊢;rcases h with⟨h1,h2|⟨g,cap,cur,h2,h3,h4⟩⟩
 ·exact⟨h1,.inl h2⟩
 ·exact⟨h1,.inr ⟨g,cap,cur,h2,aM a.size h3,h4⟩⟩
theorem oW.form (h:oW t s w W v n xs):∃A c,v= .slice A n c/\n<=c:=by
 rcases h.2 with⟨rfl,h0⟩|⟨g,cap,cur,rfl,_,_,h2,_⟩
 ·exact⟨none,0,by rw[h0],ω⟩
 ·exact⟨_,_,rfl,h2⟩
theorem oW.lt (h:oW t s w W v n xs):∀k,v.ownBlock=some k->w.heap.size<=k:=λk a=>(dM h k a).1
theorem oW.row {A:Option Addr} {c:Nat} (h:oW t s w W (.slice A n c) n xs):Row W A xs:=Row.own h
end
abbrev Vb (x:UInt8):aI:= .int .u8 (x.toNat:Int)
def Bys (w:aj) (A:Option Addr) (l:List UInt8):Prop:=Row w A (l.map Vb)
theorem Bys.ext {w w':aj} {A:Option Addr} {l:List UInt8} (h:Bys w A l) (a:Ext w w'):Bys w' A l:=Row.ext h a
theorem Bys.nil (w:aj) (A:Option Addr):Bys w A []:=Row.nil w A
theorem Bys.at {w:aj} {A:Option Addr} {l:List UInt8} (h:Bys w A l) {k:Nat} (a:k<l.length):∃b o,A=some ⟨b,o,none⟩/\w.cell? ⟨b,o+k,none⟩=some (Vb (l.getD k 0)):=by
 obtain⟨b,o,e,f⟩:=h (by rw[gI];omega);refine⟨b,o,e,f k _ ?_⟩;simp[List.getD,a]
theorem Bys.all {w:aj} {b o:Nat} {l:List UInt8} (h:Bys w (some ⟨b,o,none⟩) l) (k:Nat) (a:k<l.length):w.cell? ⟨b,o+k,none⟩=some (Vb (l.getD k 0)):=by
 obtain⟨j,i,e,f⟩:=h.at a;injection e with e;injection e with e1 e2 e3;subst e1;subst e2;exact f
theorem Bys.place {w:aj} {A:Option Addr} {l:List UInt8} (h:Bys w A l) (a:0<l.length):∃b o,A=some ⟨b,o,none⟩:=by
 obtain⟨b,o,e,_⟩:=h.at a;exact⟨b,o,e⟩
theorem Bys.take {w:aj} {A:Option Addr} {l:List UInt8} (h:Bys w A l) (k:Nat):Bys w A (l.take k):=by
 unfold Bys;rw[List.map_take];exact Row.take h _
theorem Bys.cut {w:aj} {A:Option Addr} {l:List UInt8} (h:Bys w A l) {n cap k:Nat} (a:l.length=n) (f:n<=cap) (e:k<=n):Bys w (tX A cap k 1) (l.drop k):=by
 have:=Row.cut (s:=1) h (n:=n) (cap:=cap) (k:=k) (by rw[gI,a,Nat.mul_one]) f e;unfold Bys;rw[List.map_drop];rw[Nat.mul_one] at this;exact this
theorem JL (l:List UInt8):∀u∈l.map Vb,u.oneCell'=true:=by intro u a;obtain⟨b,_,rfl⟩:=List.mem_map.1 a;rfl
theorem Ho:(Tryz.prog.info? 5).map (λi=>(i.zero,i.size,i.bytes))=some (some (.int .u8 0),1,1):=κ
theorem M4 (A:Option Addr) (n cap k:Nat) (q:k<=n) (z:Int) (j:z=k) (W:aj):(fE 32 (.slice A n cap) (some (.int .i64 z)) none none).run Tryz.prog W= .ok (.slice (tX A cap k 1) (n-k) (cap-k)) W:=by
 subst j;obtain⟨i,hi,f,a,e⟩:=gJ Ho;have:=Bo Tryz.underlying32 hi A n cap k W ω ω;rw[a] at this;exact this
theorem aeD (A:Option Addr) (n cap k:Nat) (q:k<=cap) (z:Int) (j:z=k) (W:aj):(fE 32 (.slice A n cap) none (some (.int .i64 z)) none).run Tryz.prog W= .ok (.slice A k cap) W:=by
 subst j;obtain⟨i,hi,f,e,a⟩:=gJ Ho;exact Bl Tryz.underlying32 hi A n cap k W ω ω
theorem ag1 (A:Option Addr) (n cap k:Nat) (I:k<=cap) (z:Int) (j:z=k) (W:aj):(fE 32 (.slice A n cap) none (some (.int .u32 z)) none).run Tryz.prog W= .ok (.slice A k cap) W:=by
 subst j;obtain⟨i,hi,f,e,a⟩:=gJ Ho;have H:A.map (·.add 0)=A:=by cases A <;> simp[Addr.add]
 have q:∀c,(Instr.sliceBound (.int .u32 (k:Int)) cap c).run Tryz.prog W= .ok k W:=λc=>by
  have u:(0:Int)<=k/\(k:Int)<=cap:=ω
  simp[Instr.sliceBound,asIntOf,u]
 simp[fE,bR Tryz.underlying32,jA,q,sizeOf,lY,hi,H]
theorem ah4 (A:Option Addr) (n cap:Nat) (q:n<=cap) (z:Int) (j:z=n) (W:aj):(fE 32 (.slice A n cap) none (some (.int .i64 z)) (some (.int .i64 z))).run Tryz.prog W= .ok (.slice A n n) W:=by
 subst j;obtain⟨i,hi,f,e,a⟩:=gJ Ho;have u:A.map (·.add 0)=A:=by cases A <;> simp[Addr.add]
 simp[fE,bR Tryz.underlying32,jA,run_sliceBound,sizeOf,lY,hi,u,q]
theorem ag6 {w:aj} {A:Option Addr} {n c:Nat} {l:List UInt8} (h:Bys w A l) (i:l.length=n):(convert 32 9 (.slice A n c)).run Tryz.prog w= .ok (.string ⟨l.toArray⟩) w:=by
 subst i;rcases gD l.length with f|f
 ·obtain rfl:l=[]:=List.eq_nil_of_length_eq_zero f
  cases A with
  |none=>exact Lib.run_convert_nil_bytes w _ _ _ c Tryz.underlying32 Tryz.underlying5 Tryz.underlying9
  |some a=>exact run_convert_bytes_back w _ _ _ a c [] Tryz.underlying32 Tryz.underlying5 Tryz.underlying9 (λj e=>absurd e ι)
 ·obtain⟨b,o,rfl⟩:=h.place f
  refine run_convert_bytes_back w _ _ _ ⟨b,o,none⟩ c l Tryz.underlying32 Tryz.underlying5 Tryz.underlying9 (λj e=>?_);rw[wU,h.all j e];simp[List.getD,e]
def rY (w W:aj) (v:aI) (l:List UInt8):Prop:=oW 5 1 w W v l.length (l.map Vb)
theorem rY.ext {w W W':aj} {v:aI} {l:List UInt8} (h:rY w W v l) (a:Ext W W'):rY w W' v l:=oW.ext h a
theorem rY.down {w0 w W:aj} {v:aI} {l:List UInt8} (h:rY w W v l) (a:Ext w0 w):rY w0 W v l:=oW.down h a
theorem rY.open {w W:aj} {v:aI} {l:List UInt8} (h:rY w W v l):∃A c,v= .slice A l.length c/\l.length<=c/\Bys W A l:=by
 obtain⟨A,c,rfl,a⟩:=oW.form h;exact⟨A,c,rfl,a,oW.row h⟩
theorem rY.lt {w W:aj} {v:aI} {l:List UInt8} (h:rY w W v l):∀k,v.ownBlock=some k->w.heap.size<=k:=oW.lt h
def aeK (c:Nat):Array aI:=Br (.int .u8 0) (c*1)
theorem Xe (c:Nat) (q:c<=1200000) (k:Int) (j:k=c) (W:aj):
  (mZ 32 (.int .i64 0) (.int .i64 k)).run Tryz.prog W= .ok (.slice (some ⟨W.heap.size,0,none⟩) 0 c) (W.alloc (.cells (aeK c) 5)):=by
 subst j;obtain⟨i,hi,f,e,a⟩:=gJ Ho;have:=Bn Tryz.underlying32 hi f e a (c:Int) W ω ω ω;rwa[Int.toNat_natCast] at this
theorem rY.room {w0 W:aj} (a:Ext w0 W) (c:Nat) (e:c<=1200000):rY w0 (W.alloc (.cells (aeK c) 5)) (.slice (some ⟨W.heap.size,0,none⟩) 0 c) []:=
 World.ownsRow_made W _ _ a.size (by unfold maxLen;omega) (xJ _ _)
theorem Bys.new (w:aj) (l:List UInt8) (a:Array aI) (e:a=(l.map Vb).toArray):Bys (w.alloc (.cells a 5)) (some ⟨w.heap.size,0,none⟩) l:=by
 subst e;have:=Row.new w (l.map Vb).toArray 5;exact this
theorem Bys.new2 (w:aj) (o:Obj) (l:List UInt8) (a:Array aI) (e:a=(l.map Vb).toArray):Bys ((w.alloc o).alloc (.cells a 5)) (some ⟨w.heap.size+1,0,none⟩) l:=by
 have:=Bys.new (w.alloc o) l a e;rw[show(w.alloc o).heap.size=w.heap.size+1 by simp] at this;exact this
def aiw (w:aj) (l:List UInt8) (e:Ending) (w':aj):Prop:=∃v,e= .returned v/\rY w w' v l/\Ext w w'
theorem wM {w0 w:aj} {f:Array Oper} {rest:List Oper} {o:Oper} {a:Act} {Q:Exit->Act->aj->Prop} (H:o.guard=none) (s x:Operand)
  (N:o.op= .call { callee:= .builtin .append,args:= #[s,x],argTypes:= #[32,32] })
  (v:aI) (l:List UInt8) (K:a.eval s=v) (e:rY w0 w v l) (I:Ext w0 w)
  (A:Option Addr) (m c:Nat) (r:List UInt8) (U:a.eval x= .slice A m c) (O:r.length=m) (M:Bys w A r) (Y:l.length+r.length<=12000000)
  (h:∀j w',rY w0 w' j (l++r)->Ext w0 w'->w.grownBy w' v.ownBlock->lK Tryz.prog f Q rest (a.put o.dst j) w'):lK Tryz.prog f Q (o::rest) a w:=by
 obtain⟨i,hi,z,u,q⟩:=gJ Ho;subst O;refine vg w H s x _ N w0.heap.size 5 i _ 1 1 Tryz.underlying32 hi z u q rfl ω v l.length _ K e A r.length c _ U ι M (JL r)
  (by unfold maxLen;omega) ω I.size ?_
 intro j w' X J;refine h j w' ?_ (I.grown J e.lt) J;unfold rY oW;rw[iw,ay];exact X
theorem HY {w0 w:aj} {f:Array Oper} {rest:List Oper} {o:Oper} {a:Act} {Q:Exit->Act->aj->Prop} (H:o.guard=none) (s x:Operand)
  (M:o.op= .call { callee:= .builtin .append,args:= #[s,x],argTypes:= #[32,9] })
  (v:aI) (l:List UInt8) (K:a.eval s=v) (e:rY w0 w v l) (I:Ext w0 w)
  (r:ByteArray) (N:a.eval x= .string r) (U:l.length+r.size<=12000000)
  (h:∀j w',rY w0 w' j (l++r.data.toList)->Ext w0 w'->w.grownBy w' v.ownBlock->lK Tryz.prog f Q rest (a.put o.dst j) w'):lK Tryz.prog f Q (o::rest) a w:=by
 obtain⟨i,hi,z,u,q⟩:=gJ Ho;refine Lib.wpList_append_own_string w H s x _ _ M w0.heap.size 5 i Tryz.underlying32 Tryz.underlying9 hi z u q v l.length _ K e r N (by unfold maxLen;omega) ω I.size ?_;intro j w' O J _;refine h j w' ?_ (I.grown J e.lt) J;unfold rY oW;rw[iw,ay,Array.length_toList];exact O
end
def wJ (a b:Int):Int:=if a<b then-1 else if b<a then 1 else 0
theorem XU (a:Int) (w:aj):aX Tryz.prog 163 #[Vu a] w λe w'=>e= .returned (.bool false)/\w=w':=by
 go_enter Tryz.func163,Tryz.ntmps163;go_wp2;go_ret;exact⟨ι,rfl⟩
theorem sQ (a b:Int) (w:aj):aX Tryz.prog 129 #[Vu a,Vu b] w λe w'=>e= .returned (Vi (wJ a b))/\w=w':=by
 go_enter Tryz.func129,Tryz.ntmps129
 go_wp2_with(go_at_call 163;refine(XU _ _).mono ?_;rintro e w' ⟨rfl,rfl⟩)
 all_goals go_ret
 all_goals refine⟨?_,rfl⟩
 all_goals(refine qW ?_;unfold wJ;(repeat' split) <;> omega)
def qD (c:Int):aI:=if c=0 then .nilIface else .iface 75 (.int .i64 c)
theorem adO (c:Int):∀(x:Int) (W:aj),(binOp .eql 29 (.iface 75 (.int .i64 c)) (.iface 75 (.int .i64 x))).run Tryz.prog W= .ok (.bool (c==x)) W:=by
 intro x W;obtain⟨a,f,e⟩:∃i,Tryz.prog.info? 75=some i/\i.comparable=true:=by
  have h:(Tryz.prog.info? 75).map (λi=>i.comparable)=some true:=κ
  cases hi:Tryz.prog.info? 75 with
  |none=>rw[hi] at h;cases h
  |some i=>rw[hi] at h;exact⟨i,rfl,by simpa using h⟩
 have deep:∀d:Nat,(Op.equalIn (d+2) 29 (.iface 75 (.int .i64 c)) (.iface 75 (.int .i64 x))).run Tryz.prog W= .ok (c==x) W:=λd=>by
  simp[Op.equalIn,bR Tryz.underlying29,bR Tryz.underlying75,lY,f,e]
 simp only[binOp];simp[Op.equal,Op.maxDepth,deep 9998]
theorem qM (a b:Int) (w:aj):aX Tryz.prog 92 #[idv a b] w λe w'=>e= .returned (.bool (a==0))/\Ext w w':=by
 go_enter Tryz.func92,Tryz.ntmps92;go_wp2;go_ret;exact⟨rfl,(Ext.refl _).alloc _⟩
def EN (a b c d:Int):Bool:=decide (a=c/\b=d)
theorem aaK (a b c d:Int) (W:aj):(binOp .eql 55 (idv a b) (idv c d)).run Tryz.prog W= .ok (.bool (EN a b c d)) W:=by
 by_cases e:a=c
 ·by_cases i:b=d
  ·simp[go_sem,EN,e,i]
  ·have f:(b==d)=false:=by simpa using i
   simp[go_sem,EN,e,i,f]
 ·have j:(a==c)=false:=by simpa using e
  simp[go_sem,EN,e,j]
def rE (a b c d:Int):Int:=if a=c then wJ b d else wJ a c
theorem Pm (a b c d:Int) (w:aj):aX Tryz.prog 100 #[idv a b,idv c d] w λe w'=>e= .returned (Vi (rE a b c d))/\Ext w w':=by
 by_cases h:a=c
 ·subst h
  go_enter Tryz.func100,Tryz.ntmps100
  go_wp2_with(go_at_call 129;refine(sQ _ _ _).mono ?_;rintro e w' ⟨rfl,rfl⟩)
  go_ret;exact⟨by simp[rE],((Ext.refl _).alloc _).alloc _⟩
 ·have f:(a !=c)=true:=by simpa using h
  go_enter Tryz.func100,Tryz.ntmps100
  go_wp2_with(go_at_call 129;refine(sQ _ _ _).mono ?_;rintro e w' ⟨rfl,rfl⟩)
  go_ret;exact⟨by simp[rE,h],((Ext.refl _).alloc _).alloc _⟩
def tV (a b n l:Int):Int×Int×Int:=if a=0\/n<0 then(0,0,1) else if b+n>l then(0,0,4) else(a,b+n,0)
theorem abY {p:Prop} (h:p:=by
 go_enter Tryz.func80,Tryz.ntmps80
 go_wp2_with fail
 refine(qM _ _ _).mono ?_;rintro e w1 ⟨rfl,hb⟩;have hE:Ext w w1:=Ext.trans (((Ext.refl _).alloc _).alloc _) hb;obtain⟨hc,hf⟩:=hb.cells;go_wp2;exact aN (v:= .tuple #[idv 0 0,qD 1]) (by simp[results,Tryz.results80,go_sem,hc,qD]) rfl ⟨rfl,(hE.setCell ι _).setCell ι _⟩):p:=h
theorem GK (a b n l:Int) (w:aj) (N:0<=b) (M:b<=4294967295) (H: -9223372036854775808<=n) (z:n<=9223372036854775807) (K:0<=l) (J:l<=4294967295):
  aX Tryz.prog 80 #[idv a b,Vi n,Vu l] w λe w'=>e= .returned (.tuple #[idv (tV a b n l).1 (tV a b n l).2.1,qD (tV a b n l).2.2])/\Ext w w':=by
 by_cases i:a=0\/n<0
 ·have f:tV a b n l=(0,0,1):=by simp[tV,i]
  rw[f];clear f;by_cases q:a=0
  ·subst q
   clear i;exact abY
  ·have I:n<0:=ω
   have j:(a==0)=false:=by simpa using q
   clear i q;exact abY
 ·have j:(a==0)=false:=by simp;omega
  have I:0<=n:=ω
  by_cases u:b+n>l
  ·have f:tV a b n l=(0,0,4):=by simp[tV,i,u]
   rw[f];clear f i;go_enter Tryz.func80,Tryz.ntmps80
   go_wp2_with fail
   refine(qM _ _ _).mono ?_;rintro e w1 ⟨rfl,hb⟩;have hE:Ext w w1:=Ext.trans (((Ext.refl _).alloc _).alloc _) hb;obtain⟨hc,hf⟩:=hb.cells;go_wp2;exact aN (v:= .tuple #[idv 0 0,qD 4]) (by simp[results,Tryz.results80,go_sem,hc,qD]) rfl ⟨rfl,(hE.setCell ι _).setCell ι _⟩
  ·have f:tV a b n l=(a,b+n,0):=by simp[tV,i,u]
   rw[f];clear f i;go_enter Tryz.func80,Tryz.ntmps80
   go_wp2_with fail
   refine(qM _ _ _).mono ?_;rintro e w1 ⟨rfl,hb⟩;have hE:Ext w w1:=Ext.trans (((Ext.refl _).alloc _).alloc _) hb;obtain⟨hc,hf⟩:=hb.cells;go_wp2;exact aN (v:= .tuple #[idv a (b+n),qD 0]) (by simp[results,Tryz.results80,go_sem,hc,qD]) rfl ⟨rfl,(hE.setCell ι _).setCell ι _⟩
theorem Dj {a b n l x y:Int} (w:aj) (h:tV a b n l=(x,y,0)) (z:0<=b) (u:b<=4294967295) (i: -9223372036854775808<=n) (f:n<=9223372036854775807) (q:0<=l) (j:l<=4294967295):
  aX Tryz.prog 80 #[idv a b,Vi n,Vu l] w λe w'=>e= .returned (.tuple #[idv x y,.nilIface])/\Ext w w':=by
 have:=GK a b n l w z u i f q j;rw[h] at this;exact this
theorem ND {a b n l x y c:Int} (w:aj) (h:tV a b n l=(x,y,c)) (H:c≠0) (z:0<=b) (u:b<=4294967295) (i: -9223372036854775808<=n) (f:n<=9223372036854775807) (q:0<=l) (j:l<=4294967295):
  aX Tryz.prog 80 #[idv a b,Vi n,Vu l] w λe w'=>e= .returned (.tuple #[idv x y,.iface 75 (.int .i64 c)])/\Ext w w':=by
 have:=GK a b n l w z u i f q j;rw[h] at this;simp only[qD,if_neg H] at this;exact this
def vv (l:List UInt8):Nat:=Lib.leNat (l.take 8)
theorem vN (l:List UInt8):vv l<18446744073709551616:=by
 have h:=Lib.leNat_lt (l.take 8);refine bD h ?_
 calc 256^(l.take 8).length<=256^8:=Nat.pow_le_pow_right ω (by rw[bN];omega)
  _=18446744073709551616:=by rfl
theorem uL {l:List UInt8} (h:8<=l.length):vv l&&&9259542123273814144=0↔∀b∈l.take 8,b.toNat<128:=by
 have a:(l.take 8).length=8:=by rw[bN];omega
 have:=Lib.leNat_mask (l.take 8);rw[a,Lib.maskN8] at this;exact this
theorem YX (b o n c:Nat) (l:List UInt8) (w:aj) (a:Bys w (some ⟨b,o,none⟩) l) (j:l.length=n) (u:8<=n) (Q:n<=12000000):
  aX Tryz.prog 269 #[.slice (some ⟨b,o,none⟩) n c] w λe w'=>e= .returned (.int .u64 (vv l))/\∃q,w'=w.drewN q:=by
 have c0:=a.all 0 ω;have c1:=a.all 1 ω;have c2:=a.all 2 ω;have c3:=a.all 3 ω;have c4:=a.all 4 ω;have c5:=a.all 5 ω;have c6:=a.all 6 ω;have c7:=a.all 7 ω;rw[Nat.add_zero] at c0;have i:vv l=Lib.leNat [l.getD 0 0,l.getD 1 0,l.getD 2 0,l.getD 3 0,l.getD 4 0,l.getD 5 0,l.getD 6 0,l.getD 7 0]:=by
  unfold vv;subst j
  match l,u with
  |a0::a1::a2::a3::a4::a5::a6::a7::r,_=>simp
 rw[i];clear i a j;have O:=(l.getD 0 0).toNat_lt;have N:=(l.getD 1 0).toNat_lt;have M:=(l.getD 2 0).toNat_lt;have K:=(l.getD 3 0).toNat_lt;have J:=(l.getD 4 0).toNat_lt;have I:=(l.getD 5 0).toNat_lt;have H:=(l.getD 6 0).toNat_lt;have z:=(l.getD 7 0).toNat_lt;generalize l.getD 0 0=x0 at*;generalize l.getD 1 0=x1 at*;generalize l.getD 2 0=x2 at*;generalize l.getD 3 0=x3 at*;generalize l.getD 4 0=x4 at*;generalize l.getD 5 0=x5 at*;generalize l.getD 6 0=x6 at*;generalize l.getD 7 0=f at*;have hv:((Lib.leNat [x0,x1,x2,x3,x4,x5,x6,f]:Nat):Int)=(x0.toNat:Int)+(x1.toNat:Int)*256+(x2.toNat:Int)*65536+(x3.toNat:Int)*16777216+(x4.toNat:Int)*4294967296+(x5.toNat:Int)*1099511627776+(x6.toNat:Int)*281474976710656+(f.toNat:Int)*72057594037927936:=by
  simp only[Lib.leNat]
  push_cast
  omega
 go_enter Tryz.func269,Tryz.ntmps269;go_wp2
 go_quiet(fail)
 go_wp2;go_ret;refine⟨?_,_,rfl⟩;simp (disch:=omega) only[u64_wrap_id,u64_or8,u64_or16,u64_or24,u64_or32,u64_or40,u64_or48,u64_or56];rw[hv];rfl
structure TSb (S:Nat->Prop) (W W':aj):Prop where
 os:W'.os=W.os
 tape:W'.tape=W.tape
 output:W'.output=W.output
 size:W.heap.size<=W'.heap.size
 block:∀k,k<W.heap.size->¬S k->W'.heap[k]? =W.heap[k]?
theorem TSb.refl (S:Nat->Prop) (W:aj):TSb S W W:=⟨rfl,rfl,rfl,aD _,λ_ _ _=>rfl⟩
theorem TSb.trans {S T:Nat->Prop} {a b c:aj} (h:TSb S a b) (k:TSb T b c) (q:∀j,j<a.heap.size->T j->S j):TSb S a c:=
 ⟨k.os.trans h.os,k.tape.trans h.tape,k.output.trans h.output,aM h.size k.size,λj f i=>(k.block j (bD f h.size) λe=>i (q j f e)).trans (h.block j f i)⟩
theorem TSb.ext {S:Nat->Prop} {a b:aj} (h:Ext a b):TSb S a b:=⟨iy h,gN h,gG h,h.size,λk e _=>aJ h k e⟩
theorem TSb.down {S:Nat->Prop} {w0 W W':aj} (h:TSb S W W') (a:Ext w0 W) (i:∀k,S k->w0.heap.size<=k):Ext w0 W':=
 ⟨h.os.trans (iy a),h.tape.trans (gN a),h.output.trans (gG a),aM a.size h.size,λk f=>(h.block k (bD f a.size) λe=>by have:=i k e;omega).trans (aJ a k f)⟩
abbrev Vs (l:List UInt8):aI:= .string ⟨l.toArray⟩
end Go.Proofs.YtejbpijamdlgcaaGreatDoor

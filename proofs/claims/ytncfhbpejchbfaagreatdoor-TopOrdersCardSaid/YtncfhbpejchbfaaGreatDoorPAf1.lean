/-
  Lemmas of this seat; no claim.
-/
import Derived.Test.YtncfhbpejchbfaaGreatDoorCloP
import Derived.Test.YtncfhbpejchbfaaGreatDoorRows
import Derived.Lib.SmallJoins
import Derived.Lib.Hide
import Derived.Lib.QuietBelow
import Derived.BigQuiet
import Derived.Deep.RegionHeld
import Derived.Deep.AppendLies
import Derived.Lib.BufferRead
import Derived.Lib.EndianBits
import Derived.Lib.ValidAsc
import Derived.Deep.LoopGhost
import Derived.Test.YtncfhbpejchbfaaGreatDoorWMathP
set_option linter.unusedVariables false
set_option linter.unusedSimpArgs false
set_option maxRecDepth 100000
set_option maxHeartbeats 8000000
open Go renaming Calls→aO,Program→dz,TypeId→fb,TypeInfo→iS,Value→au,World→ae,bodyPost_ret→aB,bytes→iA,info_parts→dK,redrawn→eK,run_underlying→bp,typeInfo→ip,wpList→il
open Go.Builtin renaming append_→dg,firstCells→fp,lenOf→ic
open Go.Ending renaming returned→bK
open Go.Instr renaming makeSlice→iT,sliceBounds→fo,slice→dm
open Go.RowKit.Below renaming block→av,cell→fx,frozen→iu,os→ef,output→dI,size→iE,tape→dS
open Go.World renaming block_lt_of_cell?→cK
open Go.World.ownsRow renaming lt→bQ
open List renaming getElem?_eq_none→cU,length_append→ag,length_map→fs,length_take→bv,map_append→dX
open Nat renaming eq_zero_or_pos→dE,le_refl→am,le_trans→az,lt_of_lt_of_le→aV,lt_or_ge→bL,succ_mul→eJ
open Go.Proofs.Tryz
open Go.Proofs.Tryz renaming prog→pg
namespace Go.Proofs.YtncfhbpejchbfaaGreatDoor
open Go.ChangeShapes Go.WideShapes Go.ChangeAt Go.RowKit Go.Sort
section
def Ext (w w':ae):Prop:=Below w.heap.size w w'
theorem Ext.refl (w:ae):Ext w w:=Below.refl _ _
theorem Ext.size {a b:ae} (h:Ext a b):a.heap.size<=b.heap.size:=iE h
theorem Ext.trans {a b c:ae} (h:Ext a b) (k:Ext b c):Ext a c:=Below.trans h (Below.mono k h.size)
theorem Ext.alloc {a w:ae} (h:Ext a w) (o:Obj):Ext a (w.alloc o):=Below.alloc h h.size o
theorem Ext.drew {a w:ae} (h:Ext a w):Ext a w.drew:=Below.drew h
theorem Ext.drewN {a w:ae} (h:Ext a w) (n:Nat):Ext a (w.drewN n):=⟨ef (w':=w) h,dS (w':=w) h,dI (w':=w) h,iE (w':=w) h,av (w':=w) h⟩
theorem Ext.setCell {a w:ae} (h:Ext a w) {p:Addr} (e:a.heap.size<=p.block) (u:au):Ext a (w.setCell p u):=Below.setCell h e u
variable {P:dz} {W w1:ae} {a:Int} {args:Array au} {v:au}
theorem Ext.cells (e:Ext W w1):(∀b o,b<W.heap.size->w1.cell? ⟨b,o,none⟩=W.cell? ⟨b,o,none⟩)/\(∀b o,b<W.heap.size->w1.frozen? ⟨b,o,none⟩=W.frozen? ⟨b,o,none⟩):=
 ⟨λb o h=>fx (p:=⟨b,o,none⟩) e h,λb o h=>iu (p:=⟨b,o,none⟩) e h⟩
theorem Ext.keep (h:Ext W w1) {p:Addr} (e:W.cell? p=some v):w1.cell? p=some v:=by
 rw[fx h (cK W p e)];exact e
theorem Ext.thaw (h:Ext W w1) {p:Addr} (f:W.cell? p=some v) (e:W.frozen? p=false):w1.frozen? p=false:=by
 rw[iu h (cK W p f)];exact e
theorem Ext.lt (h:Ext W w1) {n:Nat} (hn:n<W.heap.size):n<w1.heap.size:=aV hn h.size
theorem Calls.jA {f:FuncId} {w:ae} {d:Nat} {os:Array Obj} 
  (h:aO P f args (grow (eK w d) os) λe w'=>e= .returned v/\Ext (grow (eK w d) os) w'):aO P f args (grow (eK w d) os) λe i=>e= .returned v/\∃p:Regrown,i=grow (eK w p.d) p.os:=Calls.regrown_of h
theorem Calls.sw {f:FuncId} {w:ae} {d:Nat} {os:Array Obj} 
  (h:aO P f args (grow (eK w d) os) λe w'=>e= .returned v/\grow (eK w d) os=w'):aO P f args (grow (eK w d) os) λe i=>e= .returned v/\∃p:Regrown,i=grow (eK w p.d) p.os:=
 Calls.jA (h.mono λe w' hh=>⟨hh.1,by rw[<-hh.2];exact Ext.refl _⟩)
theorem Ext.jv (w:ae) (d:Nat) (os:Array Obj):Ext w (grow (eK w d) os):=below_regrown w d os
abbrev Vu (n:Int):au:= .int .u32 n
abbrev Vi (n:Int):au:= .int .i64 n
abbrev idv (a b:Int):au:= .agg #[.int .u32 a,.int .u32 b]
theorem l7 {b:Int} (h:a=b):bK (.int .i64 a)= .returned (.int .i64 b):=by rw[h]
theorem E9 {b:Int} (h:a=b):bK (.int .u32 a)= .returned (.int .u32 b):=by rw[h]
theorem kE {a b:Bool} (h:a=b):bK (.bool a)= .returned (.bool b):=by rw[h]
theorem F9 {f:Int} {b e:Bool} (h:a=f) (g:b=e):bK (.tuple #[.int .i64 a,.bool b])= .returned (.tuple #[.int .i64 f,.bool e]):=by rw[h,g]
theorem Yr {H:Type} {enc:fb×au->H} (M:laidOutB P=true) {W':ae} (K:Ext W W'):∀(ts:List fb) (e:List au) (ds:List (DataW H)) (i:List MemPlace),
  (∀t∈ts,P.readableRec t=true/\t<P.types.size)->DataW.TrodAll enc P W 0 (λ_=>true) true ts e ds i->(∀x∈i,x.block<W.heap.size)->DataW.TrodAll enc P W' 0 (λb=>decide (b<W.heap.size)) true ts e ds i:=by
 intro ts
 induction ts with
 |nil=>intro e ds i _ h _;cases e <;> cases ds <;> first|exact h|exact h.elim
 |cons t ts ih=>
  intro e ds i z h I;cases e with
  |nil=>exact h.elim
  |cons v e=>
   cases ds with
   |nil=>exact h.elim
   |cons d ds=>
    obtain⟨p,q,O,N,rfl⟩:=h;have u:=z t (List.mem_cons_self ..);exact⟨p,q,RowKit.Below.trod M u.1 u.2 O K (λx f=>I x (List.mem_append_left _ f)),ih e ds q (λJ j=>z J (List.mem_cons_of_mem _ j)) N (λx f=>I x (List.mem_append_right _ f)),rfl⟩
theorem Y1 {H:Type} {enc:fb×au->H} {f:Func} {s:ChangeSpec} {W':ae} {ds j:List (DataW H)} {e:List MemPlace} {tb:fb}
  (N:DataW.Whole enc P f.params.toList s.vars false W args.toList ds j e) (Y:laidOutB P=true) (J:∀t∈f.params.toList,P.readableRec t=true/\t<P.types.size)
  (i:s.vars=[]) (U:(s.fn H (ds++j)).results=[.lit (.bool true)]) (ha:(s.fn H (ds++j)).args=ds) (hv:(s.fn H (ds++j)).vars=[]) (Q:Ext W W')
  (u:f.resultTypes= #[tb]) (Z:P.underlying tb=some .bool):s.post enc P f false true false false W args (.bool true) W':=by
 have K:∀p∈e,p.block<W.heap.size:=λp I=>N.lt p I
 have M:=N;obtain⟨p,q,hA,O,z,_,_⟩:=N;have X:q=[]:=by
  rw[i] at O;cases j with
  |nil=>exact O
  |cons g j=>exact O.elim
 subst X;rw[List.append_nil] at z;subst z;refine⟨ds,j,e,[],e,[],M,?_,?_,?_,?_,λh=>by cases h⟩
 ·rw[U,u];exact trodAll_mk1 (shut_bool Z true)
 ·rw[ha];exact Yr Y Q _ _ _ _ J hA K
 ·rw[hv,i];rfl
 ·exact World.keptBut_mono (λp I=>⟨I,.inr (.inl I)⟩) (RowKit.Below.frame Q (· ∈e))
theorem own:ownKnob pg.godebug=Option.none:=κ
theorem laid:laidOutB pg=true:=κ
theorem bounds_u32 (h:(Lit.int .u32 a).wf=true):0<=a/\a<=4294967295:=by
 simpa[Lit.wf,IntKind.min,IntKind.max,IntKind.signed,IntKind.bits] using h
end
section
theorem tX (b o n:Nat):(⟨b,o,none⟩:Addr).add n=⟨b,o+n,none⟩:=by unfold Addr.add;split <;> simp_all
def Row (w:ae) (A:Option Addr) (xs:List au):Prop:=
 0<xs.length->∃b o,A=some ⟨b,o,none⟩/\∀(j:Nat) (u:au),xs[j]? =some u->w.cell? ⟨b,o+j,none⟩=some u
theorem Row.nil (w:ae) (A:Option Addr):Row w A []:=λh=>absurd h ι
theorem Row.ext {w w':ae} {A:Option Addr} {xs:List au} (h:Row w A xs) (a:Ext w w'):Row w' A xs:=λq=>by
 obtain⟨b,o,e,i⟩:=h q;exact⟨b,o,e,λj u f=>a.keep (i j u f)⟩
theorem Row.take {w:ae} {A:Option Addr} {xs:List au} (h:Row w A xs) (k:Nat):Row w A (xs.take k):=λi=>by
 obtain⟨b,o,e,f⟩:=h (by simp at i;omega);refine⟨b,o,e,λj u a=>f j u ?_⟩;rw[List.getElem?_take] at a
 split at a
 ·exact a
 ·cases a
theorem Row.drop {w:ae} {b o:Nat} {xs:List au} (h:Row w (some ⟨b,o,none⟩) xs) (k:Nat):Row w (some ⟨b,o+k,none⟩) (xs.drop k):=λi=>by
 obtain⟨z,q,e,f⟩:=h (by simp at i;omega);injection e with e;injection e with e1 e2 e3;subst e1;subst e2;refine⟨_,_,rfl,λj u a=>?_⟩;rw[List.getElem?_drop] at a;rw[Nat.add_assoc];exact f _ u a
theorem Row.own {w:ae} {base:Nat} {e:fb} {size:Nat} {A:Option Addr} {n c:Nat} {xs:List au} (h:w.ownsRow base e size (.slice A n c) n xs):Row w A xs:=λz=>by
 have hn:0<n:=by
  rcases dE n with a|a
  ·subst a;have:=h.1;omega
  ·exact a
 obtain⟨g,cap,hv,_,i⟩:=h.form hn;have q:A=some ⟨g,0,none⟩:=by injection hv
 subst q;refine⟨g,0,rfl,λj u f=>?_⟩;rw[<-tX];exact h.cells (g:=g) rfl j u f
def flat {a:Type} (enc:a->List au) (l:List a):List au:=l.flatMap enc
theorem nJ {e:Type} (enc:e->List au) (a:e) (l:List e):flat enc (a::l)=enc a++flat enc l:=by simp[flat]
theorem kQ {a:Type} (enc:a->List au) (l m:List a):flat enc (l++m)=flat enc l++flat enc m:=by simp[flat]
theorem Ci {e:Type} (enc:e->List au) (a:e):flat enc [a]=enc a:=by simp[flat]
section
variable {α:Type} {enc:α->List au} {s:Nat}
theorem jR (e:∀a,(enc a).length=s):∀l:List α,(flat enc l).length=l.length*s
 |[]=>by simp[flat]
 |a::l=>by rw[nJ,ag,e,jR e l,List.length_cons,eJ,Nat.add_comm]
theorem Fp (f:∀a,(enc a).length=s):∀{l:List α} {k:Nat} {a:α} {j:Nat},l[k]? =some a->j<s->(flat enc l)[k*s+j]? =(enc a)[j]?
 |[],k,a,j,h,_=>by simp at h
 |x::l,0,a,j,h,hj=>by
  have e:x=a:=by simpa using h
  subst e;rw[nJ,Nat.zero_mul,Nat.zero_add,List.getElem?_append_left (by rw[f];exact hj)]
 |x::l,k+1,a,j,h,hj=>by
  rw[nJ,List.getElem?_append_right (by rw[f,eJ];omega),f,show(k+1)*s+j-s=k*s+j by rw[eJ];omega];exact Fp f (by simpa using h) hj
theorem zy (e:∀a,(enc a).length=s):∀(l:List α) (k:Nat),flat enc (l.take k)=(flat enc l).take (k*s)
 |[],k=>by simp[flat]
 |x::l,0=>by simp[flat]
 |x::l,k+1=>by
  rw[List.take_succ_cons,nJ,nJ,zy e l k,List.take_append,e,show(k+1)*s-s=k*s by rw[eJ];omega,List.take_of_length_le (l:=enc x) (by rw[e,eJ];omega)]
theorem wE (e:∀a,(enc a).length=s):∀(l:List α) (k:Nat),flat enc (l.drop k)=(flat enc l).drop (k*s)
 |[],k=>by simp[flat]
 |x::l,0=>by simp[flat]
 |x::l,k+1=>by
  rw[List.drop_succ_cons,nJ,wE e l k,List.drop_append,e,show(k+1)*s-s=k*s by rw[eJ];omega,show(enc x).drop ((k+1)*s)=[] from List.drop_eq_nil_of_le (by rw[e,eJ];omega),List.nil_append]
theorem lI (f:∀a,∀u∈enc a,u.oneCell'=true) (l:List α):∀u∈flat enc l,u.oneCell'=true:=λu e=>by
 obtain⟨a,_,h⟩:=List.mem_flatMap.1 e;exact f a u h
theorem Row.at {w:ae} {A:Option Addr} {l:List α} (h:Row w A (flat enc l)) (i:∀a,(enc a).length=s) {k:Nat} {a:α} (q:l[k]? =some a) (J:0<s):
  ∃b o,A=some ⟨b,o,none⟩/\∀j u,(enc a)[j]? =some u->w.cell? ⟨b,o+(k*s+j),none⟩=some u:=by
 have z:k<l.length:=by
  rcases bL k l.length with g|g
  ·exact g
  ·rw[cU g] at q;cases q
 obtain⟨b,o,e,I⟩:=h (by rw[jR i];exact Nat.mul_pos ω J);refine⟨b,o,e,λj u f=>I _ u ?_⟩;have H:j<s:=by
  rcases bL j s with g|g
  ·exact g
  ·rw[cU (by rw[i];exact g)] at f;cases f
 rw[Fp i q H];exact f
end
theorem Ext.grown {a w w':ae} {v:au} (h:Ext a w) (e:w.grownBy w' v.ownBlock) (hv:∀k,v.ownBlock=some k->a.heap.size<=k):Ext a w':=RowKit.Below.grown h e h.size hv
theorem F5 {P:dz} (w:ae) (base:Nat) (t W e:fb) (i:iS) (z:au) (size iA:Nat) (N:P.underlying t=some (.slice e)) (hi:P.info? e=some i) (hz:i.zero=some z)
  (H:i.size=size) (Q:i.bytes=iA) (M:z.cells.size=size) (O:0<size)
  (v:au) (n:Nat) (xs:List au) (f:w.ownsRow base e size v n xs)
  (A:Option Addr) (m c:Nat) (a:List au) (Z:a.length=m*size) (Y:Row w A a) (h1:∀u∈a,u.oneCell'=true)
  (U:n+m<=maxLen) (q:(n+m)*iA<=140737488355328) (I:base<=w.heap.size):
  ∃K w',(dg #[t,t] W #[v,.slice A m c]).run P w= .ok K w'/\w'.ownsRow base e size K (n+m) (xs++a)/\w.grownBy w' v.ownBlock:=by
 cases A with
 |none=>
  have h0:a=[]:=by
   cases a with
   |nil=>rfl
   |cons u us=>obtain⟨b,o,e,_⟩:=Y ι;cases e
  subst h0;have hm:m=0:=by
   have:=Z;simp only[List.length_nil] at this;rcases Nat.mul_eq_zero.1 this.symm with h|h
   ·exact h
   ·omega
  subst hm;refine⟨v,w,?_,by simpa using f,⟨rfl,rfl,rfl,am _,λ_ _ _=>rfl⟩⟩;rcases f.2 with⟨rfl,rfl⟩|⟨g,cap,cur,rfl,_,_,hnc,_⟩
  ·simp[dg,bp N,sizeOf,ip,hi,ic,fp]
  ·simp[dg,bp N,sizeOf,ip,hi,ic,fp,hnc,storeCells]
 |some ad=>
  obtain⟨K,w',J,h2,h3,_,_⟩:=run_append_own_at (P:=P) w base t W e i z size iA N hi hz H Q M O v n xs f ad m c a Z (λj u X=>by
   obtain⟨b,o,e,hc⟩:=Y (by cases a <;> simp at X⊢);injection e with e;subst e;rw[tX];exact hc j u X) h1 U q I
  exact⟨K,w',J,h2,h3⟩
theorem IL {P:dz} (w:ae) {o:Oper} {a:Act} {K:Act->ae->Prop} {Q:Exit->Act->ae->Prop} (s x:Operand) (t:fb)
  (ho:o.op= .call { callee:= .builtin .append,args:= #[s,x],argTypes:= #[t,t] })
  (base:Nat) (e:fb) (i:iS) (z:au) (size iA:Nat) (Z:P.underlying t=some (.slice e)) (hi:P.info? e=some i) (X:i.zero=some z)
  (q:i.size=size) (U:i.bytes=iA) (N:z.cells.size=size) (O:0<size)
  (v:au) (n:Nat) (xs:List au) (hs:a.eval s=v) (J:w.ownsRow base e size v n xs)
  (A:Option Addr) (m c:Nat) (f:List au) (Y:a.eval x= .slice A m c) (hl:f.length=m*size) (hr:Row w A f) (h1:∀u∈f,u.oneCell'=true)
  (W:n+m<=maxLen) (j:(n+m)*iA<=140737488355328) (H:base<=w.heap.size)
  (h:∀M w',w'.ownsRow base e size M (n+m) (xs++f)->w.grownBy w' v.ownBlock->K (a.put o.dst M) w'):o.wp P a w K Q:=by
 obtain⟨M,w',I,h2,h3⟩:=F5 (P:=P) w base t o.type e i z size iA Z hi X q U N O v n xs J A m c f hl hr h1 W j H;unfold Oper.wp execOp;simp only[ho,resolve,invoke,builtin,Sem.run_bind,Sem.run_pure,Result.andThen_ok,List.map_toArray,List.map_cons,List.map_nil,hs,Y,I];exact h M w' h2 h3
theorem ql {P:dz} (w:ae) {I:Array Oper} {rest:List Oper} {o:Oper} {a:Act} {Q:Exit->Act->ae->Prop} (O:o.guard=none) (s x:Operand) (t:fb)
  (ho:o.op= .call { callee:= .builtin .append,args:= #[s,x],argTypes:= #[t,t] })
  (base:Nat) (e:fb) (i:iS) (z:au) (size iA:Nat) (Z:P.underlying t=some (.slice e)) (hi:P.info? e=some i) (X:i.zero=some z)
  (q:i.size=size) (U:i.bytes=iA) (M:z.cells.size=size) (N:0<size)
  (v:au) (n:Nat) (xs:List au) (hs:a.eval s=v) (J:w.ownsRow base e size v n xs)
  (A:Option Addr) (m c:Nat) (f:List au) (Y:a.eval x= .slice A m c) (hl:f.length=m*size) (hr:Row w A f) (h1:∀u∈f,u.oneCell'=true)
  (W:n+m<=maxLen) (j:(n+m)*iA<=140737488355328) (H:base<=w.heap.size)
  (h:∀K w',w'.ownsRow base e size K (n+m) (xs++f)->w.grownBy w' v.ownBlock->il P I Q rest (a.put o.dst K) w'):il P I Q (o::rest) a w:=
 wpList_plain O λ_ hK=>IL w s x t ho base e i z size iA Z hi X q U M N v n xs hs J A m c f Y hl hr h1 W j H λK w' h2 h3=>hK _ _ (h K w' h2 h3)
def oq (A:Option Addr) (cap k s:Nat):Option Addr:=if cap=k then A else A.map (·.add (k*s))
theorem Row.cut {w:ae} {A:Option Addr} {xs:List au} (h:Row w A xs) {n cap k s:Nat} (f:xs.length=n*s) (u:n<=cap) (q:k<=n):Row w (oq A cap k s) (xs.drop (k*s)):=λe=>by
 have j:k*s<n*s:=by rw[List.length_drop,f] at e;omega
 have i:k<n:=Nat.lt_of_mul_lt_mul_right j;obtain⟨b,o,rfl,a⟩:=h ω;unfold oq;rw[if_neg ω,Option.map_some,tX];exact Row.drop h (k*s) e
theorem Row.new (w:ae) (a:Array au) (t:fb):Row (w.alloc (.cells a t)) (some ⟨w.heap.size,0,none⟩) a.toList:=λ_=>
 ⟨_,_,rfl,λj u e=>by rw[<-tX];exact World.news_of_block (heap_alloc_new w _) j u e⟩
theorem xU {P:dz} {t e:fb} {i:iS} (a:P.underlying t=some (.slice e)) (hi:P.info? e=some i) (A:Option Addr) (n cap:Nat) (k:Int) (W:ae) (j:0<=k) (f:k<=n):
  (dm t (.slice A n cap) (some (.int .i64 k)) none none).run P W= .ok (.slice (oq A cap k.toNat i.size) (n-k.toNat) (cap-k.toNat)) W:=by
 simp[dm,bp a,fo,run_sliceBound,sizeOf,ip,hi,oq,j,f]
theorem xS {P:dz} {t e:fb} {i:iS} (a:P.underlying t=some (.slice e)) (hi:P.info? e=some i) (A:Option Addr) (n cap:Nat) (k:Int) (W:ae) (j:0<=k) (f:k<=cap):
  (dm t (.slice A n cap) none (some (.int .i64 k)) none).run P W= .ok (.slice A k.toNat cap) W:=by
 have q:A.map (·.add 0)=A:=by cases A <;> simp[Addr.add]
 simp[dm,bp a,fo,run_sliceBound,sizeOf,ip,hi,j,f,q]
def Eo (z:au) (n:Nat):Array au:=madeCells z.cells n
theorem BD {P:dz} {t e:fb} {i:iS} {z:au} {s iA:Nat} (j:P.underlying t=some (.slice e)) (hi:P.info? e=some i) (f:i.zero=some z) (q:i.size=s) (a:i.bytes=iA) (c:Int) (W:ae) (I:0<=c) (H:(iA:Int)*c<=281474976710656) (u:c<=9223372036854775807):
  (iT t (.int .i64 0) (.int .i64 c)).run P W= .ok (.slice (some ⟨W.heap.size,0,none⟩) 0 c.toNat) (W.alloc (.cells (Eo z (c.toNat*s)) e)):=by
 subst q;subst a
 exact run_make W t e i z j hi f .i64 .i64 0 c (Int.le_refl _) I H u
theorem wM (z:au) (n:Nat):(Eo z n).size=n:=size_madeCells _ _
def rZ (s:Nat) (A:Option Addr):Prop:=∀a,A=some a->s<=a.block
theorem oO {W:ae} {base:Nat} {e:fb} {size:Nat} {v:au} {n:Nat} {xs:List au} (h:W.ownsRow base e size v n xs) {A:Option Addr} {m c:Nat} (hv:v= .slice A m c):n<=c/\rZ base A:=by
 subst hv;rcases h.2 with⟨h1,h0⟩|⟨g,cap,cur,h1,hb,_,h2,_⟩
 ·injection h1 with e1 e2 e3
  subst e1;exact⟨ω,λa f=>by cases f⟩
 ·injection h1 with e1 e2 e3
  subst e1;exact⟨ω,λa f=>by cases f;exact hb⟩
end
section
def jQ (t:fb) (s:Nat) (w W:ae) (v:au) (n:Nat) (xs:List au):Prop:=W.ownsRow w.heap.size t s v n xs
section
variable {t:fb} {s:Nat} {w W W':ae} {v:au} {n:Nat} {xs:List au}
theorem jQ.nil (t:fb) (s:Nat) (w W:ae):jQ t s w W (.slice none 0 0) 0 []:=World.ownsRow_nil W _ _ _
theorem jQ.ext (h:jQ t s w W v n xs) (a:Ext W W'):jQ t s w W' v n xs:=by
 unfold jQ at h⊢;rcases h with⟨h1,h2|⟨g,cap,cur,h2,h3,h4,h5⟩⟩
 ·exact⟨h1,.inl h2⟩
 ·refine⟨h1,.inr ⟨g,cap,cur,h2,h3,?_,h5⟩⟩
  have e:g<W.heap.size:=by
   rcases bL g W.heap.size with k|k
   ·exact k
   ·rw[Array.getElem?_eq_none k] at h4;cases h4
  rw[av a g e];exact h4
theorem jQ.down {w0:ae} (h:jQ t s w W v n xs) (a:Ext w0 w):jQ t s w0 W v n xs:=by
 unfold jQ at h⊢;rcases h with⟨h1,h2|⟨g,cap,cur,h2,h3,h4⟩⟩
 ·exact⟨h1,.inl h2⟩
 ·exact⟨h1,.inr ⟨g,cap,cur,h2,az a.size h3,h4⟩⟩
theorem jQ.form (h:jQ t s w W v n xs):∃A c,v= .slice A n c/\n<=c:=by
 rcases h.2 with⟨rfl,h0⟩|⟨g,cap,cur,rfl,_,_,h2,_⟩
 ·exact⟨none,0,by rw[h0],ω⟩
 ·exact⟨_,_,rfl,h2⟩
theorem jQ.lt (h:jQ t s w W v n xs):∀k,v.ownBlock=some k->w.heap.size<=k:=λk a=>(bQ h k a).1
theorem jQ.row {A:Option Addr} {c:Nat} (h:jQ t s w W (.slice A n c) n xs):Row W A xs:=Row.own h
end
abbrev Vb (x:UInt8):au:= .int .u8 (x.toNat:Int)
def Bys (w:ae) (A:Option Addr) (l:List UInt8):Prop:=Row w A (l.map Vb)
theorem Bys.ext {w w':ae} {A:Option Addr} {l:List UInt8} (h:Bys w A l) (a:Ext w w'):Bys w' A l:=Row.ext h a
theorem Bys.at {w:ae} {A:Option Addr} {l:List UInt8} (h:Bys w A l) {k:Nat} (a:k<l.length):∃b o,A=some ⟨b,o,none⟩/\w.cell? ⟨b,o+k,none⟩=some (Vb (l.getD k 0)):=by
 obtain⟨b,o,e,f⟩:=h (by rw[fs];omega);refine⟨b,o,e,f k _ ?_⟩;simp[List.getD,a]
theorem Bys.all {w:ae} {b o:Nat} {l:List UInt8} (h:Bys w (some ⟨b,o,none⟩) l) (k:Nat) (a:k<l.length):w.cell? ⟨b,o+k,none⟩=some (Vb (l.getD k 0)):=by
 obtain⟨j,i,e,f⟩:=h.at a;injection e with e;injection e with e1 e2 e3;subst e1;subst e2;exact f
theorem Bys.place {w:ae} {A:Option Addr} {l:List UInt8} (h:Bys w A l) (a:0<l.length):∃b o,A=some ⟨b,o,none⟩:=by
 obtain⟨b,o,e,_⟩:=h.at a;exact⟨b,o,e⟩
theorem Bys.take {w:ae} {A:Option Addr} {l:List UInt8} (h:Bys w A l) (k:Nat):Bys w A (l.take k):=by
 unfold Bys;rw[List.map_take];exact Row.take h _
theorem Bys.cut {w:ae} {A:Option Addr} {l:List UInt8} (h:Bys w A l) {n cap k:Nat} (hn:l.length=n) (e:n<=cap) (a:k<=n):Bys w (oq A cap k 1) (l.drop k):=by
 have:=Row.cut (s:=1) h (n:=n) (cap:=cap) (k:=k) (by rw[fs,hn,Nat.mul_one]) e a;unfold Bys;rw[List.map_drop];rw[Nat.mul_one] at this;exact this
theorem GU (l:List UInt8):∀u∈l.map Vb,u.oneCell'=true:=by intro u a;obtain⟨b,_,rfl⟩:=List.mem_map.1 a;rfl
theorem Ey:(pg.info? 5).map (λi=>(i.zero,i.size,i.bytes))=some (some (.int .u8 0),1,1):=κ
theorem JV (A:Option Addr) (n cap k:Nat) (q:k<=n) (z:Int) (j:z=k) (W:ae):(dm 41 (.slice A n cap) (some (.int .i64 z)) none none).run pg W= .ok (.slice (oq A cap k 1) (n-k) (cap-k)) W:=by
 subst j;obtain⟨i,hi,f,a,e⟩:=dK Ey;have:=xU underlying41 hi A n cap k W ω ω;rw[a] at this;exact this
theorem acU (A:Option Addr) (n cap k:Nat) (q:k<=cap) (z:Int) (j:z=k) (W:ae):(dm 41 (.slice A n cap) none (some (.int .i64 z)) none).run pg W= .ok (.slice A k cap) W:=by
 subst j;obtain⟨i,hi,f,e,a⟩:=dK Ey;exact xS underlying41 hi A n cap k W ω ω
theorem afh (A:Option Addr) (n cap k:Nat) (I:k<=cap) (z:Int) (j:z=k) (W:ae):(dm 41 (.slice A n cap) none (some (.int .u32 z)) none).run pg W= .ok (.slice A k cap) W:=by
 subst j;obtain⟨i,hi,f,e,a⟩:=dK Ey;have H:A.map (·.add 0)=A:=by cases A <;> simp[Addr.add]
 have q:∀c,(Instr.sliceBound (.int .u32 (k:Int)) cap c).run pg W= .ok k W:=λc=>by
  have u:(0:Int)<=k/\(k:Int)<=cap:=ω
  simp[Instr.sliceBound,asIntOf,u]
 simp[dm,bp underlying41,fo,q,sizeOf,ip,hi,H]
theorem agr (A:Option Addr) (n cap:Nat) (q:n<=cap) (z:Int) (j:z=n) (W:ae):(dm 41 (.slice A n cap) none (some (.int .i64 z)) (some (.int .i64 z))).run pg W= .ok (.slice A n n) W:=by
 subst j;obtain⟨i,hi,f,e,a⟩:=dK Ey;have u:A.map (·.add 0)=A:=by cases A <;> simp[Addr.add]
 simp[dm,bp underlying41,fo,run_sliceBound,sizeOf,ip,hi,u,q]
theorem afm {w:ae} {A:Option Addr} {n c:Nat} {l:List UInt8} (h:Bys w A l) (hn:l.length=n):(convert 41 9 (.slice A n c)).run pg w= .ok (.string ⟨l.toArray⟩) w:=by
 subst hn;rcases dE l.length with f|f
 ·obtain rfl:l=[]:=List.eq_nil_of_length_eq_zero f
  cases A with
  |none=>exact Lib.run_convert_nil_bytes w _ _ _ c underlying41 underlying5 underlying9
  |some a=>exact run_convert_bytes_back w _ _ _ a c [] underlying41 underlying5 underlying9 (λj e=>absurd e ι)
 ·obtain⟨b,o,rfl⟩:=h.place f
  refine run_convert_bytes_back w _ _ _ ⟨b,o,none⟩ c l underlying41 underlying5 underlying9 (λj e=>?_);rw[tX,h.all j e];simp[List.getD,e]
def nk (w W:ae) (v:au) (l:List UInt8):Prop:=jQ 5 1 w W v l.length (l.map Vb)
theorem nk.ext {w W W':ae} {v:au} {l:List UInt8} (h:nk w W v l) (a:Ext W W'):nk w W' v l:=jQ.ext h a
theorem nk.down {w0 w W:ae} {v:au} {l:List UInt8} (h:nk w W v l) (a:Ext w0 w):nk w0 W v l:=jQ.down h a
theorem nk.open {w W:ae} {v:au} {l:List UInt8} (h:nk w W v l):∃A c,v= .slice A l.length c/\l.length<=c/\Bys W A l:=by
 obtain⟨A,c,rfl,a⟩:=jQ.form h;exact⟨A,c,rfl,a,jQ.row h⟩
theorem nk.lt {w W:ae} {v:au} {l:List UInt8} (h:nk w W v l):∀k,v.ownBlock=some k->w.heap.size<=k:=jQ.lt h
def ac0 (c:Nat):Array au:=Eo (.int .u8 0) (c*1)
theorem UY (c:Nat) (q:c<=1200000) (k:Int) (j:k=c) (W:ae):
  (iT 41 (.int .i64 0) (.int .i64 k)).run pg W= .ok (.slice (some ⟨W.heap.size,0,none⟩) 0 c) (W.alloc (.cells (ac0 c) 5)):=by
 subst j;obtain⟨i,hi,f,e,a⟩:=dK Ey;have:=BD underlying41 hi f e a (c:Int) W ω ω ω;rwa[Int.toNat_natCast] at this
theorem nk.room {w0 W:ae} (a:Ext w0 W) (c:Nat) (e:c<=1200000):nk w0 (W.alloc (.cells (ac0 c) 5)) (.slice (some ⟨W.heap.size,0,none⟩) 0 c) []:=
 World.ownsRow_made W _ _ a.size (by unfold maxLen;omega) (wM _ _)
theorem Bys.new (w:ae) (l:List UInt8) (a:Array au) (e:a=(l.map Vb).toArray):Bys (w.alloc (.cells a 5)) (some ⟨w.heap.size,0,none⟩) l:=by
 subst e;have:=Row.new w (l.map Vb).toArray 5;exact this
theorem Bys.new2 (w:ae) (o:Obj) (l:List UInt8) (a:Array au) (e:a=(l.map Vb).toArray):Bys ((w.alloc o).alloc (.cells a 5)) (some ⟨w.heap.size+1,0,none⟩) l:=by
 have:=Bys.new (w.alloc o) l a e;rw[show(w.alloc o).heap.size=w.heap.size+1 by simp] at this;exact this
def agP (w:ae) (l:List UInt8) (e:Ending) (w':ae):Prop:=∃v,e= .returned v/\nk w w' v l/\Ext w w'
theorem rR {w0 w:ae} {f:Array Oper} {rest:List Oper} {o:Oper} {a:Act} {Q:Exit->Act->ae->Prop} (H:o.guard=none) (s x:Operand)
  (N:o.op= .call { callee:= .builtin .append,args:= #[s,x],argTypes:= #[41,41] })
  (v:au) (l:List UInt8) (K:a.eval s=v) (e:nk w0 w v l) (I:Ext w0 w)
  (A:Option Addr) (m c:Nat) (r:List UInt8) (O:a.eval x= .slice A m c) (hm:r.length=m) (M:Bys w A r) (X:l.length+r.length<=12000000)
  (h:∀j w',nk w0 w' j (l++r)->Ext w0 w'->w.grownBy w' v.ownBlock->il pg f Q rest (a.put o.dst j) w'):il pg f Q (o::rest) a w:=by
 obtain⟨i,hi,z,u,q⟩:=dK Ey;subst hm;refine ql w H s x _ N w0.heap.size 5 i _ 1 1 underlying41 hi z u q rfl ω v l.length _ K e A r.length c _ O ι M (GU r)
  (by unfold maxLen;omega) ω I.size ?_
 intro j w' U J;refine h j w' ?_ (I.grown J e.lt) J;unfold nk jQ;rw[dX,ag];exact U
theorem EJ {w0 w:ae} {f:Array Oper} {rest:List Oper} {o:Oper} {a:Act} {Q:Exit->Act->ae->Prop} (H:o.guard=none) (s x:Operand)
  (M:o.op= .call { callee:= .builtin .append,args:= #[s,x],argTypes:= #[41,9] })
  (v:au) (l:List UInt8) (K:a.eval s=v) (e:nk w0 w v l) (I:Ext w0 w)
  (r:ByteArray) (N:a.eval x= .string r) (U:l.length+r.size<=12000000)
  (h:∀j w',nk w0 w' j (l++r.data.toList)->Ext w0 w'->w.grownBy w' v.ownBlock->il pg f Q rest (a.put o.dst j) w'):il pg f Q (o::rest) a w:=by
 obtain⟨i,hi,z,u,q⟩:=dK Ey;refine Lib.wpList_append_own_string w H s x _ _ M w0.heap.size 5 i underlying41 underlying9 hi z u q v l.length _ K e r N (by unfold maxLen;omega) ω I.size ?_;intro j w' O J _;refine h j w' ?_ (I.grown J e.lt) J;unfold nk jQ;rw[dX,ag,Array.length_toList];exact O
end
def rP (a b:Int):Int:=if a<b then-1 else if b<a then 1 else 0
theorem VP (a:Int) (w:ae):aO pg 127 #[Vu a] w λe w'=>e= .returned (.bool false)/\w=w':=by
 go_enter func127,ntmps127;go_wp2;go_ret;exact⟨ι,rfl⟩
theorem nQ (a b:Int) (w:ae):aO pg 94 #[Vu a,Vu b] w λe w'=>e= .returned (Vi (rP a b))/\w=w':=by
 go_enter func94,ntmps94
 go_wp2_with(go_at_call 127;refine(VP _ _).mono ?_;rintro e w' ⟨rfl,rfl⟩)
 all_goals go_ret
 all_goals refine⟨?_,rfl⟩
 all_goals(refine l7 ?_;unfold rP;(repeat' split) <;> omega)
def lF (c:Int):au:=if c=0 then .nilIface else .iface 56 (.int .i64 c)
theorem ab5 (c:Int):∀(x:Int) (W:ae),(binOp .eql 27 (.iface 56 (.int .i64 c)) (.iface 56 (.int .i64 x))).run pg W= .ok (.bool (c==x)) W:=by
 intro x W;obtain⟨a,f,e⟩:∃i,pg.info? 56=some i/\i.comparable=true:=by
  have h:(pg.info? 56).map (λi=>i.comparable)=some true:=κ
  cases hi:pg.info? 56 with
  |none=>rw[hi] at h;cases h
  |some i=>rw[hi] at h;exact⟨i,rfl,by simpa using h⟩
 have deep:∀d:Nat,(Op.equalIn (d+2) 27 (.iface 56 (.int .i64 c)) (.iface 56 (.int .i64 x))).run pg W= .ok (c==x) W:=λd=>by
  simp[Op.equalIn,bp underlying27,bp underlying56,ip,f,e]
 simp only[binOp];simp[Op.equal,Op.maxDepth,deep 9998]
theorem lN (a b:Int) (w:ae):aO pg 88 #[idv a b] w λe w'=>e= .returned (.bool (a==0))/\Ext w w':=by
 go_enter func88,ntmps88;go_wp2;go_ret;exact⟨rfl,(Ext.refl _).alloc _⟩
def BP (a b c d:Int):Bool:=decide (a=c/\b=d)
theorem Zf (a b c d:Int) (W:ae):(binOp .eql 38 (idv a b) (idv c d)).run pg W= .ok (.bool (BP a b c d)) W:=by
 by_cases e:a=c
 ·by_cases i:b=d
  ·simp[go_sem,BP,e,i]
  ·have f:(b==d)=false:=by simpa using i
   simp[go_sem,BP,e,i,f]
 ·have j:(a==c)=false:=by simpa using e
  simp[go_sem,BP,e,j]
def mK (a b c d:Int):Int:=if a=c then rP b d else rP a c
theorem MW (a b c d:Int) (w:ae):aO pg 61 #[idv a b,idv c d] w λe w'=>e= .returned (Vi (mK a b c d))/\Ext w w':=by
 by_cases h:a=c
 ·subst h
  go_enter func61,ntmps61
  go_wp2_with(go_at_call 94;refine(nQ _ _ _).mono ?_;rintro e w' ⟨rfl,rfl⟩)
  go_ret;exact⟨by simp[mK],((Ext.refl _).alloc _).alloc _⟩
 ·have f:(a !=c)=true:=by simpa using h
  go_enter func61,ntmps61
  go_wp2_with(go_at_call 94;refine(nQ _ _ _).mono ?_;rintro e w' ⟨rfl,rfl⟩)
  go_ret;exact⟨by simp[mK,h],((Ext.refl _).alloc _).alloc _⟩
def om (a b n l:Int):Int×Int×Int:=if a=0\/n<0 then(0,0,1) else if b+n>l then(0,0,4) else(a,b+n,0)
theorem aas {p:Prop} (h:p:=by
 go_enter func50,ntmps50
 go_wp2_with fail
 refine(lN _ _ _).mono ?_;rintro e w1 ⟨rfl,hb⟩;have hE:Ext w w1:=Ext.trans (((Ext.refl _).alloc _).alloc _) hb;obtain⟨hc,hf⟩:=hb.cells;go_wp2;exact aB (v:= .tuple #[idv 0 0,lF 1]) (by simp[results,results50,go_sem,hc,lF]) rfl ⟨rfl,(hE.setCell ι _).setCell ι _⟩):p:=h
theorem Eb (a b n l:Int) (w:ae) (M:0<=b) (K:b<=4294967295) (H: -9223372036854775808<=n) (z:n<=9223372036854775807) (J:0<=l) (I:l<=4294967295):
  aO pg 50 #[idv a b,Vi n,Vu l] w λe w'=>e= .returned (.tuple #[idv (om a b n l).1 (om a b n l).2.1,lF (om a b n l).2.2])/\Ext w w':=by
 by_cases i:a=0\/n<0
 ·have f:om a b n l=(0,0,1):=by simp[om,i]
  rw[f];clear f;by_cases q:a=0
  ·subst q
   clear i;exact aas
  ·have hn:n<0:=ω
   have j:(a==0)=false:=by simpa using q
   clear i q;exact aas
 ·have j:(a==0)=false:=by simp;omega
  have hn:0<=n:=ω
  by_cases u:b+n>l
  ·have f:om a b n l=(0,0,4):=by simp[om,i,u]
   rw[f];clear f i;go_enter func50,ntmps50
   go_wp2_with fail
   refine(lN _ _ _).mono ?_;rintro e w1 ⟨rfl,hb⟩;have hE:Ext w w1:=Ext.trans (((Ext.refl _).alloc _).alloc _) hb;obtain⟨hc,hf⟩:=hb.cells;go_wp2;exact aB (v:= .tuple #[idv 0 0,lF 4]) (by simp[results,results50,go_sem,hc,lF]) rfl ⟨rfl,(hE.setCell ι _).setCell ι _⟩
  ·have f:om a b n l=(a,b+n,0):=by simp[om,i,u]
   rw[f];clear f i;go_enter func50,ntmps50
   go_wp2_with fail
   refine(lN _ _ _).mono ?_;rintro e w1 ⟨rfl,hb⟩;have hE:Ext w w1:=Ext.trans (((Ext.refl _).alloc _).alloc _) hb;obtain⟨hc,hf⟩:=hb.cells;go_wp2;exact aB (v:= .tuple #[idv a (b+n),lF 0]) (by simp[results,results50,go_sem,hc,lF]) rfl ⟨rfl,(hE.setCell ι _).setCell ι _⟩
theorem zC {a b n l x y:Int} (w:ae) (h:om a b n l=(x,y,0)) (z:0<=b) (u:b<=4294967295) (i: -9223372036854775808<=n) (f:n<=9223372036854775807) (q:0<=l) (j:l<=4294967295):
  aO pg 50 #[idv a b,Vi n,Vu l] w λe w'=>e= .returned (.tuple #[idv x y,.nilIface])/\Ext w w':=by
 have:=Eb a b n l w z u i f q j;rw[h] at this;exact this
theorem KA {a b n l x y c:Int} (w:ae) (h:om a b n l=(x,y,c)) (H:c≠0) (z:0<=b) (u:b<=4294967295) (i: -9223372036854775808<=n) (f:n<=9223372036854775807) (q:0<=l) (j:l<=4294967295):
  aO pg 50 #[idv a b,Vi n,Vu l] w λe w'=>e= .returned (.tuple #[idv x y,.iface 56 (.int .i64 c)])/\Ext w w':=by
 have:=Eb a b n l w z u i f q j;rw[h] at this;simp only[lF,if_neg H] at this;exact this
def qm (l:List UInt8):Nat:=Lib.leNat (l.take 8)
theorem qH (l:List UInt8):qm l<18446744073709551616:=by
 have h:=Lib.leNat_lt (l.take 8);refine aV h ?_
 calc 256^(l.take 8).length<=256^8:=Nat.pow_le_pow_right ω (by rw[bv];omega)
  _=18446744073709551616:=by rfl
theorem pJ {l:List UInt8} (h:8<=l.length):qm l&&&9259542123273814144=0↔∀b∈l.take 8,b.toNat<128:=by
 have a:(l.take 8).length=8:=by rw[bv];omega
 have:=Lib.leNat_mask (l.take 8);rw[a,Lib.maskN8] at this;exact this
theorem Xp (b o n c:Nat) (l:List UInt8) (w:ae) (a:Bys w (some ⟨b,o,none⟩) l) (j:l.length=n) (u:8<=n) (hn:n<=12000000):
  aO pg 213 #[.slice (some ⟨b,o,none⟩) n c] w λe w'=>e= .returned (.int .u64 (qm l))/\∃q,w'=w.drewN q:=by
 have c0:=a.all 0 ω;have c1:=a.all 1 ω;have c2:=a.all 2 ω;have c3:=a.all 3 ω;have c4:=a.all 4 ω;have c5:=a.all 5 ω;have c6:=a.all 6 ω;have c7:=a.all 7 ω;rw[Nat.add_zero] at c0;have i:qm l=Lib.leNat [l.getD 0 0,l.getD 1 0,l.getD 2 0,l.getD 3 0,l.getD 4 0,l.getD 5 0,l.getD 6 0,l.getD 7 0]:=by
  unfold qm;subst j
  match l,u with
  |a0::a1::a2::a3::a4::a5::a6::a7::r,_=>simp
 rw[i];clear i a j;have O:=(l.getD 0 0).toNat_lt;have N:=(l.getD 1 0).toNat_lt;have M:=(l.getD 2 0).toNat_lt;have K:=(l.getD 3 0).toNat_lt;have J:=(l.getD 4 0).toNat_lt;have I:=(l.getD 5 0).toNat_lt;have H:=(l.getD 6 0).toNat_lt;have z:=(l.getD 7 0).toNat_lt;generalize l.getD 0 0=x0 at*;generalize l.getD 1 0=x1 at*;generalize l.getD 2 0=x2 at*;generalize l.getD 3 0=x3 at*;generalize l.getD 4 0=x4 at*;generalize l.getD 5 0=x5 at*;generalize l.getD 6 0=x6 at*;generalize l.getD 7 0=f at*;have hv:((Lib.leNat [x0,x1,x2,x3,x4,x5,x6,f]:Nat):Int)=(x0.toNat:Int)+(x1.toNat:Int)*256+(x2.toNat:Int)*65536+(x3.toNat:Int)*16777216+(x4.toNat:Int)*4294967296+(x5.toNat:Int)*1099511627776+(x6.toNat:Int)*281474976710656+(f.toNat:Int)*72057594037927936:=by
  simp only[Lib.leNat]
  push_cast
  omega
 go_enter func213,ntmps213;go_wp2
 go_quiet(fail)
 go_wp2;go_ret;refine⟨?_,_,rfl⟩;simp (disch:=omega) only[u64_wrap_id,u64_or8,u64_or16,u64_or24,u64_or32,u64_or40,u64_or48,u64_or56];rw[hv];rfl
structure TSb (S:Nat->Prop) (W W':ae):Prop where
 os:W'.os=W.os
 tape:W'.tape=W.tape
 output:W'.output=W.output
 size:W.heap.size<=W'.heap.size
 block:∀k,k<W.heap.size->¬S k->W'.heap[k]? =W.heap[k]?
theorem TSb.refl (S:Nat->Prop) (W:ae):TSb S W W:=⟨rfl,rfl,rfl,am _,λ_ _ _=>rfl⟩
theorem TSb.trans {S T:Nat->Prop} {a b c:ae} (h:TSb S a b) (k:TSb T b c) (i:∀j,j<a.heap.size->T j->S j):TSb S a c:=
 ⟨k.os.trans h.os,k.tape.trans h.tape,k.output.trans h.output,az h.size k.size,λj f hn=>(k.block j (aV f h.size) λe=>hn (i j f e)).trans (h.block j f hn)⟩
theorem TSb.ext {S:Nat->Prop} {a b:ae} (h:Ext a b):TSb S a b:=⟨ef h,dS h,dI h,h.size,λk e _=>av h k e⟩
theorem TSb.down {S:Nat->Prop} {w0 W W':ae} (h:TSb S W W') (a:Ext w0 W) (hS:∀k,S k->w0.heap.size<=k):Ext w0 W':=
 ⟨h.os.trans (ef a),h.tape.trans (dS a),h.output.trans (dI a),az a.size h.size,λk f=>(h.block k (aV f a.size) λe=>by have:=hS k e;omega).trans (av a k f)⟩
abbrev Vs (l:List UInt8):au:= .string ⟨l.toArray⟩
end Go.Proofs.YtncfhbpejchbfaaGreatDoor

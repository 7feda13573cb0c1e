/-
  Lemmas of this seat; no claim.
-/
import Derived.Test.YtejbpijamdlgcaaGreatDoorClnP
import Derived.KernelRfl
import Derived.Laws.Entries
set_option linter.unusedVariables false
set_option linter.unusedSimpArgs false
open Bool renaming false_eq_true→mh
open Go.IntKind renaming u64→jN
open Int renaming le_refl→jH
open List renaming cons_append→aV,drop_eq_getElem_cons→dY,getElem?_eq_some_iff→aF,length_append→ay,length_cons→aH,length_drop→bP,length_nil→aR,length_take→bN,length→jI,mem_append→aZ,mem_cons→aS,take_add_one→cZ
open Nat renaming le_refl→aD
open Option renaming map_some→kQ
open Option.some renaming injEq→bJ
namespace Go.Proofs.YtejbpijamdlgcaaGreatDoor
section
structure En where
 c:Int
 k:Int
 ch:Int
 g:Bool
def qY (x:En) (c k:Int):Bool:=decide (x.c=c/\x.k=k)
def pI:List En->Int->Int->Option Nat
 |[],_,_=>none
 |x::l,c,k=>if qY x c k then some 0 else(pI l c k).map (· +1)
def ET (l:List En) (c k:Int):Bool:=l.any λx=>qY x c k
def pq (i:Nat):List En->List Nat
 |[]=>[]
 |x::l=>if x.g then pq (i+1) l else i::pq (i+1) l
def om (l:List En):List Nat:=pq 0 l
def apart:List En->Bool
 |[]=>true
 |x::l=> !ET l x.c x.k&&apart l
def DR (l:List En) (at':Nat) (x:En):List En:=l.take at'++[x]++l.drop at'
def Hr (l:List En) (c k:Int):List En:=l.map λx=>if qY x c k then{ x with g:=true } else x
variable {c k:Int} {i:Nat} {l:List En} {x:En}
theorem Di:pI l c k=none↔ET l c k=false:=by
 induction l with
 |nil=>simp[pI,ET]
 |cons x l ih=>
  simp only[pI,ET,List.any_cons];cases h:qY x c k with
  |true=>simp
  |false=>
   simp only[mh,if_false,Option.map_eq_none_iff,Bool.false_or];exact ih
theorem M8 (h:pI l c k=some i):∃x,l[i]? =some x/\qY x c k=true:=by
 induction l generalizing i with
 |nil=>cases h
 |cons x l ih=>
  rw[pI] at h;cases a:qY x c k with
  |true=>
   rw[a,if_pos rfl] at h;injection h with h;subst h;exact⟨x,rfl,a⟩
  |false=>
   rw[a,if_neg ι] at h;cases e:pI l c k with
   |none=>rw[e] at h;cases h
   |some j=>
    rw[e] at h;simp only[kQ,bJ] at h;subst h;obtain⟨y,q,f⟩:=ih e;exact⟨y,by simpa using q,f⟩
theorem VZ (h:pI l c k=some i):i<l.length:=by
 obtain⟨x,a,_⟩:=M8 h;exact(aF.1 a).1
theorem Yn (a:l[i]? =some x) (h:qY x c k=false):pI (l.drop i) c k=(pI (l.drop (i+1)) c k).map (· +1):=by
 obtain⟨hi,e⟩:=aF.1 a;rw[dY hi,e,pI,h,if_neg ι]
theorem Ym (a:l[i]? =some x) (h:qY x c k=true):pI (l.drop i) c k=some 0:=by
 obtain⟨hi,e⟩:=aF.1 a;rw[dY hi,e,pI,h,if_pos rfl]
theorem SN (a:l[i]? =some x):pq i (l.drop i)=if x.g then pq (i+1) (l.drop (i+1)) else i::pq (i+1) (l.drop (i+1)):=by
 obtain⟨hi,e⟩:=aF.1 a;rw[dY hi,e,pq]
theorem zm:∀(l:List En) (i:Nat),∀p∈pq i l,i<=p/\p<i+l.length
 |[],i,p,h=>by simp[pq] at h
 |x::l,i,p,h=>by
  rw[aH];rw[pq] at h
  split at h
  ·have:=zm l (i+1) p h;omega
  ·rcases aS.1 h with rfl|h
   ·omega
   ·have:=zm l (i+1) p h;omega
theorem rO:∀(l:List En) (i:Nat),(pq i l).length<=l.length
 |[],i=>by simp[pq]
 |x::l,i=>by
  have:=rO l (i+1);rw[pq]
  split <;> simp <;> omega
end
section
variable {l:List En}
theorem ES {c k:Int}:ET l c k=true↔∃x∈l,qY x c k=true:=by unfold ET;exact List.any_eq_true
theorem Vm {p:Nat} {x:En} (a:p<=l.length):(DR l p x).length=l.length+1:=by
 simp only[DR,ay,bN,bP,aH,aR];omega
theorem Gv {c k:Int}:ET l c k=false↔∀x∈l,qY x c k=false:=by
 unfold ET;rw[List.any_eq_false];constructor
 ·intro h x a;simpa using h x a
 ·intro h x a;simpa using h x a
theorem Ri:∀{l:List En} {c k:Int} {q:Nat} {x:En},apart l=true->pI l c k=some q->l[q]? =some x->Hr l c k=l.set q { x with g:=true }
 |[],_,_,_,_,_,h,_=>by cases h
 |y::l,c,k,q,x,ha,hf,hx=>by
  rw[apart,Bool.and_eq_true,Bool.not_eq_true'] at ha;rw[pI] at hf;cases e:qY y c k with
  |true=>
   rw[e,if_pos rfl] at hf;injection hf with hf;subst hf;have i:y=x:=by simpa using hx
   subst i;show(if qY y c k then{ y with g:=true } else y)::Hr l c k=_;rw[e,if_pos rfl,List.set_cons_zero]
   congr 1
   have H:∀z∈l,qY z c k=false:=by
        intro z f;have u:=Gv.1 ha.1 z f;unfold qY at e u⊢;rw[decide_eq_true_eq] at e;rw[decide_eq_false_iff_not] at u⊢;omega
   unfold Hr
   conv=>rhs;rw[<-List.map_id l]
   refine List.map_congr_left λz f=>?_
   rw[H z f];rfl
  |false=>
   rw[e,if_neg ι] at hf;cases a:pI l c k with
   |none=>rw[a] at hf;cases hf
   |some j=>
    rw[a] at hf;simp only[kQ,bJ] at hf;subst hf;have ih:=Ri ha.2 a (show l[j]? =some x by simpa using hx);show(if qY y c k then{ y with g:=true } else y)::Hr l c k=_;rw[e,if_neg ι,List.set_cons_succ,ih]
end
def qG (c k:Int):Int:=bits Go.BinOp.or jN (jN.wrap (jN.wrap c*4294967296)) (jN.wrap k)
def wQ (x:En):Int:=qG x.c x.k
inductive Tr
 |leaf (l:List En)
 |node (a b:Tr)
def ents:Tr->List En
 | .leaf l=>l
 | .node a b=>ents a++ents b
def htT:Tr->Nat
 | .leaf _=>0
 | .node a b=>max (htT a) (htT b)+1
def okR:Tr->Prop
 | .leaf l=>l≠[]
 | .node a b=>okR a/\okR b
def cnt (t:Tr):Nat:=(ents t).length
def shw (t:Tr):Nat:=(om (ents t)).length
def loL:List En->Int
 |[]=>0
 |x::l=>l.foldl (λm y=>min m (wQ y)) (wQ x)
def hiL:List En->Int
 |[]=>0
 |x::l=>l.foldl (λm y=>max m (wQ y)) (wQ x)
def loT:Tr->Int
 | .leaf l=>loL l
 | .node a b=>min (loT a) (loT b)
def hiT:Tr->Int
 | .leaf l=>hiL l
 | .node a b=>max (hiT a) (hiT b)
theorem Ot:∀{t:Tr},okR t->0<cnt t
 | .leaf l,h=>List.length_pos_iff.2 h
 | .node a b,h=>by
   have:=Ot h.1;simp only[cnt,ents,ay] at this⊢;omega
theorem qz (a b:Tr):cnt (.node a b)=cnt a+cnt b:=by simp[cnt,ents]
theorem MX:∀{t:Tr},okR t->htT t<cnt t
 | .leaf l,h=>Ot h
 | .node a b,h=>by
   have f:=MX h.1;have e:=MX h.2;rw[qz];show max (htT a) (htT b)+1<_;omega
theorem I8:∀(l:List En) (i j:Nat),(pq i l).length=(pq j l).length
 |[],i,j=>rfl
 |x::l,i,j=>by
  have:=I8 l (i+1) (j+1);rw[pq,pq]
  split <;> simp[this]
theorem vZ:∀(l m:List En) (i:Nat),pq i (l++m)=pq i l++pq (i+l.length) m
 |[],m,i=>by simp[pq]
 |x::l,m,i=>by
  rw[aV,pq,pq,vZ l m (i+1),show i+1+l.length=i+(x::l).length by simp;omega]
  split <;> simp
theorem I7:∀(l:List En) (i j:Nat),pq (i+j) l=(pq i l).map (· +j)
 |[],i,j=>by simp[pq]
 |x::l,i,j=>by
  rw[pq,pq,show i+j+1=i+1+j by omega,I7 l (i+1) j]
  split <;> simp
theorem ZA (a b:Tr):shw (.node a b)=shw a+shw b:=by
 unfold shw om;rw[ents,vZ,ay,I8 (ents b) (0+(ents a).length) 0]
theorem N7 (t:Tr):shw t<=cnt t:=rO _ _
theorem SS (a b:Tr) (k:Nat):(om (ents (.node a b)))[k]? =if k<shw a then(om (ents a))[k]? else((om (ents b))[k-shw a]?).map (λq=>cnt a+q):=by
 have e:pq (0+(ents a).length) (ents b)=(pq 0 (ents b)).map (· +(ents a).length):=I7 _ _ _;unfold om shw cnt;rw[ents,vZ,e,List.getElem?_append,om]
 split
 ·rfl
 ·rw[List.getElem?_map]
  congr 1
  funext q
  omega
theorem yO:∀(l m:List En) (c k:Int),pI (l++m) c k=match pI l c k with
  |some i=>some i
  |none=>(pI m c k).map (λq=>l.length+q)
 |[],m,c,k=>by
  simp[pI]
 |x::l,m,c,k=>by
  rw[aV,pI,pI,yO l m c k];cases qY x c k with
  |true=>rfl
  |false=>
   simp only[mh,if_false];cases pI l c k with
   |some i=>rfl
   |none=>
    cases pI m c k with
    |none=>rfl
    |some j=>simp;omega
theorem aay {x:En} {c k:Int} (h:qY x c k=true):wQ x=qG c k:=by
 unfold qY at h;rw[decide_eq_true_eq] at h;unfold wQ;rw[h.1,h.2]
theorem QF:∀(l:List En) (m:Int),l.foldl (λm y=>min m (wQ y)) m<=m/\∀x∈l,l.foldl (λm y=>min m (wQ y)) m<=wQ x
 |[],m=>⟨jH _,λx h=>by cases h⟩
 |y::l,m=>by
  obtain⟨f,e⟩:=QF l (min m (wQ y));rw[List.foldl_cons];refine⟨ω,λx a=>?_⟩;rcases aS.1 a with rfl|a
  ·omega
  ·exact e x a
theorem QL:∀(l:List En) (m:Int),m<=l.foldl (λm y=>max m (wQ y)) m/\∀x∈l,wQ x<=l.foldl (λm y=>max m (wQ y)) m
 |[],m=>⟨jH _,λx h=>by cases h⟩
 |y::l,m=>by
  obtain⟨f,e⟩:=QL l (max m (wQ y));rw[List.foldl_cons];refine⟨ω,λx a=>?_⟩;rcases aS.1 a with rfl|a
  ·omega
  ·exact e x a
theorem afz {l:List En} {x:En} (a:x∈l):loL l<=wQ x:=by
 cases l with
 |nil=>cases a
 |cons y l=>
  obtain⟨f,e⟩:=QF l (wQ y);rcases aS.1 a with rfl|a
  ·exact f
  ·exact e x a
theorem af3 {l:List En} {x:En} (a:x∈l):wQ x<=hiL l:=by
 cases l with
 |nil=>cases a
 |cons y l=>
  obtain⟨f,e⟩:=QL l (wQ y);rcases aS.1 a with rfl|a
  ·exact f
  ·exact e x a
theorem lo_le:∀{t:Tr} {x:En},x∈ents t->loT t<=wQ x
 | .leaf l,x,h=>afz h
 | .node a b,x,h=>by
   have e:loT (.node a b)=min (loT a) (loT b):=rfl;rcases aZ.1 h with h|h
   ·have:=lo_le h;omega
   ·have:=lo_le h;omega
theorem aaT:∀{t:Tr} {x:En},x∈ents t->wQ x<=hiT t
 | .leaf l,x,h=>af3 h
 | .node a b,x,h=>by
   have e:hiT (.node a b)=max (hiT a) (hiT b):=rfl;rcases aZ.1 h with h|h
   ·have:=aaT h;omega
   ·have:=aaT h;omega
theorem RJ {t:Tr} {c k:Int} (h:qG c k<loT t\/hiT t<qG c k):pI (ents t) c k=none:=by
 rw[Di,Gv];intro x a;cases f:qY x c k with
 |false=>rfl
 |true=>
  have e:=aay f;have j:=lo_le a;have i:=aaT a;omega
theorem aap {l:List En} {i:Nat} {x:En} (a:l[i]? =some x) (e:0<i):loL (l.take (i+1))=min (loL (l.take i)) (wQ x):=by
 rw[cZ,a];cases l with
 |nil=>simp at a
 |cons y l=>
  obtain⟨j,rfl⟩:∃j,i=j+1:=⟨i-1,ω⟩;simp[loL,List.foldl_append]
theorem aaU {l:List En} {i:Nat} {x:En} (a:l[i]? =some x) (e:0<i):hiL (l.take (i+1))=max (hiL (l.take i)) (wQ x):=by
 rw[cZ,a];cases l with
 |nil=>simp at a
 |cons y l=>
  obtain⟨j,rfl⟩:∃j,i=j+1:=⟨i-1,ω⟩;simp[hiL,List.foldl_append]
theorem XC {l:List En} {x:En} (a:l[0]? =some x):loL (l.take 1)=wQ x/\hiL (l.take 1)=wQ x:=by
 cases l with
 |nil=>simp at a
 |cons y l=>
  obtain rfl:y=x:=by simpa using a
  exact⟨rfl,rfl⟩
theorem SL {l:List En} {i:Nat} {x:En} (a:l[i]? =some x):(om (l.take (i+1))).length=(om (l.take i)).length+(if x.g then 0 else 1):=by
 rw[cZ,a];unfold om;rw[vZ,ay]
 congr 1
 show(pq _ [x]).length=_;rw[pq]
 split <;> simp[pq]
def rT (l:List En):Tr:=
 if h:l.length<=16 then .leaf l else .node (rT (l.take (l.length/2))) (rT (l.drop (l.length/2)))
termination_by l.length
decreasing_by
 ·rw[bN];omega
 ·rw[bP];omega
theorem F5:∀(n:Nat) (l:List En),l.length<=n->ents (rT l)=l
 |0,l,h=>by rw[rT,dif_pos ω];rfl
 |n+1,l,h=>by
  rw[rT]
  split
  ·rfl
  ·rw[ents,F5 n (l.take (l.length/2)) (by rw[bN];omega),F5 n (l.drop (l.length/2)) (by rw[bP];omega),List.take_append_drop]
theorem Gx (l:List En):ents (rT l)=l:=F5 _ l (aD _)
theorem Jr:∀(n:Nat) (l:List En),l.length<=n->l≠[]->okR (rT l)
 |0,l,h,h0=>absurd (List.length_eq_zero_iff.1 ω) h0
 |n+1,l,h,h0=>by
  rw[rT]
  split
  ·exact h0
  ·refine⟨Jr n _ (by rw[bN];omega) ?_,Jr n _ (by rw[bP];omega) ?_⟩
   ·intro e
    have:=congrArg jI e;rw[bN,aR] at this;omega
   ·intro e
    have:=congrArg jI e;rw[bP,aR] at this;omega
theorem Oq {l:List En} (h:l≠[]):okR (rT l):=Jr _ l (aD _) h
theorem Jq {l:List En} (h:l.length<=16):rT l= .leaf l:=by rw[rT,dif_pos h]
theorem ZX {l:List En} (h:16<l.length):rT l= .node (rT (l.take (l.length/2))) (rT (l.drop (l.length/2))):=by rw[rT,dif_neg ω]
def wO (a b:Tr):Tr:=match a with
 | .leaf _=> .node a b
 | .node x y=>if htT y<=htT x then .node x (.node y b) else match y with
   | .leaf _=> .node a b
   | .node y1 y2=> .node (.node x y1) (.node y2 b)
def wP (a b:Tr):Tr:=match b with
 | .leaf _=> .node a b
 | .node x y=>if htT x<=htT y then .node (.node a x) y else match x with
   | .leaf _=> .node a b
   | .node x1 x2=> .node (.node a x1) (.node x2 y)
def xX (a b:Tr):Tr:=if htT b+1<htT a then wO a b else if htT a+1<htT b then wP a b else .node a b
theorem QT (a b:Tr):ents (wO a b)=ents a++ents b:=by
 unfold wO
 split
 ·rfl
 ·split
  ·simp[ents]
  ·split
   ·rfl
   ·simp[ents]
theorem QU (a b:Tr):ents (wP a b)=ents a++ents b:=by
 unfold wP
 split
 ·rfl
 ·split
  ·simp[ents]
  ·split
   ·rfl
   ·simp[ents]
theorem Sl (a b:Tr):ents (xX a b)=ents a++ents b:=by
 unfold xX
 split
 ·exact QT a b
 ·split
  ·exact QU a b
  ·rfl
theorem XI {a b:Tr} (e:okR a) (f:okR b):okR (wO a b):=by
 unfold wO
 split
 ·exact⟨e,f⟩
 ·split
  ·exact⟨e.1,e.2,f⟩
  ·split
   ·exact⟨e,f⟩
   ·exact⟨⟨e.1,e.2.1⟩,e.2.2,f⟩
theorem XL {a b:Tr} (f:okR a) (e:okR b):okR (wP a b):=by
 unfold wP
 split
 ·exact⟨f,e⟩
 ·split
  ·exact⟨⟨f,e.1⟩,e.2⟩
  ·split
   ·exact⟨f,e⟩
   ·exact⟨⟨f,e.1.1⟩,e.1.2,e.2⟩
theorem ab9 {a b:Tr} (f:okR a) (e:okR b):okR (xX a b):=by
 unfold xX
 split
 ·exact XI f e
 ·split
  ·exact XL f e
  ·exact⟨f,e⟩
def tQ:Tr->Nat->En->Tr
 | .leaf l,p,x=>rT (DR l p x)
 | .node a b,p,x=>if p<=cnt a then xX (tQ a p x) b else xX a (tQ b (p-cnt a) x)
theorem zW:∀(t:Tr) (p:Nat) (x:En),p<=cnt t->ents (tQ t p x)=DR (ents t) p x
 | .leaf l,p,x,h=>Gx _
 | .node a b,p,x,h=>by
   rw[qz] at h;rw[tQ];have e:cnt a=(ents a).length:=rfl
   split
   ·rename_i f
    rw[Sl,zW a p x f];unfold DR;rw[ents,List.take_append_of_le_length ω,List.drop_append_of_le_length ω];simp
   ·rename_i f
    rw[Sl,zW b _ x ω];unfold DR;rw[ents,List.take_append,List.drop_append,List.take_of_length_le (l:=ents a) ω,List.drop_eq_nil_of_le (as:=ents a) ω,e];simp
theorem acX (l:List En) (p:Nat) (x:En):DR l p x≠[]:=by unfold DR;simp
theorem Bv:∀(t:Tr) (p:Nat) (x:En),t= .leaf []\/okR t->okR (tQ t p x)
 | .leaf l,p,x,h=>Oq (acX _ _ _)
 | .node a b,p,x,h=>by
   rcases h with h|h
   ·cases h
   ·rw[tQ]
    split
    ·exact ab9 (Bv a p x (.inr h.1)) h.2
    ·exact ab9 h.1 (Bv b _ x (.inr h.2))
theorem LZ (t:Tr) (p:Nat) (x:En) (h:p<=cnt t):cnt (tQ t p x)=cnt t+1:=by
 unfold cnt;rw[zW t p x h,Vm h]
def BX (l:List En) (q:Nat):List En:=match l[q]? with
 |some x=>l.set q { x with g:=true }
 |none=>l
def rH:Tr->Nat->Tr
 | .leaf l,q=> .leaf (BX l q)
 | .node a b,q=>if q<cnt a then .node (rH a q) b else .node a (rH b (q-cnt a))
theorem Rx (l:List En) (q:Nat):(BX l q).length=l.length:=by
 unfold BX
 split <;> simp
theorem Hu (l m:List En) (q:Nat):BX (l++m) q=if q<l.length then BX l q++m else l++BX m (q-l.length):=by
 by_cases h:q<l.length
 ·rw[if_pos h]
  unfold BX;rw[List.getElem?_append_left h];cases a:l[q]? with
  |none=>rfl
  |some x=>
   show(l++m).set q _=l.set q _++m;rw[List.set_append,if_pos h]
 ·rw[if_neg h]
  unfold BX;rw[List.getElem?_append_right ω];cases a:m[q-l.length]? with
  |none=>rfl
  |some x=>
   show(l++m).set q _=l++m.set _ _;rw[List.set_append,if_neg h]
theorem yN:∀(t:Tr) (q:Nat),ents (rH t q)=BX (ents t) q
 | .leaf l,q=>rfl
 | .node a b,q=>by
   rw[rH];have e:cnt a=(ents a).length:=rfl
   split
   ·rename_i f
    rw[ents,ents,yN a q,Hu,if_pos ω]
   ·rename_i f
    rw[ents,ents,yN b _,Hu,if_neg ω,e]
theorem J5 (t:Tr) (q:Nat):cnt (rH t q)=cnt t:=by unfold cnt;rw[yN,Rx]
theorem zK:∀(t:Tr) (q:Nat),okR t->okR (rH t q)
 | .leaf l,q,h=>by
   intro e;have:=congrArg jI e;rw[Rx] at this;simp at this;exact h this
 | .node a b,q,h=>by
   rw[rH]
   split
   ·exact⟨zK a q h.1,h.2⟩
   ·exact⟨h.1,zK b _ h.2⟩
theorem Rw {l:List En} {q:Nat} {x:En} (a:l[q]? =some x):BX l q=l.set q { x with g:=true }:=by
 unfold BX;rw[a]
end Go.Proofs.YtejbpijamdlgcaaGreatDoor

/-
  Lemmas of this seat; no claim.
-/
import Derived.Test.YtncfhbpejchbfaaGreatDoorClnP
import Derived.KernelRfl
import Derived.Laws.Entries
set_option linter.unusedVariables false
set_option linter.unusedSimpArgs false
open Bool renaming false_eq_true→iy
open Go.IntKind renaming u64→fJ
open Int renaming le_refl→fy
open List renaming cons_append→aJ,drop_eq_getElem_cons→dJ,getElem?_eq_some_iff→aq,length_append→ag,length_cons→ar,length_drop→bk,length_nil→aG,length_take→bv,length→fC,mem_append→aA,mem_cons→aE,take_add_one→bG
open Nat renaming le_refl→am
open Option renaming map_some→gF
open Option.some renaming injEq→aL
namespace Go.Proofs.YtncfhbpejchbfaaGreatDoor
section
structure En where
 c:Int
 k:Int
 ch:Int
 g:Bool
def mJ (x:En) (c k:Int):Bool:=decide (x.c=c/\x.k=k)
def jY:List En->Int->Int->Option Nat
 |[],_,_=>none
 |x::l,c,k=>if mJ x c k then some 0 else(jY l c k).map (· +1)
def BS (l:List En) (c k:Int):Bool:=l.any λx=>mJ x c k
def jU (i:Nat):List En->List Nat
 |[]=>[]
 |x::l=>if x.g then jU (i+1) l else i::jU (i+1) l
def jC (l:List En):List Nat:=jU 0 l
def apart:List En->Bool
 |[]=>true
 |x::l=> !BS l x.c x.k&&apart l
def zY (l:List En) (at':Nat) (x:En):List En:=l.take at'++[x]++l.drop at'
def EA (l:List En) (c k:Int):List En:=l.map λx=>if mJ x c k then{ x with g:=true } else x
variable {c k:Int} {i:Nat} {l:List En} {x:En}
theorem zA:jY l c k=none↔BS l c k=false:=by
 induction l with
 |nil=>simp[jY,BS]
 |cons x l ih=>
  simp only[jY,BS,List.any_cons];cases h:mJ x c k with
  |true=>simp
  |false=>
   simp only[iy,if_false,Option.map_eq_none_iff,Bool.false_or];exact ih
theorem JZ (h:jY l c k=some i):∃x,l[i]? =some x/\mJ x c k=true:=by
 induction l generalizing i with
 |nil=>cases h
 |cons x l ih=>
  rw[jY] at h;cases a:mJ x c k with
  |true=>
   rw[a,if_pos rfl] at h;injection h with h;subst h;exact⟨x,rfl,a⟩
  |false=>
   rw[a,if_neg ι] at h;cases e:jY l c k with
   |none=>rw[e] at h;cases h
   |some j=>
    rw[e] at h;simp only[gF,aL] at h;subst h;obtain⟨y,q,f⟩:=ih e;exact⟨y,by simpa using q,f⟩
theorem TN (h:jY l c k=some i):i<l.length:=by
 obtain⟨x,a,_⟩:=JZ h;exact(aq.1 a).1
theorem Wu (a:l[i]? =some x) (h:mJ x c k=false):jY (l.drop i) c k=(jY (l.drop (i+1)) c k).map (· +1):=by
 obtain⟨hi,e⟩:=aq.1 a;rw[dJ hi,e,jY,h,if_neg ι]
theorem Ws (a:l[i]? =some x) (h:mJ x c k=true):jY (l.drop i) c k=some 0:=by
 obtain⟨hi,e⟩:=aq.1 a;rw[dJ hi,e,jY,h,if_pos rfl]
theorem Qp (a:l[i]? =some x):jU i (l.drop i)=if x.g then jU (i+1) (l.drop (i+1)) else i::jU (i+1) (l.drop (i+1)):=by
 obtain⟨hi,e⟩:=aq.1 a;rw[dJ hi,e,jU]
theorem Bt:∀(l:List En) (i:Nat),∀p∈jU i l,i<=p/\p<i+l.length
 |[],i,p,h=>by simp[jU] at h
 |x::l,i,p,h=>by
  rw[ar];rw[jU] at h
  split at h
  ·have:=Bt l (i+1) p h;omega
  ·rcases aE.1 h with rfl|h
   ·omega
   ·have:=Bt l (i+1) p h;omega
theorem pV:∀(l:List En) (i:Nat),(jU i l).length<=l.length
 |[],i=>by simp[jU]
 |x::l,i=>by
  have:=pV l (i+1);rw[jU]
  split <;> simp <;> omega
end
section
variable {l:List En}
theorem MF {c k:Int}:BS l c k=true↔∃x∈l,mJ x c k=true:=by unfold BS;exact List.any_eq_true
theorem SL {p:Nat} {x:En} (a:p<=l.length):(zY l p x).length=l.length+1:=by
 simp only[zY,ag,bv,bk,ar,aG];omega
theorem DU {c k:Int}:BS l c k=false↔∀x∈l,mJ x c k=false:=by
 unfold BS;rw[List.any_eq_false];constructor
 ·intro h x a;simpa using h x a
 ·intro h x a;simpa using h x a
theorem OY:∀{l:List En} {c k:Int} {q:Nat} {x:En},apart l=true->jY l c k=some q->l[q]? =some x->EA l c k=l.set q { x with g:=true }
 |[],_,_,_,_,_,h,_=>by cases h
 |y::l,c,k,q,x,ha,hf,hx=>by
  rw[apart,Bool.and_eq_true,Bool.not_eq_true'] at ha;rw[jY] at hf;cases e:mJ y c k with
  |true=>
   rw[e,if_pos rfl] at hf;injection hf with hf;subst hf;have i:y=x:=by simpa using hx
   subst i;show(if mJ y c k then{ y with g:=true } else y)::EA l c k=_;rw[e,if_pos rfl,List.set_cons_zero]
   congr 1
   have hn:∀z∈l,mJ z c k=false:=by
        intro z f;have u:=DU.1 ha.1 z f;unfold mJ at e u⊢;rw[decide_eq_true_eq] at e;rw[decide_eq_false_iff_not] at u⊢;omega
   unfold EA
   conv=>rhs;rw[<-List.map_id l]
   refine List.map_congr_left λz f=>?_
   rw[hn z f];rfl
  |false=>
   rw[e,if_neg ι] at hf;cases a:jY l c k with
   |none=>rw[a] at hf;cases hf
   |some j=>
    rw[a] at hf;simp only[gF,aL] at hf;subst hf;have ih:=OY ha.2 a (show l[j]? =some x by simpa using hx);show(if mJ y c k then{ y with g:=true } else y)::EA l c k=_;rw[e,if_neg ι,List.set_cons_succ,ih]
end
def lC (c k:Int):Int:=bits Go.BinOp.or fJ (fJ.wrap (fJ.wrap c*4294967296)) (fJ.wrap k)
def rW (x:En):Int:=lC x.c x.k
inductive Tr
 |leaf (l:List En)
 |node (a b:Tr)
def ents:Tr->List En
 | .leaf l=>l
 | .node a b=>ents a++ents b
def htT:Tr->Nat
 | .leaf _=>0
 | .node a b=>max (htT a) (htT b)+1
def okR:Tr->Prop
 | .leaf l=>l≠[]
 | .node a b=>okR a/\okR b
def cnt (t:Tr):Nat:=(ents t).length
def shw (t:Tr):Nat:=(jC (ents t)).length
def loL:List En->Int
 |[]=>0
 |x::l=>l.foldl (λm y=>min m (rW y)) (rW x)
def hiL:List En->Int
 |[]=>0
 |x::l=>l.foldl (λm y=>max m (rW y)) (rW x)
def loT:Tr->Int
 | .leaf l=>loL l
 | .node a b=>min (loT a) (loT b)
def hiT:Tr->Int
 | .leaf l=>hiL l
 | .node a b=>max (hiT a) (hiT b)
theorem Lr:∀{t:Tr},okR t->0<cnt t
 | .leaf l,h=>List.length_pos_iff.2 h
 | .node a b,h=>by
   have:=Lr h.1;simp only[cnt,ents,ag] at this⊢;omega
theorem kU (a b:Tr):cnt (.node a b)=cnt a+cnt b:=by simp[cnt,ents]
theorem JQ:∀{t:Tr},okR t->htT t<cnt t
 | .leaf l,h=>Lr h
 | .node a b,h=>by
   have f:=JQ h.1;have e:=JQ h.2;rw[kU];show max (htT a) (htT b)+1<_;omega
theorem FV:∀(l:List En) (i j:Nat),(jU i l).length=(jU j l).length
 |[],i,j=>rfl
 |x::l,i,j=>by
  have:=FV l (i+1) (j+1);rw[jU,jU]
  split <;> simp[this]
theorem qW:∀(l m:List En) (i:Nat),jU i (l++m)=jU i l++jU (i+l.length) m
 |[],m,i=>by simp[jU]
 |x::l,m,i=>by
  rw[aJ,jU,jU,qW l m (i+1),show i+1+l.length=i+(x::l).length by simp;omega]
  split <;> simp
theorem FU:∀(l:List En) (i j:Nat),jU (i+j) l=(jU i l).map (· +j)
 |[],i,j=>by simp[jU]
 |x::l,i,j=>by
  rw[jU,jU,show i+j+1=i+1+j by omega,FU l (i+1) j]
  split <;> simp
theorem Yc (a b:Tr):shw (.node a b)=shw a+shw b:=by
 unfold shw jC;rw[ents,qW,ag,FV (ents b) (0+(ents a).length) 0]
theorem KT (t:Tr):shw t<=cnt t:=pV _ _
theorem Qq (a b:Tr) (k:Nat):(jC (ents (.node a b)))[k]? =if k<shw a then(jC (ents a))[k]? else((jC (ents b))[k-shw a]?).map (λq=>cnt a+q):=by
 have e:jU (0+(ents a).length) (ents b)=(jU 0 (ents b)).map (· +(ents a).length):=FU _ _ _;unfold jC shw cnt;rw[ents,qW,e,List.getElem?_append,jC]
 split
 ·rfl
 ·rw[List.getElem?_map]
  congr 1
  funext q
  omega
theorem uP:∀(l m:List En) (c k:Int),jY (l++m) c k=match jY l c k with
  |some i=>some i
  |none=>(jY m c k).map (λq=>l.length+q)
 |[],m,c,k=>by
  simp[jY]
 |x::l,m,c,k=>by
  rw[aJ,jY,jY,uP l m c k];cases mJ x c k with
  |true=>rfl
  |false=>
   simp only[iy,if_false];cases jY l c k with
   |some i=>rfl
   |none=>
    cases jY m c k with
    |none=>rfl
    |some j=>simp;omega
theorem Y6 {x:En} {c k:Int} (h:mJ x c k=true):rW x=lC c k:=by
 unfold mJ at h;rw[decide_eq_true_eq] at h;unfold rW;rw[h.1,h.2]
theorem Om:∀(l:List En) (m:Int),l.foldl (λm y=>min m (rW y)) m<=m/\∀x∈l,l.foldl (λm y=>min m (rW y)) m<=rW x
 |[],m=>⟨fy _,λx h=>by cases h⟩
 |y::l,m=>by
  obtain⟨f,e⟩:=Om l (min m (rW y));rw[List.foldl_cons];refine⟨ω,λx a=>?_⟩;rcases aE.1 a with rfl|a
  ·omega
  ·exact e x a
theorem Ox:∀(l:List En) (m:Int),m<=l.foldl (λm y=>max m (rW y)) m/\∀x∈l,rW x<=l.foldl (λm y=>max m (rW y)) m
 |[],m=>⟨fy _,λx h=>by cases h⟩
 |y::l,m=>by
  obtain⟨f,e⟩:=Ox l (max m (rW y));rw[List.foldl_cons];refine⟨ω,λx a=>?_⟩;rcases aE.1 a with rfl|a
  ·omega
  ·exact e x a
theorem adR {l:List En} {x:En} (a:x∈l):loL l<=rW x:=by
 cases l with
 |nil=>cases a
 |cons y l=>
  obtain⟨f,e⟩:=Om l (rW y);rcases aE.1 a with rfl|a
  ·exact f
  ·exact e x a
theorem aen {l:List En} {x:En} (a:x∈l):rW x<=hiL l:=by
 cases l with
 |nil=>cases a
 |cons y l=>
  obtain⟨f,e⟩:=Ox l (rW y);rcases aE.1 a with rfl|a
  ·exact f
  ·exact e x a
theorem lo_le:∀{t:Tr} {x:En},x∈ents t->loT t<=rW x
 | .leaf l,x,h=>adR h
 | .node a b,x,h=>by
   have hm:loT (.node a b)=min (loT a) (loT b):=rfl;rcases aA.1 h with h|h
   ·have:=lo_le h;omega
   ·have:=lo_le h;omega
theorem Zm:∀{t:Tr} {x:En},x∈ents t->rW x<=hiT t
 | .leaf l,x,h=>aen h
 | .node a b,x,h=>by
   have hm:hiT (.node a b)=max (hiT a) (hiT b):=rfl;rcases aA.1 h with h|h
   ·have:=Zm h;omega
   ·have:=Zm h;omega
theorem Py {t:Tr} {c k:Int} (h:lC c k<loT t\/hiT t<lC c k):jY (ents t) c k=none:=by
 rw[zA,DU];intro x a;cases f:mJ x c k with
 |false=>rfl
 |true=>
  have e:=Y6 f;have j:=lo_le a;have i:=Zm a;omega
theorem YW {l:List En} {i:Nat} {x:En} (a:l[i]? =some x) (e:0<i):loL (l.take (i+1))=min (loL (l.take i)) (rW x):=by
 rw[bG,a];cases l with
 |nil=>simp at a
 |cons y l=>
  obtain⟨j,rfl⟩:∃j,i=j+1:=⟨i-1,ω⟩;simp[loL,List.foldl_append]
theorem Zn {l:List En} {i:Nat} {x:En} (a:l[i]? =some x) (e:0<i):hiL (l.take (i+1))=max (hiL (l.take i)) (rW x):=by
 rw[bG,a];cases l with
 |nil=>simp at a
 |cons y l=>
  obtain⟨j,rfl⟩:∃j,i=j+1:=⟨i-1,ω⟩;simp[hiL,List.foldl_append]
theorem Vr {l:List En} {x:En} (a:l[0]? =some x):loL (l.take 1)=rW x/\hiL (l.take 1)=rW x:=by
 cases l with
 |nil=>simp at a
 |cons y l=>
  obtain rfl:y=x:=by simpa using a
  exact⟨rfl,rfl⟩
theorem Qo {l:List En} {i:Nat} {x:En} (a:l[i]? =some x):(jC (l.take (i+1))).length=(jC (l.take i)).length+(if x.g then 0 else 1):=by
 rw[bG,a];unfold jC;rw[qW,ag]
 congr 1
 show(jU _ [x]).length=_;rw[jU]
 split <;> simp[jU]
def mX (l:List En):Tr:=
 if h:l.length<=16 then .leaf l else .node (mX (l.take (l.length/2))) (mX (l.drop (l.length/2)))
termination_by l.length
decreasing_by
 ·rw[bv];omega
 ·rw[bk];omega
theorem Dp:∀(n:Nat) (l:List En),l.length<=n->ents (mX l)=l
 |0,l,h=>by rw[mX,dif_pos ω];rfl
 |n+1,l,h=>by
  rw[mX]
  split
  ·rfl
  ·rw[ents,Dp n (l.take (l.length/2)) (by rw[bv];omega),Dp n (l.drop (l.length/2)) (by rw[bk];omega),List.take_append_drop]
theorem DW (l:List En):ents (mX l)=l:=Dp _ l (am _)
theorem Gp:∀(n:Nat) (l:List En),l.length<=n->l≠[]->okR (mX l)
 |0,l,h,h0=>absurd (List.length_eq_zero_iff.1 ω) h0
 |n+1,l,h,h0=>by
  rw[mX]
  split
  ·exact h0
  ·refine⟨Gp n _ (by rw[bv];omega) ?_,Gp n _ (by rw[bk];omega) ?_⟩
   ·intro e
    have:=congrArg fC e;rw[bv,aG] at this;omega
   ·intro e
    have:=congrArg fC e;rw[bk,aG] at this;omega
theorem Lp {l:List En} (h:l≠[]):okR (mX l):=Gp _ l (am _) h
theorem Gm {l:List En} (h:l.length<=16):mX l= .leaf l:=by rw[mX,dif_pos h]
theorem YB {l:List En} (h:16<l.length):mX l= .node (mX (l.take (l.length/2))) (mX (l.drop (l.length/2))):=by rw[mX,dif_neg ω]
def rU (a b:Tr):Tr:=match a with
 | .leaf _=> .node a b
 | .node x y=>if htT y<=htT x then .node x (.node y b) else match y with
   | .leaf _=> .node a b
   | .node y1 y2=> .node (.node x y1) (.node y2 b)
def rV (a b:Tr):Tr:=match b with
 | .leaf _=> .node a b
 | .node x y=>if htT x<=htT y then .node (.node a x) y else match x with
   | .leaf _=> .node a b
   | .node x1 x2=> .node (.node a x1) (.node x2 y)
def tQ (a b:Tr):Tr:=if htT b+1<htT a then rU a b else if htT a+1<htT b then rV a b else .node a b
theorem OC (a b:Tr):ents (rU a b)=ents a++ents b:=by
 unfold rU
 split
 ·rfl
 ·split
  ·simp[ents]
  ·split
   ·rfl
   ·simp[ents]
theorem OD (a b:Tr):ents (rV a b)=ents a++ents b:=by
 unfold rV
 split
 ·rfl
 ·split
  ·simp[ents]
  ·split
   ·rfl
   ·simp[ents]
theorem P7 (a b:Tr):ents (tQ a b)=ents a++ents b:=by
 unfold tQ
 split
 ·exact OC a b
 ·split
  ·exact OD a b
  ·rfl
theorem VD {a b:Tr} (e:okR a) (f:okR b):okR (rU a b):=by
 unfold rU
 split
 ·exact⟨e,f⟩
 ·split
  ·exact⟨e.1,e.2,f⟩
  ·split
   ·exact⟨e,f⟩
   ·exact⟨⟨e.1,e.2.1⟩,e.2.2,f⟩
theorem VG {a b:Tr} (f:okR a) (e:okR b):okR (rV a b):=by
 unfold rV
 split
 ·exact⟨f,e⟩
 ·split
  ·exact⟨⟨f,e.1⟩,e.2⟩
  ·split
   ·exact⟨f,e⟩
   ·exact⟨⟨f,e.1.1⟩,e.1.2,e.2⟩
theorem aaA {a b:Tr} (f:okR a) (e:okR b):okR (tQ a b):=by
 unfold tQ
 split
 ·exact VD f e
 ·split
  ·exact VG f e
  ·exact⟨f,e⟩
def og:Tr->Nat->En->Tr
 | .leaf l,p,x=>mX (zY l p x)
 | .node a b,p,x=>if p<=cnt a then tQ (og a p x) b else tQ a (og b (p-cnt a) x)
theorem wN:∀(t:Tr) (p:Nat) (x:En),p<=cnt t->ents (og t p x)=zY (ents t) p x
 | .leaf l,p,x,h=>DW _
 | .node a b,p,x,h=>by
   rw[kU] at h;rw[og];have e:cnt a=(ents a).length:=rfl
   split
   ·rename_i f
    rw[P7,wN a p x f];unfold zY;rw[ents,List.take_append_of_le_length ω,List.drop_append_of_le_length ω];simp
   ·rename_i f
    rw[P7,wN b _ x ω];unfold zY;rw[ents,List.take_append,List.drop_append,List.take_of_length_le (l:=ents a) ω,List.drop_eq_nil_of_le (as:=ents a) ω,e];simp
theorem abg (l:List En) (p:Nat) (x:En):zY l p x≠[]:=by unfold zY;simp
theorem xW:∀(t:Tr) (p:Nat) (x:En),t= .leaf []\/okR t->okR (og t p x)
 | .leaf l,p,x,h=>Lp (abg _ _ _)
 | .node a b,p,x,h=>by
   rcases h with h|h
   ·cases h
   ·rw[og]
    split
    ·exact aaA (xW a p x (.inr h.1)) h.2
    ·exact aaA h.1 (xW b _ x (.inr h.2))
theorem Jq (t:Tr) (p:Nat) (x:En) (h:p<=cnt t):cnt (og t p x)=cnt t+1:=by
 unfold cnt;rw[wN t p x h,SL h]
def yK (l:List En) (q:Nat):List En:=match l[q]? with
 |some x=>l.set q { x with g:=true }
 |none=>l
def mO:Tr->Nat->Tr
 | .leaf l,q=> .leaf (yK l q)
 | .node a b,q=>if q<cnt a then .node (mO a q) b else .node a (mO b (q-cnt a))
theorem Pg (l:List En) (q:Nat):(yK l q).length=l.length:=by
 unfold yK
 split <;> simp
theorem EC (l m:List En) (q:Nat):yK (l++m) q=if q<l.length then yK l q++m else l++yK m (q-l.length):=by
 by_cases h:q<l.length
 ·rw[if_pos h]
  unfold yK;rw[List.getElem?_append_left h];cases a:l[q]? with
  |none=>rfl
  |some x=>
   show(l++m).set q _=l.set q _++m;rw[List.set_append,if_pos h]
 ·rw[if_neg h]
  unfold yK;rw[List.getElem?_append_right ω];cases a:m[q-l.length]? with
  |none=>rfl
  |some x=>
   show(l++m).set q _=l++m.set _ _;rw[List.set_append,if_neg h]
theorem uO:∀(t:Tr) (q:Nat),ents (mO t q)=yK (ents t) q
 | .leaf l,q=>rfl
 | .node a b,q=>by
   rw[mO];have e:cnt a=(ents a).length:=rfl
   split
   ·rename_i f
    rw[ents,ents,uO a q,EC,if_pos ω]
   ·rename_i f
    rw[ents,ents,uO b _,EC,if_neg ω,e]
theorem Hw (t:Tr) (q:Nat):cnt (mO t q)=cnt t:=by unfold cnt;rw[uO,Pg]
theorem wB:∀(t:Tr) (q:Nat),okR t->okR (mO t q)
 | .leaf l,q,h=>by
   intro e;have:=congrArg fC e;rw[Pg] at this;simp at this;exact h this
 | .node a b,q,h=>by
   rw[mO]
   split
   ·exact⟨wB a q h.1,h.2⟩
   ·exact⟨h.1,wB b _ h.2⟩
theorem O9 {l:List En} {q:Nat} {x:En} (a:l[q]? =some x):yK l q=l.set q { x with g:=true }:=by
 unfold yK;rw[a]
end Go.Proofs.YtncfhbpejchbfaaGreatDoor

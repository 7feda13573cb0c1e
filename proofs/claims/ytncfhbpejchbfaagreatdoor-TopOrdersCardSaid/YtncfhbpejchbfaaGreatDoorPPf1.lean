/-
  Lemmas of this seat; no claim.
-/
import Derived.Sort.LotA
import Derived.Sort.LotB
import Derived.Deep.CutBlock
import Derived.RangeFuncNested
import Derived.RangeFuncBound
import Derived.Shelf.AbstractIn
import Derived.Shelf.RegionOpen
import Derived.LoopNIn
import Derived.LoopIn
import Derived.Maps.OwnIn
import Derived.Test.YtncfhbpejchbfaaGreatDoorPTf1
import Derived.Test.YtncfhbpejchbfaaGreatDoorPVf1
import Derived.Test.YtncfhbpejchbfaaGreatDoorPdMP
set_option linter.unusedVariables false
set_option linter.unusedSimpArgs false
set_option maxRecDepth 100000
set_option maxHeartbeats 4000000
open Array renaming getElem?_eq_some_iff→an,getElem?_modify→cL,getElem?_toList→aP,toList_push→gQ
open Go renaming Value→au,World→ae,bodyPost_ret→aB,cell_regrown→ai,results→cg,run_underlying→bp,wpQuiet_nil→bh,wp_region_quiet_below→ax
open Go.Builtin renaming delete_→ij
open Go.ChangeMaps renaming heap_setBlock_same→dh,setBlock→bq
open Go.Instr renaming findAsking→dM,findKey→eD,keyThatStays→gA,mapEntry→iD
open Go.IntKind renaming u32→ak
open Go.Lib renaming hid→ac
open Go.MapKept renaming run_getObj_map→df,run_setObj_map→dH
open Go.Maps renaming size→fu
open Go.Result renaming andThen_ok→dc,andThen→bH
open Go.RowKit.Below renaming block→av,refl→ik
open Go.Sem renaming run_bind→dG
open Go.Sort renaming size_swp→ja
open Go.Value renaming int→ao
open Go.World renaming cell?_alloc_some→ah
open List renaming cons_append→aJ,eraseIdx_eq_take_drop_succ→ia,ext_getElem?→iK,getElem?_eq_some_iff→aq,getElem?_map→bF,length_cons→ar,length_nil→aG,length→fC,map_append→dX,mem_of_getElem?→aD,nil_append→aR,pairwise_iff_getElem→cZ,size_toArray→iH
open Nat renaming le_refl→am,zero_add→aW
open Go.Proofs.Tryz
open Go.Proofs.Tryz renaming prog→pg
namespace Go.Proofs.YtncfhbpejchbfaaGreatDoor
section
open Go.Sort
def gtI (x y:Int):Bool:=decide (y<x)
variable {d:Array Int} {n:Nat}
theorem TK:SWO gtI where
 irrefl x:=by simp[gtI]
 trans x y z h1 h2:=by simp[gtI] at*;omega
 ntrans x y z h1 h2:=by simp[gtI] at*;omega
def xI (n:Nat) (d:Array Int):Prop:=∀k,0<k->k<n->d[(k-1)/2]! <=d[k]!
theorem Me:xI n d↔∀i,i<n->Ok gtI 0 n d i:=by
 constructor
 ·intro h i hi k e a
  have:=h k ω a;rw[show(k-1)/2=i by omega] at this;simp only[aW,gtI,decide_eq_false_iff_not];omega
 ·intro h k f e
  have:=h ((k-1)/2) ω k ω e;simp only[aW,gtI,decide_eq_false_iff_not] at this;omega
theorem Rj (h:xI n d) {i:Nat} (hi:i<n):d[0]! <=d[i]! :=by
 have:=root_max TK (Me.1 h) i i (am _) hi;simp only[aW,gtI,decide_eq_false_iff_not] at this;omega
def upA (j:Nat) (d:Array Int):Array Int:=
 if h:0<j/\d[j]! <d[(j-1)/2]! then upA ((j-1)/2) (swp d ((j-1)/2) j) else d
termination_by j
decreasing_by omega
theorem XC {j:Nat} (a:0<j) (h:d[j]! <d[(j-1)/2]!):upA j d=upA ((j-1)/2) (swp d ((j-1)/2) j):=by rw[upA,dif_pos ⟨a,h⟩]
theorem EY {j:Nat} (h:j=0\/¬d[j]! <d[(j-1)/2]!):upA j d=d:=by
 rw[upA,dif_neg];rintro⟨e,a⟩;rcases h with h|h
 ·omega
 ·exact h a
theorem XB (j:Nat):∀d:Array Int,(upA j d).size=d.size:=by
 induction j using Nat.strongRecOn with
 |_ j ih=>
  intro d;rw[upA]
  split
  ·rename_i h
   rw[ih _ ω,ja]
  ·rfl
theorem aaN (n:Nat) (j:Nat):∀d:Array Int,d.size=n->j<n->(∀k,0<k->k<n->k≠j->d[(k-1)/2]! <=d[k]!)->(∀c,0<j->(c=2*j+1\/c=2*j+2)->c<n->d[(j-1)/2]! <=d[c]!)->
  xI n (upA j d)/\PermIn 0 n d (upA j d):=by
 induction j using Nat.strongRecOn with
 |_ j ih=>
  intro d Y hj e P2;by_cases N:0<j
  ·by_cases q:d[j]! <d[(j-1)/2]!
   ·rw[XC N q]
    obtain⟨i,hi⟩:∃i,i=(j-1)/2:=⟨_,rfl⟩;have u:i<j:=ω
    rw[<-hi] at q⊢;have O:(swp d i j)[i]! =d[j]! :=swp_left d _ _ ω ω;have I:(swp d i j)[j]! =d[i]! :=swp_right d _ _ ω;have go:∀k,k≠i->k≠j->(swp d i j)[k]! =d[k]! :=λk H z=>swp_other d _ _ _ H z
    obtain⟨U,Q⟩:=ih i u (swp d i j) (by rw[ja];exact Y) ω
     (λk k0 kn W=>by
       by_cases a:k=j
       ·subst a
        rw[<-hi,O,I];omega
       ·rw[go k W a]
        by_cases K:(k-1)/2=j
        ·rw[K,I]
         have:=P2 k N ω kn;rw[<-hi] at this;exact this
        ·by_cases f:(k-1)/2=i
         ·rw[f,O]
          have:=e k k0 kn a;rw[f] at this;omega
         ·rw[go _ f K]
          exact e k k0 kn a)
     (λc X hc Z=>by
       have M:(i-1)/2≠i/\(i-1)/2≠j:=ω
       rw[go _ M.1 M.2];have H:=e i X ω ω;by_cases J:c=j
       ·subst J
        rw[I];exact H
       ·rw[go c ω J]
        have z:=e c ω Z J;rw[show(c-1)/2=i by omega] at z;omega)
    exact⟨U,permIn_trans _ _ _ 0 n (swp_permIn d 0 n i j ω ω ω ω ω) Q⟩
   ·rw[EY (.inr q)]
    refine⟨λk k0 kn=>?_,permIn_refl _ _ _⟩;by_cases a:k=j
    ·subst a;omega
    ·exact e k k0 kn a
  ·rw[EY (.inl ω)]
   exact⟨λk k0 kn=>e k k0 kn ω,permIn_refl _ _ _⟩
theorem Gl {e:Array Int} (a:d.size=n) (h:PermIn 0 n d e):e.toList.Perm d.toList:=by
 have i:=h.2.2;have f:e.size=n:=h.1.trans a;have q:e.extract 0 n=e:=by rw[<-f];exact Array.extract_size
 have j:d.extract 0 n=d:=by rw[<-a];exact Array.extract_size
 rwa[q,j] at i
theorem Pj (d:Array Int) (x:Int) (k:Nat) (a:k<d.size):(d.push x)[k]! =d[k]! :=by
 rw[getElem!_pos _ k (by simp;omega),getElem!_pos d k a,Array.getElem_push_lt a]
theorem U3 (h:xI d.size d) (x:Int):xI (d.size+1) (upA d.size (d.push x))/\(upA d.size (d.push x)).toList.Perm (d.toList++[x]):=by
 have a:(d.push x).size=d.size+1:=ι
 obtain⟨f,e⟩:=aaN (d.size+1) d.size (d.push x) a ω
  (λk k0 kn i=>by rw[Pj d x k ω,Pj d x _ ω];exact h k k0 ω)
  (λc _ j q=>ω)
 refine⟨f,?_⟩;have:=Gl a e;simpa using this
def wP (d:Array Int):Array Int:=siftDown gtI (d.size-1) 0 0 (swp d 0 (d.size-1))
theorem Ob (e:d.size=n+1) (h:xI (n+1) d):
  (wP d).size=n+1/\(wP d)[n]! =d[0]! /\xI n (wP d)/\(wP d).toList.Perm d.toList:=by
 unfold wP;rw[e,show n+1-1=n by omega];have f:=Me.1 h;have go:∀k,k≠0->k≠n->(swp d 0 n)[k]! =d[k]! :=λk K z=>swp_other d _ _ _ K z
 have M:(swp d 0 n)[n]! =d[0]! :=swp_right d _ _ ω;obtain⟨N,q⟩:=sift TK n 0 0 n 0 (swp d 0 n) ω (by rw[ja];omega) (am _)
  (λi _ z J a j u=>by
   rw[show 0+i=i by omega,show 0+a=a by omega,go i J ω,go a ω ω];have:=f i ω a j ω;simpa using this)
  (λp _ O=>ω)
 have I:(siftDown gtI n 0 0 (swp d 0 n)).size=n+1:=by rw[q.1,ja];exact e
 refine⟨I,?_,Me.2 λi hi=>N i (Nat.zero_le _) hi,?_⟩
 ·rw[q.2.1 n (.inr ω),M]
 ·have H:=Gl (n:=n+1) (by rw[ja];exact e) (permIn_mono _ _ 0 (0+n) 0 (n+1) ω ω (by rw[ja];omega) q)
  exact H.trans (Gl e (swp_permIn d 0 (n+1) 0 n ω ω ω ω ω))
end
section
open Go.ChangeShapes Go.WideShapes Go.ChangeAt Go.RowKit Go.Sort
def pO:List (I2×au)->I2->Option (Nat×au)
 |[],_=>none
 |p::r,a=>if p.1=a then some (0,p.2) else(pO r a).map λq=>(q.1+1,q.2)
variable {a:I2} {b st:Nat} {l:List (I2×au)} {w w':ae}
theorem H9 (l:List (I2×au)) (a:I2):(pO l a).map (·.2)=lkp l a:=by
 induction l with
 |nil=>rfl
 |cons p l ih=>
  rw[pO,lkp]
  split
  ·rfl
  ·rw[<-ih,Option.map_map];rfl
theorem Ce {i:Nat} {v:au} (h:pO l a=some (i,v)):l[i]? =some (a,v):=by
 induction l generalizing i with
 |nil=>cases h
 |cons p l ih=>
  rw[pO] at h
  split at h
  ·rename_i e
   cases h;rw[<-e];rfl
  ·cases f:pO l a with
   |none=>rw[f] at h;cases h
   |some q=>
    rw[f] at h;cases h;exact ih f
theorem Ku (a b:Int) (W:ae):∀(f:List MapEntry) (l:List (I2×au)) (i:Nat),f.map (λe=>(e.key,e.val))=l.map (λp=>(idv p.1.1 p.1.2,p.2))->
  (dM 38 (idv a b) f i).run pg W= .ok ((pO l (a,b)).map λq=>(q.1+i,q.2)) W
 |[],[],i,_=>rfl
 |[],p::l,i,h=>by simp at h
 |e::f,[],i,h=>by simp at h
 |e::f,p::l,i,h=>by
  obtain⟨⟨c,d⟩,v⟩:=p;simp only[List.map_cons,List.cons.injEq,Prod.mk.injEq] at h;obtain⟨⟨u,K⟩,J⟩:=h;by_cases j:c=a/\d=b
  ·obtain⟨rfl,rfl⟩:=j
   unfold dM;simp[u,K,BN,bH,pO]
  ·have I:decide (a=c/\b=d)=false:=decide_eq_false (λe=>j ⟨e.1.symm,e.2.symm⟩)
   have z:=Ku a b W f l (i+1) J;unfold dM;simp only[dG,u,BN,I,dc];have H:pO (((c,d),v)::l) (a,b)=(pO l (a,b)).map λq=>(q.1+1,q.2):=by
        rw[pO,if_neg (λe=>j (by injection e with e1 e2;exact⟨e1,e2⟩))]
   rw[H];simp only[Option.map_map];have:((λq:Nat×au=>(q.1+i,q.2))∘λq=>(q.1+1,q.2))=λq:Nat×au=>(q.1+(i+1),q.2):=by
       funext q;simp;omega
   rw[this];simpa using z
theorem TQ (a b:Int) (W:ae) (f:List MapEntry) (l:List (I2×au)) (h:f.map (λe=>(e.key,e.val))=l.map (λp=>(idv p.1.1 p.1.2,p.2))):
  (eD 38 (idv a b) f).run pg W= .ok (pO l (a,b)) W:=by
 have i:=Ku a b W f l 0 h;have j:((pO l (a,b)).map λq=>(q.1+0,q.2))=pO l (a,b):=by cases pO l (a,b) <;> rfl
 rw[j] at i;unfold eD;simp only[dG,bp underlying38,dc];cases f with
 |nil=>simpa[Instr.findNow,dM] using i
 |cons e f=>simpa[Instr.findNow,Instr.sameNow] using i
def xq (w:ae) (b:Nat) (l:List (I2×au)):Prop:=∃i f,w.heap[b]? =some (.map i f)/\i.toList.map (λe=>(e.key,e.val))=l.map (λp=>(idv p.1.1 p.1.2,p.2))/\
 i.toList.Pairwise (λx y=>x.born≠y.born)/\∀e∈i.toList,e.born<f
theorem xq.lt (h:xq w b l):b<w.heap.size:=by
 obtain⟨i,f,e,_⟩:=h;exact(an.1 e).1
theorem xq.plain (h:xq w b l):qC w b l:=by
 obtain⟨j,e,i,f,_⟩:=h;exact⟨j,e,i,f⟩
theorem xq.of (h:xq w b l) (e:w'.heap[b]? =w.heap[b]?):xq w' b l:=by
 obtain⟨j,f,i,r⟩:=h;exact⟨j,f,e.trans i,r⟩
theorem xq.ext (h:xq w b l) (e:Ext w w'):xq w' b l:=h.of (av e b h.lt)
theorem X3 (a b:Int) (W:ae):(gA (idv a b) (idv a b)).run pg W= .ok (idv a b) W:=by
 have h:Instr.sameBits 10000 (idv a b) (idv a b)=true:=by simp[Instr.sameBits]
 unfold gA;rw[if_pos h];rfl
def Na (w:ae) (b:Nat) (l:List (I2×au)) (a:I2) (st:Nat):Prop:=∃f j,w.heap[b]? =some (.map f j)/\f.toList.map (λe=>(e.key,e.val))=l.map (λp=>(idv p.1.1 p.1.2,p.2))/\
 f.toList.Pairwise (λx y=>x.born≠y.born)/\(∀e∈f.toList,e.born<j)/\∃(i:Nat) (v:au) (e:MapEntry),pO l a=some (i,v)/\f.toList[i]? =some e/\e.born=st
theorem Na.of (h:Na w b l a st) (e:w'.heap[b]? =w.heap[b]?):Na w' b l a st:=by
 obtain⟨j,f,i,r⟩:=h;exact⟨j,f,e.trans i,r⟩
theorem Na.lt (h:Na w b l a st):b<w.heap.size:=by
 obtain⟨i,f,e,_⟩:=h;exact(an.1 e).1
def EP (l:List (I2×au)) (a:I2):List (I2×au):=if(lkp l a).isSome then l else l++[(a,.slice none 0 0)]
theorem Wp (v:au) (h:pO l a=none):pO (l++[(a,v)]) a=some (l.length,v):=by
 induction l with
 |nil=>simp[pO]
 |cons p l ih=>
  rw[pO] at h
  split at h
  ·cases h
  ·rename_i e
   have i:pO l a=none:=by cases f:pO l a with
        |none=>rfl
        |some q=>rw[f] at h;cases h
   rw[aJ,pO,if_neg e,ih i];simp
theorem wC (w:ae) (b:Nat) (u:Array MapEntry) (f:Nat) (j:Obj) (q:w.heap[b]? =some (.map u f)):w.grownBy (bq w b j) (some b):=
 ⟨rfl,rfl,rfl,by simp[bq],λi _ hi=>ChangeMaps.heap_setBlock_other q _ (λe=>hi (by rw[e]))⟩
theorem xq.entry (h:xq w b l) {T E:TypeId} (ht:pg.underlying T=some (.map 38 E)) (hz:(zeroValue E).run pg w= .ok (.slice none 0 0) w) (a:I2):
  ∃w' st,(iD T (.map (some b)) (.agg #[.int .u32 a.1,.int .u32 a.2])).run pg w= .ok (.tuple #[(lkp l a).getD (.slice none 0 0),.int .i64 (st:Nat)]) w'/\Na w' b (EP l a) a st/\w.grownBy w' (some b):=by
 obtain⟨f,u,I,U,hp,hc⟩:=h;have Z:=TQ a.1 a.2 w f.toList l U;have hk:=BO false a.1 a.2 w;have H:=H9 l a;cases O:pO l a with
 |none=>
  rw[O] at Z H;have M:lkp l a=none:=H.symm;refine⟨bq w b (.map (f.push { key:=idv a.1 a.2,val:= .slice none 0 0,born:=u }) (u+1)),u,?_,?_,wC w b _ _ _ I⟩
  ·have J:(eD 38 (.agg #[.int .u32 a.1,.int .u32 a.2]) f.toList).run pg w= .ok none w:=Z
   simp[iD,bp ht,df I,hk,J,hz,dH _ I,bH,bq,M,goInt]
  ·refine⟨_,_,dh I _,?_,?_,?_,l.length,.slice none 0 0,{ key:=idv a.1 a.2,val:= .slice none 0 0,born:=u },?_,?_,rfl⟩
   ·unfold EP
    rw[M];simp[U]
   ·simp only[gQ]
    refine List.pairwise_append.2 ⟨hp,ι,λx hx y hy=>?_⟩;simp at hy;subst hy;have:=hc x hx;simp;omega
   ·intro e z
    simp only[gQ,List.mem_append,List.mem_singleton] at z;rcases z with z|rfl
    ·have:=hc e z;omega
    ·simp
   ·unfold EP
    rw[M];exact Wp _ O
   ·have Q:f.toList.length=l.length:=by have:=congrArg fC U;simpa using this
    rw[gQ,List.getElem?_append_right ω,Q];simp
 |some q=>
  obtain⟨i,v⟩:=q;rw[O] at Z H;have M:lkp l a=some v:=H.symm;have a1:=Ce O;have a3:∃e,f.toList[i]? =some e/\e.key=idv a.1 a.2/\e.val=v:=by
   have K:(f.toList.map (λe=>(e.key,e.val)))[i]? =some (idv a.1 a.2,v):=by rw[U,bF,a1];rfl
   rw[bF] at K;cases z:f.toList[i]? with
   |none=>rw[z] at K;cases K
   |some e=>
    rw[z] at K;simp at K;exact⟨e,rfl,K.1,K.2⟩
  obtain⟨e,z,X,a5⟩:=a3;have Y:f[i]? =some e:=by rw[<-aP];exact z
  have a0:=X3 a.1 a.2 w;have a2:(f.modify i λe=>{ e with key:=idv a.1 a.2 })=f:=by
   apply Array.ext_getElem?;intro j;rw[cL]
   split
   ·rename_i e1
    subst e1;rw[Y];simp[<-X]
   ·rfl
  refine⟨bq w b (.map f u),e.born,?_,?_,wC w b _ _ _ I⟩
  ·have J:(eD 38 (.agg #[.int .u32 a.1,.int .u32 a.2]) f.toList).run pg w= .ok (some (i,v)) w:=Z
   have N:(gA (.agg #[.int .u32 a.1,.int .u32 a.2]) (.agg #[.int .u32 a.1,.int .u32 a.2])).run pg w= .ok (.agg #[.int .u32 a.1,.int .u32 a.2]) w:=a0;have W:(f.modify i λe=>{ e with key:= .agg #[.int .u32 a.1,.int .u32 a.2] })=f:=a2;have a4:e.key= .agg #[.int .u32 a.1,.int .u32 a.2]:=X;simp[iD,bp ht,df I,hk,J,Y,a4,N,W,dH _ I,bH,bq,M,goInt]
  ·refine⟨_,_,dh I _,?_,hp,hc,i,v,e,?_,z,rfl⟩
   ·unfold EP
    rw[M];exact U
   ·unfold EP
    rw[M];exact O
def Qz (l:List (I2×au)) (a:I2) (v:au):List (I2×au):=l.map λp=>if p.1=a then(a,v) else p
theorem Rw {i:Nat} {v:au} (h:pO l a=some (i,v)) (hn:(l.map (·.1)).Nodup):∀j p,l[j]? =some p->p.1=a->j=i:=by
 intro j p H z;have hi:=Ce h;have q:(l.map (·.1))[i]? =some a:=by rw[bF,hi];rfl
 have f:(l.map (·.1))[j]? =some a:=by rw[bF,H];simp[z]
 have l1:=(aq.1 q).1;have u:=(aq.1 f).1;rcases Nat.lt_trichotomy i j with e|e|e
 ·have:=cZ.1 hn i j l1 u e
  rw[(aq.1 q).2,(aq.1 f).2] at this;exact absurd rfl this
 ·exact e.symm
 ·have:=cZ.1 hn j i u l1 e
  rw[(aq.1 q).2,(aq.1 f).2] at this;exact absurd rfl this
theorem Na.store (h:Na w b l a st) (hn:(l.map (·.1)).Nodup) (T:TypeId) (val:au):
  ∃w',(Instr.entryStore T (.map (some b)) (.int .i64 (st:Nat)) val).run pg w= .ok () w'/\xq w' b (Qz l a val)/\w.grownBy w' (some b):=by
 obtain⟨u,O,Q,hl,Z,hc,i,v,e,hf,he,J⟩:=h;have W:=Ce hf;have K:i<u.size:=by have:=(aq.1 he).1;simpa using this
 have N:u[i]=e:=by have:=(aq.1 he).2;simpa using this
 have M:u.findIdx? (λe=>(e.born:Int)==((st:Nat):Int))=some i:=by
  rw[Array.findIdx?_eq_some_iff_getElem];refine⟨K,by rw[N,J];simp,λj H=>?_⟩;have:=cZ.1 Z j i (by simp;omega) (by simpa using K) H;simp only[Array.getElem_toList] at this;rw[N,J] at this;simp;omega
 refine⟨bq w b (.map (u.modify i λe=>{ e with val }) O),?_,⟨_,O,dh Q _,?_,?_,?_⟩,wC w b _ _ _ Q⟩
 ·have X:Sem.run pg (asIntOf (.int .i64 ((st:Nat):Int))) w= .ok (.i64,((st:Nat):Int)) w:=rfl
  simp[Instr.entryStore,df Q,asInt,X,M,dH _ Q,bH,bq]
 ·apply iK
  intro j;have f:(u.toList.map (λe=>(e.key,e.val)))[j]? =(l.map (λp=>(idv p.1.1 p.1.2,p.2)))[j]? :=by rw[hl]
  rw[bF,bF] at f;unfold Qz;rw[bF,bF,bF,aP,cL];rw[aP] at f;cases z:l[j]? with
  |none=>
   rw[z] at f;cases q:u[j]? with
   |none=>simp
   |some Y=>rw[q] at f;cases f
  |some p=>
   rw[z] at f;cases q:u[j]? with
   |none=>rw[q] at f;cases f
   |some Y=>
    rw[q] at f;simp at f;by_cases I:i=j
    ·subst I
     rw[W] at z;cases z;simp[f.1]
    ·have U:p.1≠a:=λe3=>I (Rw hf hn j p z e3).symm
     simp[I,U,f.1,f.2]
 ·have hm:(u.modify i λe=>{ e with val }).toList.map (·.born)=u.toList.map (·.born):=by
   apply iK;intro j;rw[bF,bF,aP,aP,cL]
   split
   ·cases u[j]? <;> rfl
   ·rfl
  have h1:(u.toList.map (·.born)).Pairwise (· ≠·):=List.pairwise_map.2 Z;rw[<-hm] at h1;exact List.pairwise_map.1 h1
 ·intro x hx
  obtain⟨j,H⟩:=List.getElem?_of_mem hx;rw[aP,cL] at H
  split at H
  ·cases q:u[j]? with
   |none=>rw[q] at H;cases H
   |some Y=>
    rw[q] at H;simp at H;rw[<-H];exact hc Y (aD (by rw[aP];exact q))
  ·exact hc x (aD (by rw[aP];exact H))
def PK (l:List (I2×au)) (a:I2):List (I2×au):=l.filter λp=>decide (p.1≠a)
theorem J3:∀{l:List (I2×au)} {a:I2} {i:Nat} {v:au},pO l a=some (i,v)->(l.map (·.1)).Nodup->PK l a=l.eraseIdx i
 |[],_,_,_,h,_=>by cases h
 |p::l,a,i,v,h,hn=>by
  have f:p.1∉l.map (·.1)/\(l.map (·.1)).Nodup:=List.nodup_cons.1 hn;rw[pO] at h
  split at h
  ·rename_i e
   cases h;have:PK l a=l:=List.filter_eq_self.2 λq u=>by
        simp only[decide_eq_true_eq];intro z;exact f.1 (by rw[e,<-z];exact List.mem_map.2 ⟨q,u,rfl⟩)
   show(p::l).filter _=_;rw[List.filter_cons_of_neg (by simp[e])];simpa[PK] using this
  ·rename_i e
   cases j:pO l a with
   |none=>rw[j] at h;cases h
   |some q=>
    rw[j] at h;cases h;have ih:=J3 j f.2;show(p::l).filter _=_;rw[List.filter_cons_of_pos (by simp[e])];simp only[List.eraseIdx_cons_succ]
    congr 1
theorem aac (h:pO l a=none):PK l a=l:=by
 refine List.filter_eq_self.2 λq e=>?_
 have f:lkp l a=none:=by rw[<-H9,h];rfl
 simpa using GZ.1 f q e
theorem xq.drop (h:xq w b l) (hn:(l.map (·.1)).Nodup) {T E:TypeId} (Q:pg.underlying T=some (.map 38 E)) (a:I2) (Y:TypeId):
  ∃w',(ij #[T,38] Y #[.map (some b),.agg #[.int .u32 a.1,.int .u32 a.2]]).run pg w= .ok (.tuple #[]) w'/\xq w' b (PK l a)/\w.grownBy w' (some b):=by
 obtain⟨e,f,j,J,U,X⟩:=h;have K:=TQ a.1 a.2 w e.toList l J;have W:=BO e.isEmpty a.1 a.2 w;cases H:pO l a with
 |none=>
  rw[H] at K;have u:(eD 38 (.agg #[.int .u32 a.1,.int .u32 a.2]) e.toList).run pg w= .ok none w:=K;refine⟨bq w b (.map e f),?_,⟨e,f,dh j _,by rw[aac H];exact J,U,X⟩,wC w b _ _ _ j⟩;simp[ij,bp Q,df j,W,u,dH _ j,bH,bq]
 |some q=>
  obtain⟨i,v⟩:=q;rw[H] at K;have u:(eD 38 (.agg #[.int .u32 a.1,.int .u32 a.2]) e.toList).run pg w= .ok (some (i,v)) w:=K;have M:=Ce H;have I:e.toList.length=l.length:=by have:=congrArg fC J;simpa using this
  have N:i<e.size:=by have:=(aq.1 M).1;simp at I;omega
  have z:(e.eraseIdxIfInBounds i).toList=e.toList.eraseIdx i:=by
   unfold Array.eraseIdxIfInBounds;rw[dif_pos N];simp
  refine⟨bq w b (.map (e.eraseIdxIfInBounds i) f),?_,⟨_,f,dh j _,?_,?_,?_⟩,wC w b _ _ _ j⟩
  ·simp[ij,bp Q,df j,W,u,dH _ j,bH,bq]
  ·rw[z,J3 H hn,ia,ia,dX,dX,List.map_take,List.map_drop,List.map_take,List.map_drop,J]
  ·rw[z]
   exact U.sublist (List.eraseIdx_sublist _ _)
  ·intro x O
   rw[z] at O;exact X x ((List.eraseIdx_sublist _ _).subset O)
end
section
open Go.ChangeShapes Go.WideShapes Go.ChangeAt Go.RowKit Go.Sort Go.Maps
abbrev MapU (w:ae) (b n:Nat) (D:DataW Unit):Prop:=w.ownsMap pg 30 (plainElem (H:=Unit) pg 30) b n D
variable {c:Int}
theorem Am:Keyed pg 30:=int_keyed underlying30
theorem wfU (e:0<=c) (a:c<=4294967295):(Lit.int .u32 c).wf=true:=by
 simp[Lit.wf,IntKind.min,IntKind.max,IntKind.signed,IntKind.bits];omega
theorem Y7 (e:0<=c) (a:c<=4294967295):keyOf pg 30 (.int .u32 c)=some (.int .u32 c):=keyOf_int_mk underlying30 (wfU e a)
theorem afs (e:0<=c) (a:c<=4294967295):WideAt.IsKeyLit (.int .u32 c):=Am.key (Y7 e a)
def EW (D:DataW Unit) (a V:List I2):Prop:=(∀c,0<=c->c<=4294967295->if has D (.int .u32 c)=true then D.atKey (.int .u32 c) (.lit (.int .u32 0))= .lit (.int .u32 (jq V c)) else jq a c=jq V c)/\
 ∀c,has D (.int .u32 c)=true->0<c/\c<=4294967295/\0<jq V c/\jq a c<=jq V c
theorem QN (V:List I2):EW (.map []) V V:=⟨λc e a=>by rw[if_neg (by simp[has])],λc h=>by simp[has] at h⟩
theorem MapU.ext {w w':ae} {b n:Nat} {D:DataW Unit} (h:MapU w b n D) (f:Ext w w'):MapU w' b n D:=by
 have e:=h.lt;obtain⟨u,a,j,F,i,q⟩:=h;exact⟨u,a,(av f b e).trans j,F,i,q⟩
theorem Xl (w:ae):(zeroValue 30).run pg w= .ok (.int .u32 0) w:=κ
def Kn (w:ae) (m:Option Nat) (a V:List I2):Prop:=(m=none/\a=V)\/∃b e D,m=some b/\MapU w b e D/\EW D a V
theorem Kn.ext {w w':ae} {m:Option Nat} {a V:List I2} (h:Kn w m a V) (i:Ext w w'):Kn w' m a V:=by
 rcases h with h|⟨b,f,D,e,q,j⟩
 ·exact .inl h
 ·exact .inr ⟨b,f,D,e,q.ext i,j⟩
theorem Kn.look {w:ae} {m:Option Nat} {q V:List I2} (h:Kn w m q V) (j:0<=c) (i:c<=4294967295):
  ∃(v:Int) (g:Bool),(Instr.lookup 153 (.map m) (.int .u32 c) true).run pg w= .ok (.tuple #[.int .u32 v,.bool g]) w/\(g=true->v=jq V c)/\(g=false->jq q c=jq V c):=by
 rcases h with⟨rfl,rfl⟩|⟨b,nn,D,rfl,hM,hV⟩
 ·exact⟨0,false,Maps.look_nil true Am underlying153 (Xl w) (Y7 j i),ι,λ_=>rfl⟩
 ·obtain⟨v,I,u,hv⟩:=hM.look_ok Am underlying153 (Xl w) (plainElem_int (H:=Unit) underlying30 (wfU (c:=0) ω ω)) (Y7 j i)
  obtain⟨x,rfl,e,_⟩:=plainElem_int_inv underlying30 hv;have z:D.atKey (.int .u32 c) (.lit (.int .u32 0))= .lit (.int .u32 x):=congrArg Prod.fst e;have a:=hV.1 c j i;refine⟨x,has D (.int .u32 c),u,λf=>?_,λf=>?_⟩
  ·rw[if_pos f,z] at a
   simp only[DataW.lit.injEq,Lit.int.injEq,true_and] at a;exact a
  ·rw[if_neg (by rw[f];simp)] at a
   exact a
end
section
open Go.ChangeShapes Go.WideShapes Go.ChangeAt Go.RowKit Go.Sort Go.Maps
attribute [local go_sem] ah
abbrev knv (A:Option Addr) (n cap:Nat) (m:Option Nat):au:= .agg #[.slice A n cap,.map m]
structure KnA (W:ae) (A:Option Addr) (n cap:Nat) (m:Option Nat) (V0 V:List I2):Prop where
 vec:Vec W A V0
 len:V0.length=n
 may:jB 0 V0=true
 le:n<=400000
 kn:Kn W m V0 V
theorem KnA.ext {W W':ae} {A:Option Addr} {n cap:Nat} {m:Option Nat} {e V:List I2} (h:KnA W A n cap m e V) (a:Ext W W'):KnA W' A n cap m e V:=⟨h.vec.ext a,h.len,h.may,h.le,h.kn.ext a⟩
theorem Jz (A:Option Addr) (n cap:Nat) (m:Option Nat) (j V:List I2) (c:Int) (w:ae) (h:KnA w A n cap m j V) (u:0<=c) (q:c<=4294967295):
  Calls pg 164 #[knv A n cap m,Vu c] w λe w'=>e= .returned (Vu (jq V c))/\Ext w w':=by
 have x1:Ext w (w.alloc (.cells #[.slice A n cap,.map m] 155)):=(Ext.refl _).alloc _;have i:=h.ext x1;obtain⟨v,g,J,f,a⟩:=i.kn.look u q;have hn:=ac (GD A n cap j c _ i.vec i.len i.may i.le);have c0:(w.alloc (.cells #[.slice A n cap,.map m] 155)).cell? ⟨w.heap.size,0,none⟩=some (.slice A n cap):=ι
 have c1:(w.alloc (.cells #[.slice A n cap,.map m] 155)).cell? ⟨w.heap.size,1,none⟩=some (.map m):=ι
 replace f:=ac f;replace a:=ac a;replace i:=ac i;clear h;go_enter func164,ntmps164
 go_upto_region 1 with fail
 generalize w.alloc (.cells #[.slice A n cap,.map m] 155)=H at*;generalize w.heap.size=I at*;cases g with
 |true=>
  go_wp2_with fail
  go_ret;exact⟨E9 (f.out (by trivial)),x1⟩
 |false=>
  go_wp2_with fail
  refine hn.out.mono ?_;rintro e z ⟨rfl,x2⟩;have x3:=ac (x1.trans x2)
  go_wp2_with fail
  go_ret;exact⟨E9 (a.out (by trivial)),x3.out⟩
def Du (V:List I2) (a b:Int):Bool:=decide (a=0)||decide (b<jq V a)
theorem yj (A:Option Addr) (n cap:Nat) (m:Option Nat) (I V:List I2) (a b:Int) (w:ae) (h:KnA w A n cap m I V) (N:0<=a) (M:a<=4294967295):
  Calls pg 165 #[knv A n cap m,idv a b] w λe w'=>e= .returned (.bool (Du V a b))/\Ext w w':=by
 obtain⟨B,u⟩:∃B,Du V a b=B:=⟨_,rfl⟩;rw[u];have x1:Ext w ((w.alloc (.cells #[.slice A n cap,.map m] 155)).alloc (.cells #[.int .u32 a,.int .u32 b] 38)):=((Ext.refl _).alloc _).alloc _;have c0:((w.alloc (.cells #[.slice A n cap,.map m] 155)).alloc (.cells #[.int .u32 a,.int .u32 b] 38)).cell? ⟨w.heap.size,0,none⟩=some (.slice A n cap):=σ
 have c1:((w.alloc (.cells #[.slice A n cap,.map m] 155)).alloc (.cells #[.int .u32 a,.int .u32 b] 38)).cell? ⟨w.heap.size,1,none⟩=some (.map m):=σ
 have c2:((w.alloc (.cells #[.slice A n cap,.map m] 155)).alloc (.cells #[.int .u32 a,.int .u32 b] 38)).cell? ⟨w.heap.size+1,0,none⟩=some (Vu a):=σ
 have c3:((w.alloc (.cells #[.slice A n cap,.map m] 155)).alloc (.cells #[.int .u32 a,.int .u32 b] 38)).cell? ⟨w.heap.size+1,1,none⟩=some (Vu b):=σ
 go_enter func165,ntmps165;have i:=ac (λ(W:ae)=>lN a b W);have H:=ac (λ(W:ae) (K:Ext w W)=>Jz A n cap m I V a W (h.ext K) N M);clear h;by_cases z:a=0
 ·have j:(a==0)=true:=by simpa using z
  replace u:=ac (show B=true by rw[<-u];simp[Du,z]);rw[j] at i;subst z
  go_wp2_with fail
  generalize(w.alloc (.cells #[.slice A n cap,.map m] 155)).alloc (.cells #[.int .u32 0,.int .u32 b] 38)=w1 at*;generalize w.heap.size=J at*;replace c0:=ai c0;replace c1:=ai c1;replace c2:=ai c2;replace c3:=ai c3;refine ax κ κ ?_
  repeat go_big_quiet_step((first|with_reducible exact Calls.jA (i.out _)))
  refine bh ?_;intro _ q;obtain⟨⟨O,osq⟩,f⟩:=q;subst f;go_wp2;go_ret;exact⟨kE u.out.symm,x1.trans (Ext.jv _ _ _)⟩
 ·have j:(a==0)=false:=by simpa using z
  replace u:=ac (show B=decide (b<jq V a) by rw[<-u];simp[Du,z]);rw[j] at i
  go_wp2_with fail
  generalize(w.alloc (.cells #[.slice A n cap,.map m] 155)).alloc (.cells #[.int .u32 a,.int .u32 b] 38)=w1 at*;generalize w.heap.size=J at*;replace c0:=ai c0;replace c1:=ai c1;replace c2:=ai c2;replace c3:=ai c3;refine ax κ κ ?_
  repeat go_big_quiet_step((first|with_reducible exact Calls.jA (i.out _)|with_reducible exact Calls.jA (H.out _ (x1.trans (Ext.jv _ _ _)))))
  refine bh ?_;intro _ q;obtain⟨⟨O,osq⟩,f⟩:=q;subst f;go_wp2;go_ret;exact⟨kE u.out.symm,x1.trans (Ext.jv _ _ _)⟩
def awI (V:List (Int×Int)) (x:It):Option I2:=
 if x.k=jq V x.c then(if Du V x.lc x.lk then(if Du V x.rc x.rk then none else some (x.rc,x.rk)) else some (x.lc,x.lk)) else some (x.c,ak.wrap (x.k-1))
theorem aeT (V:List I2) (x:It):(awI V x).isSome= !qD V x:=by
 unfold awI qD Du;by_cases a:x.k=jq V x.c
 ·rw[if_pos a,decide_eq_true a,Bool.true_and]
  cases(decide (x.lc=0)||decide (x.lk<jq V x.lc)) <;> cases(decide (x.rc=0)||decide (x.rk<jq V x.rc)) <;> rfl
 ·rw[if_neg a,decide_eq_false a]
  rfl
theorem Qa (A:Option Addr) (n cap:Nat) (m:Option Nat) (V0 V:List I2) (x:It) (w:ae) (h:KnA w A n cap m V0 V) (hx:wfI x):
  Calls pg 134 #[knv A n cap m,itv x] w λe w'=>e= .returned (.tuple #[idv ((awI V x).getD (0,0)).1 ((awI V x).getD (0,0)).2,.bool (awI V x).isSome])/\Ext w w':=by
 obtain⟨R,hR⟩:∃R,awI V x=R:=⟨_,rfl⟩;rw[hR];unfold awI at hR;obtain⟨b7,b6,e7,e6,a4,a3,a9,a8,a2,Z,a7,a6,_,_⟩:=hx;have X:Ext w (((w.alloc (.cells #[.slice A n cap,.map m] 155)).alloc (.cells #[.int .u32 x.c,.int .u32 x.k,.int .u32 x.lc,.int .u32 x.lk,.int .u32 x.rc,.int .u32 x.rk,.int .i32 x.ch] 106)).alloc (.cells #[.int .u32 0,.int .u32 0] 38)):=(((Ext.refl _).alloc _).alloc _).alloc _;have N:(((w.alloc (.cells #[.slice A n cap,.map m] 155)).alloc (.cells #[.int .u32 x.c,.int .u32 x.k,.int .u32 x.lc,.int .u32 x.lk,.int .u32 x.rc,.int .u32 x.rk,.int .i32 x.ch] 106)).alloc (.cells #[.int .u32 0,.int .u32 0] 38)).cell? ⟨w.heap.size,0,none⟩=some (.slice A n cap):=σ
 have M:(((w.alloc (.cells #[.slice A n cap,.map m] 155)).alloc (.cells #[.int .u32 x.c,.int .u32 x.k,.int .u32 x.lc,.int .u32 x.lk,.int .u32 x.rc,.int .u32 x.rk,.int .i32 x.ch] 106)).alloc (.cells #[.int .u32 0,.int .u32 0] 38)).cell? ⟨w.heap.size,1,none⟩=some (.map m):=σ
 have K:(((w.alloc (.cells #[.slice A n cap,.map m] 155)).alloc (.cells #[.int .u32 x.c,.int .u32 x.k,.int .u32 x.lc,.int .u32 x.lk,.int .u32 x.rc,.int .u32 x.rk,.int .i32 x.ch] 106)).alloc (.cells #[.int .u32 0,.int .u32 0] 38)).cell? ⟨w.heap.size+1,0,none⟩=some (Vu x.c):=σ
 have J:(((w.alloc (.cells #[.slice A n cap,.map m] 155)).alloc (.cells #[.int .u32 x.c,.int .u32 x.k,.int .u32 x.lc,.int .u32 x.lk,.int .u32 x.rc,.int .u32 x.rk,.int .i32 x.ch] 106)).alloc (.cells #[.int .u32 0,.int .u32 0] 38)).cell? ⟨w.heap.size+1,1,none⟩=some (Vu x.k):=σ
 have I:(((w.alloc (.cells #[.slice A n cap,.map m] 155)).alloc (.cells #[.int .u32 x.c,.int .u32 x.k,.int .u32 x.lc,.int .u32 x.lk,.int .u32 x.rc,.int .u32 x.rk,.int .i32 x.ch] 106)).alloc (.cells #[.int .u32 0,.int .u32 0] 38)).cell? ⟨w.heap.size+1,2,none⟩=some (Vu x.lc):=σ
 have H:(((w.alloc (.cells #[.slice A n cap,.map m] 155)).alloc (.cells #[.int .u32 x.c,.int .u32 x.k,.int .u32 x.lc,.int .u32 x.lk,.int .u32 x.rc,.int .u32 x.rk,.int .i32 x.ch] 106)).alloc (.cells #[.int .u32 0,.int .u32 0] 38)).cell? ⟨w.heap.size+1,3,none⟩=some (Vu x.lk):=σ
 have z:(((w.alloc (.cells #[.slice A n cap,.map m] 155)).alloc (.cells #[.int .u32 x.c,.int .u32 x.k,.int .u32 x.lc,.int .u32 x.lk,.int .u32 x.rc,.int .u32 x.rk,.int .i32 x.ch] 106)).alloc (.cells #[.int .u32 0,.int .u32 0] 38)).cell? ⟨w.heap.size+1,4,none⟩=some (Vu x.rc):=σ
 have q:(((w.alloc (.cells #[.slice A n cap,.map m] 155)).alloc (.cells #[.int .u32 x.c,.int .u32 x.k,.int .u32 x.lc,.int .u32 x.lk,.int .u32 x.rc,.int .u32 x.rk,.int .i32 x.ch] 106)).alloc (.cells #[.int .u32 0,.int .u32 0] 38)).cell? ⟨w.heap.size+1,5,none⟩=some (Vu x.rk):=σ
 have f:(((w.alloc (.cells #[.slice A n cap,.map m] 155)).alloc (.cells #[.int .u32 x.c,.int .u32 x.k,.int .u32 x.lc,.int .u32 x.lk,.int .u32 x.rc,.int .u32 x.rk,.int .i32 x.ch] 106)).alloc (.cells #[.int .u32 0,.int .u32 0] 38)).cell? ⟨w.heap.size+1+1,0,none⟩=some (Vu 0):=σ
 have a:(((w.alloc (.cells #[.slice A n cap,.map m] 155)).alloc (.cells #[.int .u32 x.c,.int .u32 x.k,.int .u32 x.lc,.int .u32 x.lk,.int .u32 x.rc,.int .u32 x.rk,.int .i32 x.ch] 106)).alloc (.cells #[.int .u32 0,.int .u32 0] 38)).cell? ⟨w.heap.size+1+1,1,none⟩=some (Vu 0):=σ
 have U:(((w.alloc (.cells #[.slice A n cap,.map m] 155)).alloc (.cells #[.int .u32 x.c,.int .u32 x.k,.int .u32 x.lc,.int .u32 x.lk,.int .u32 x.rc,.int .u32 x.rk,.int .i32 x.ch] 106)).alloc (.cells #[.int .u32 0,.int .u32 0] 38)).frozen? ⟨w.heap.size+1+1,0,none⟩=false:=σ
 have Q:(((w.alloc (.cells #[.slice A n cap,.map m] 155)).alloc (.cells #[.int .u32 x.c,.int .u32 x.k,.int .u32 x.lc,.int .u32 x.lk,.int .u32 x.rc,.int .u32 x.rk,.int .i32 x.ch] 106)).alloc (.cells #[.int .u32 0,.int .u32 0] 38)).frozen? ⟨w.heap.size+1+1,1,none⟩=false:=σ
 have hk:=ac (λ(W:ae) (O:Ext w W)=>Jz A n cap m V0 V x.c W (h.ext O) b7 b6);have hl:=ac (λ(W:ae) (O:Ext w W)=>yj A n cap m V0 V x.lc x.lk W (h.ext O) a4 a3);have hr:=ac (λ(W:ae) (O:Ext w W)=>yj A n cap m V0 V x.rc x.rk W (h.ext O) a2 Z);clear h a4 a3 a2 Z a9 a8 a7 a6;go_enter func134,ntmps134
 go_upto_region 1 with fail
 have b9:w.heap.size+1+1=w.heap.size+2:=rfl;have d1:w.heap.size<=w.heap.size:=am _;obtain⟨base,i⟩:∃base,w.heap.size=base:=⟨_,rfl⟩;have zF:Hid (∀W W':ae,Ext w W->∀u v,W'=(W.setCell ⟨base+1+1,0,none⟩ u).setCell ⟨base+1+1,1,none⟩ v->Ext w W'):=ac (λW W' O u v e=>by rw[e];exact(O.setCell (by rw[<-i];show _<=_+1+1;omega) u).setCell (by rw[<-i];show _<=_+1+1;omega) v);generalize(((w.alloc (.cells #[.slice A n cap,.map m] 155)).alloc (.cells #[.int .u32 x.c,.int .u32 x.k,.int .u32 x.lc,.int .u32 x.lk,.int .u32 x.rc,.int .u32 x.rk,.int .i32 x.ch] 106)).alloc (.cells #[.int .u32 0,.int .u32 0] 38))=w1 at*;rw[i] at*;clear b9 d1;replace X:=ac X
 go_cut [14] (λs wx=>s= .bool (decide (x.k≠jq V x.c))/\Hid (Ext w1 wx))
 case first=>
  have e5:=ai N;have e4:=ai M;have e3:=ai K;have d9:=ai J;have d7:=ai I;have d6:=ai H;have d5:=ai z;have d4:=ai q;have d3:=ai f;have d2:=ai a;clear N M K J I H z q f a U Q;refine ax κ κ ?_
  repeat go_big_quiet_step((first|with_reducible exact Calls.jA (hk.out _ (X.out.trans (Ext.jv _ _ _)))))
  refine bh ?_;intro _ b8;obtain⟨⟨dq,osq⟩,a5⟩:=b8;subst a5
  go_wp2_with fail
  go_meet;refine⟨?_,ac (Ext.jv _ _ _)⟩
  congr 1
  rw[Bool.eq_iff_iff];simp
 case rest=>
  obtain⟨rfl,x1⟩:=hcut;replace X:=ac (X.out.trans x1.out);replace x1:=x1.out;replace N:=x1.keep N;replace M:=x1.keep M;replace K:=x1.keep K;replace J:=x1.keep J;replace I:=x1.keep I;replace H:=x1.keep H;replace z:=x1.keep z;replace q:=x1.keep q;replace U:=x1.thaw f U;replace Q:=x1.thaw a Q;replace f:=x1.keep f;replace a:=x1.keep a;clear x1;by_cases Y:x.k=jq V x.c
  ·have j:decide (x.k≠jq V x.c)=false:=decide_eq_false (λh=>h Y)
   rw[if_pos Y] at hR;rw[j] at*;clear j Y
   go_upto_region 3 with fail
   go_wp2_with fail
   refine(hl.out _ X.out).mono ?_;rintro e w2 ⟨rfl,x1⟩;replace X:=ac (X.out.trans x1);replace N:=x1.keep N;replace M:=x1.keep M;replace K:=x1.keep K;replace J:=x1.keep J;replace I:=x1.keep I;replace H:=x1.keep H;replace z:=x1.keep z;replace q:=x1.keep q;replace U:=x1.thaw f U;replace Q:=x1.thaw a Q;replace f:=x1.keep f;replace a:=x1.keep a;clear x1;cases e1:Du V x.lc x.lk with
   |false=>
    rw[e1] at hR;replace hR:=ac (show R=some (x.lc,x.lk) by rw[<-hR];rfl)
    go_wp2_with fail
    rw[hR.out];exact aB (v:= .tuple #[idv x.lc x.lk,.bool true]) (by simp[cg,results134,go_sem,f,a]) rfl ⟨rfl,zF.out _ _ X.out _ _ rfl⟩
   |true=>
    rw[e1] at hR
    go_wp2_with fail
    refine(hr.out _ X.out).mono ?_;rintro e w3 ⟨rfl,x1⟩;replace X:=ac (X.out.trans x1);replace N:=x1.keep N;replace M:=x1.keep M;replace K:=x1.keep K;replace J:=x1.keep J;replace I:=x1.keep I;replace H:=x1.keep H;replace z:=x1.keep z;replace q:=x1.keep q;replace U:=x1.thaw f U;replace Q:=x1.thaw a Q;replace f:=x1.keep f;replace a:=x1.keep a;clear x1;cases e2:Du V x.rc x.rk with
    |false=>
     rw[e2] at hR;replace hR:=ac (show R=some (x.rc,x.rk) by rw[<-hR];rfl)
     go_wp2_with fail
     rw[hR.out];exact aB (v:= .tuple #[idv x.rc x.rk,.bool true]) (by simp[cg,results134,go_sem,f,a]) rfl ⟨rfl,zF.out _ _ X.out _ _ rfl⟩
    |true=>
     rw[e2] at hR;replace hR:=ac (show R=none by rw[<-hR];rfl)
     go_wp2_with fail
     rw[hR.out];exact aB (v:= .tuple #[idv 0 0,.bool false]) (by simp[cg,results134,go_sem,f,a]) rfl ⟨rfl,zF.out _ _ X.out _ _ rfl⟩
  ·have j:decide (x.k≠jq V x.c)=true:=decide_eq_true Y
   rw[if_neg Y] at hR;rw[j] at*;clear j Y;replace hR:=ac hR.symm
   go_wp2_with fail
   rw[hR.out];exact aB (v:= .tuple #[idv x.c (ak.wrap (x.k-1)),.bool true]) (by simp[cg,results134,go_sem,f,a];rw[IntKind.wrap_u32]) rfl ⟨rfl,zF.out _ _ X.out _ _ rfl⟩
end
section
open Go.ChangeShapes Go.WideShapes Go.ChangeAt Go.RowKit Go.Sort Go.Maps Go.Shelf
attribute [local go_sem] Oper.semAt_some
def IJ (e:DataW Unit) (left:Lit->Bool) (a:List Int):Prop:=a.Nodup/\∀x,x∈a↔(has e (.int .u32 x)=true/\left (.int .u32 x)=false)
theorem IJ.start (a:DataW Unit):IJ a (has a) []:=⟨List.nodup_nil,λx=>by cases has a (.int .u32 x) <;> simp⟩
theorem IJ.step {j:DataW Unit} {left:Lit->Bool} {q:List Int} (h:IJ j left q) {x:Int} {y:DataW Unit} (u:left (.int .u32 x)=true) (H:∀K,j.atKey (.int .u32 x) K=y):IJ j (λz=>left z&& !z.sameKey (.int .u32 x)) (q++[x]):=by
 have i:has j (.int .u32 x)=true:=has_true_of_atKey H;have f:x∉q:=λM=>by have:=((h.2 x).1 M).2;rw[u] at this;cases this
 refine⟨List.nodup_append.2 ⟨h.1,ι,λa N b J=>by simp at J;subst J;exact λe=>f (e▸N)⟩,λy=>?_⟩;by_cases I:y=x
 ·subst I;simp[i,Lit.sameKey]
 ·simp[h.2 y,I,Lit.sameKey]
theorem Y5 (F:Fence) (n:Nat) (hF:F.fn 140) (Y:F.round=none) (hn:1<=n) (l Bm b Q:Nat) (i:DataW Unit) (J Jx:List Int->ae->Prop)
  (hY:∀pre x W,J pre W->pre.length<fu i->YieldAt F (n-1) pg l #[Vu x] W λe W'=>
   (e= .returned (.bool true)/\J (pre++[x]) W'/\KeepsWalks W W')\/(e= .returned (.bool false)/\Jx (pre++[x]) W'))
  (W:ae) (hJ:AbidesFrom W.heap.size J) (hm:W.cell? ⟨Bm,0,none⟩=some (.map (some b))) (I:MapU W b Q i) (h0:J [] W):
  CallsIn F n pg 140 #[.func (.yield l) #[] #[],.pointer (some ⟨Bm,0,none⟩)] W λe W'=>(∃v,e= .returned v)/\
   ((∃a:List Int,(a.Nodup/\∀x,x∈a↔has i (.int .u32 x)=true)/\J a W')\/(∃pre:List Int,(pre.Nodup/\∀x∈pre,has i (.int .u32 x)=true)/\Jx pre W')):=by
 refine callsIn_of_wp func140 rfl hF ?_ Y;simp only[ntmps140,iH,ar,aG,Nat.reduceAdd,Nat.reduceSub,Array.replicate_succ,Array.replicate_zero,List.push_toArray,List.append_toArray,aR,aJ]
 gi_wp2_with (first
  |(gi_at_range;refine wpListIn_range_own _ rfl _ 153 rfl 30 30 Am underlying153 _ b Q _ rfl I ?_;intro w0 z a4 a8)
  |gi_in)
 go_frame
 gi_loopw [3] (λ_ wr=>∃(left:Lit->Bool) (cnt:Nat) (a:List Int),wr.ranges pg 30 (plainElem (H:=Unit) pg 30) b W.heap.size Q i left cnt/\a.length+cnt<=fu i/\IJ i left a/\J a wr)
  (λ_ wr=>wr.rangeLeft b W.heap.size)
 case atStart=>exact⟨_,_,[],z,ι,IJ.start i,hJ [] W w0 none h0 a4 (λr e=>by cases e)⟩
 case round=>
  obtain⟨left,cnt,a,j,b0,hC,N⟩:=hrel
  gi_wp2_with (first
   |(gi_at_next;refine wpListIn_next_ranges _ rfl _ rfl 30 Am (plainElem (H:=Unit) pg 30) (ao .u32) id (λkey kl hk=>by obtain⟨x,hx,_⟩:=Maps.keyOf_int_inv underlying30 hk;exact⟨x,hx⟩) (λv _ _=>⟨v,rfl⟩) b W.heap.size Q _ _ _ rfl j ?_ ?_)
   |gi_in)
  ·intro b1 a1
   gi_wp2
   go_end0
   exact⟨⟨_,rfl⟩,.inl ⟨a,⟨hC.1,λx=>by rw[hC.2 x,a1];simp⟩,N⟩⟩
  ·intro x c kl yd yp U O K a0 hv a5 u Z a3 X a9
   obtain⟨x',ex,rfl,_⟩:=Maps.keyOf_int_inv underlying30 K;obtain rfl:x=x':=by simpa using ex
   have a7:J a U:=hJ a wr U (some W.heap.size) N a3 (λr e=>by cases e;exact⟨am _,j.iter_walk⟩);obtain⟨fn,tmps,assign,body,hy,hR⟩:=hY a x U a7 ω;clear X
   gi_wp2
   refine hR.mono ?_;have q:=hC.step a0 a5;rintro e W3 (⟨rfl,a6,a2⟩|⟨rfl,M⟩)
   ·gi_wp2
    have f:=u.of_walks a2
    go_roundw
    case rel=>exact⟨_,O,a++[x],f,by simp;omega,q,a6⟩
    case measure=>rw[f.left_eq,j.left_eq];exact Z
   ·gi_wp2
    refine aB (results_none rfl _ _ _) rfl ?_;exact⟨⟨_,rfl⟩,.inr ⟨a++[x],⟨q.1,λy hy=>((q.2 y).1 hy).1⟩,M⟩⟩
theorem Y4 (F:Fence) (n:Nat) (hF:F.fn 140) (u:F.round=none) (hn:1<=n) (j b q:Nat) (i:DataW Unit) (w:ae) (H:j<w.heap.size)
  (hm:w.cell? ⟨j,0,none⟩=some (.map (some b))) (a:MapU w b q i):
  SeqStopsK F n pg 140 #[.pointer (some ⟨j,0,none⟩)] (λx:Int=> #[Vu x]) KeepsWalks (λI=>I.Nodup/\∀x,x∈I↔has i (.int .u32 x)=true) (λpre=>pre.Nodup/\∀x∈pre,has i (.int .u32 x)=true) (fu i) w:=λl J Z W K Q _ O X=>by
 have e:MapU W b q i:=by
  have z:=a.lt;obtain⟨Y,f,N,Ft,M,U⟩:=a;exact⟨Y,f,(K.block b z).trans N,Ft,M,U⟩
 exact Y5 F n hF u hn l j b q i J Z O W Q ((K.cell (p:=⟨j,0,none⟩) H).trans hm) e X
theorem adX (a:Option Nat) (w:ae):Calls pg 107 #[.map a] w λe w'=>e= .returned (.func (.func 140) #[] #[.pointer (some ⟨w.heap.size,0,none⟩)])/\w'=w.alloc (.cells #[.map a] 153):=by
 go_enter func107,ntmps107;go_wp2;go_ret;exact⟨rfl,rfl⟩
theorem ad4:(pg.info? 30).map (λi=>(i.zero,i.size,i.bytes))=some (some (.int .u32 0),1,4):=κ
theorem Qb (F:Fence) (n:Nat) (hF:F.fn 167) (Q:F.fn 140) (u:F.round=none) (hn:3<=n) (i b nn:Nat) (I:DataW Unit) (a8:fu I<=400000000) (w:ae) (a6:i<w.heap.size)
  (hm:w.cell? ⟨i,0,none⟩=some (.map (some b))) (M:MapU w b nn I):
  CallsIn F n pg 167 #[.slice none 0 0,.func (.func 140) #[] #[.pointer (some ⟨i,0,none⟩)]] w λe W'=>∃(v:au) (H:List Int),e= .returned v/\(H.Nodup/\∀x,x∈H↔has I (.int .u32 x)=true)/\H.length<=fu I/\
   W'.ownsRow w.heap.size 30 1 v H.length (H.map (ao .u32))/\(v= .slice none 0 0↔H=[])/\Below w.heap.size w W':=by
 have h1:1<=n:=ω
 obtain⟨i0,hi,a1,a0,Z⟩:=info_parts ad4;refine callsIn_of_wp_marks func167 rfl hF ?_ u;simp only[ntmps167,iH,ar,aG,Nat.reduceAdd,Nat.reduceSub,Array.replicate_succ,Array.replicate_zero,List.push_toArray,List.append_toArray,aR,aJ]
 gi_wp2
 have bO:=Boxed.new w 96 (.slice none 0 0);have U:Below w.heap.size w (w.alloc (.cells #[.slice none 0 0] 96)):=(ik _ w).alloc (am _) _;have a4:(w.alloc (.cells #[.slice none 0 0] 96)).cell? ⟨i,0,none⟩=some (.map (some b)):=(U.cell (p:=⟨i,0,none⟩) a6).trans hm;refine wpIn_rangeFunc_ownG u h1 (gf:=140) (lb:= #[.pointer (some ⟨i,0,none⟩)]) rfl Q (enters_of func140 κ rfl)
  (Y4 F (n-1) Q u ω i b nn I _ (by simp;omega) a4 (M.alloc _)) walksK_t walksK_b (ik _ _) (λ_=>rfl)
  (λpre W=>(pre.length<=fu I/\∃v,Boxed W w.heap.size 96 v/\W.ownsRow w.heap.size 30 1 v pre.length (pre.map (ao .u32))/\(v= .slice none 0 0↔pre=[]))/\Below w.heap.size w W)
  (λ_ _ _=>False)
  (OwnFrom.and (λs A B row Y hg hr=>⟨Y.1,(Own.from (holdsRow_own w.heap.size w.heap.size 96 30 1 (λpre:List Int=>pre.length) (λpre=>pre.map (ao .u32)) (λpre v=>v= .slice none 0 0↔pre=[])) _) s A B row Y.2 hg hr⟩) (ownFrom_below (am _) ι))
  (λ_ _ _ _ _ Y _ _=>Y)
  ⟨⟨ι,_,bO,World.ownsRow_nil _ _ _ _,ι⟩,U⟩
  (λx=>{ tmps:= #[.slice none 0 0,.func (.func 140) #[] #[.pointer (some ⟨i,0,none⟩)],.pointer (some ⟨w.heap.size,0,none⟩),undef,.slice none 0 0,Vu x,.func (.func 140) #[] #[.pointer (some ⟨i,0,none⟩)],Vu x,undef,undef,undef,undef,undef],defers:=[] }) ?assign ?body ?done ?stop
 case assign=>
  intro l x W K O
  gi_wp2
  exact O
 case body=>
  rintro l pre x W ⟨⟨q,v,hv,a,j⟩,X⟩ a9;have hc:=hv.cell
  gi_wp2_with (gi_at_builtin;refine wpListIn_append_own _ rfl _ _ 96 rfl w.heap.size 30 i0 (.int .u32 0) 1 4 underlying96 hi a1 a0 Z rfl δ _ _ _ rfl (a.alloc _) ⟨W.heap.size,0,none⟩ 1 1 [.int .u32 x] rfl rfl (cell_one_new _ _ _) (by simp[Value.oneCell']) (by simp[maxLen];omega) ω (by have:=X.size;simp;omega) ?_;intro v' w1 f z _;obtain⟨g',a7,rfl⟩:=ownsRow_succ f;obtain⟨J,a2,a3,N,a5⟩:=hv.appended δ a X.size (am _) f z;have b1:=J.cell;have b0:=J.frozen)
  exact⟨N.from _,N.walks,⟨by simp;omega,_,a2,by simpa using a3,ι⟩,X.trans a5⟩
 case done=>
  rintro D ys W hD hS ⟨⟨q,v,hv,a,j⟩,X⟩ O;have hc:=hv.cell
  gi_wp2
  refine⟨ι,.inl ⟨_,_,rfl,run_takeDeferred O,?_⟩⟩;exact⟨_,results_tmp rfl _ _ _,v,ys,rfl,hS,q,ownsRow_putObj a _ O rfl,j,X.trans (belowK_b (w:=w) (am _) W D _ _ (by simp at hD;omega) O rfl rfl)⟩
 case stop=>
  rintro D c pre W _ _ h _;exact h.elim
end
section
open Go.ChangeShapes Go.WideShapes Go.ChangeAt Go.RowKit Go.Sort
attribute [local go_sem] ah
end
section
open Go.ChangeShapes Go.WideShapes Go.ChangeAt Go.RowKit Go.Sort
attribute [local go_sem] ah calm jL jH
end
section
open Go.ChangeShapes Go.WideShapes Go.ChangeAt Go.RowKit Go.Sort
attribute [local go_sem] ah
end
section
open Go.ChangeShapes Go.WideShapes Go.ChangeAt Go.RowKit Go.Sort
attribute [local go_sem] ah calm jL jH
end
section
open Go.ChangeShapes Go.WideShapes Go.ChangeAt Go.RowKit Go.Sort
attribute [local go_sem] ah
def ae4 (w:ae) (t:List It×List It×List I2) (e:Ending) (w':ae):Prop:=
 ∃(f:Option Addr) (ca:Nat) (a:Option Addr) (cb:Nat) (A:Option Addr) (c:Nat),e= .returned (.tuple #[.slice f t.1.length ca,.slice a t.2.1.length cb,.slice A t.2.2.length c])/\(t.1.length<=ca/\rZ w.heap.size f)/\(t.2.1.length<=cb/\rZ w.heap.size a)/\(t.2.2.length<=c/\rZ w.heap.size A)/\ItS w' f t.1/\ItS w' a t.2.1/\Vec w' A t.2.2/\Ext w w'
end
end Go.Proofs.YtncfhbpejchbfaaGreatDoor

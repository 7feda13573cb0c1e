/-
  Lemmas of this seat; no claim.
-/
import Derived.Sort.LotA
import Derived.Sort.LotB
import Derived.Deep.CutBlock
import Derived.RangeFuncNested
import Derived.RangeFuncBound
import Derived.Shelf.AbstractIn
import Derived.Shelf.RegionOpen
import Derived.LoopNIn
import Derived.LoopIn
import Derived.Maps.OwnIn
import Derived.Test.YtejbpijamdlgcaaGreatDoorPTf1
import Derived.Test.YtejbpijamdlgcaaGreatDoorPVf1
import Derived.Test.YtejbpijamdlgcaaGreatDoorPdMP
set_option linter.unusedVariables false
set_option linter.unusedSimpArgs false
set_option maxRecDepth 100000
set_option maxHeartbeats 4000000
open Array renaming getElem?_eq_some_iff→aC,getElem?_modify→dZ,getElem?_toList→bg,toList_push→kZ
open Go renaming Value→aI,World→aj,bodyPost_ret→aN,cell_regrown→av,results→dK,run_underlying→bR,wpQuiet_nil→bQ,wp_region_quiet_below→aL
open Go.Builtin renaming delete_→lU
open Go.ChangeMaps renaming heap_setBlock_same→eZ,setBlock→bV
open Go.Instr renaming findAsking→gK,findKey→iN,keyThatStays→kM,mapEntry→mG
open Go.IntKind renaming u32→aA
open Go.Lib renaming hid→ah
open Go.MapKept renaming run_getObj_map→eU,run_setObj_map→gH
open Go.Maps renaming size→jD
open Go.Result renaming andThen_ok→eD,andThen→dh
open Go.RowKit.Below renaming block→aJ,refl→lV
open Go.Sem renaming run_bind→fQ
open Go.Sort renaming size_swp→nG
open Go.Value renaming int→aG
open Go.World renaming cell?_alloc_some→au
open List renaming cons_append→aV,eraseIdx_eq_take_drop_succ→lH,ext_getElem?→mO,getElem?_eq_some_iff→aF,getElem?_map→bY,length_cons→aH,length_nil→aR,length→jI,map_append→iw,mem_of_getElem?→aP,nil_append→bB,pairwise_iff_getElem→eT,size_toArray→mK
open Nat renaming le_refl→aD,zero_add→bH
namespace Go.Proofs.YtejbpijamdlgcaaGreatDoor
section
open Go.Sort
def gtI (x y:Int):Bool:=decide (y<x)
variable {d:Array Int} {n:Nat}
theorem VX:SWO gtI where
 irrefl x:=by simp[gtI]
 trans x y z h1 h2:=by simp[gtI] at*;omega
 ntrans x y z h1 h2:=by simp[gtI] at*;omega
def AY (n:Nat) (d:Array Int):Prop:=∀k,0<k->k<n->d[(k-1)/2]! <=d[k]!
theorem OV:AY n d↔∀i,i<n->Ok gtI 0 n d i:=by
 constructor
 ·intro h i hi k e a
  have:=h k ω a;rw[show(k-1)/2=i by omega] at this;simp only[bH,gtI,decide_eq_false_iff_not];omega
 ·intro h k f e
  have:=h ((k-1)/2) ω k ω e;simp only[bH,gtI,decide_eq_false_iff_not] at this;omega
theorem Uh (h:AY n d) {i:Nat} (hi:i<n):d[0]! <=d[i]! :=by
 have:=root_max VX (OV.1 h) i i (aD _) hi;simp only[bH,gtI,decide_eq_false_iff_not] at this;omega
def upA (j:Nat) (d:Array Int):Array Int:=
 if h:0<j/\d[j]! <d[(j-1)/2]! then upA ((j-1)/2) (swp d ((j-1)/2) j) else d
termination_by j
decreasing_by omega
theorem Y9 {j:Nat} (a:0<j) (h:d[j]! <d[(j-1)/2]!):upA j d=upA ((j-1)/2) (swp d ((j-1)/2) j):=by rw[upA,dif_pos ⟨a,h⟩]
theorem Il {j:Nat} (h:j=0\/¬d[j]! <d[(j-1)/2]!):upA j d=d:=by
 rw[upA,dif_neg];rintro⟨e,a⟩;rcases h with h|h
 ·omega
 ·exact h a
theorem Y8 (j:Nat):∀d:Array Int,(upA j d).size=d.size:=by
 induction j using Nat.strongRecOn with
 |_ j ih=>
  intro d;rw[upA]
  split
  ·rename_i h
   rw[ih _ ω,nG]
  ·rfl
theorem acw (n:Nat) (j:Nat):∀d:Array Int,d.size=n->j<n->(∀k,0<k->k<n->k≠j->d[(k-1)/2]! <=d[k]!)->(∀c,0<j->(c=2*j+1\/c=2*j+2)->c<n->d[(j-1)/2]! <=d[c]!)->
  AY n (upA j d)/\PermIn 0 n d (upA j d):=by
 induction j using Nat.strongRecOn with
 |_ j ih=>
  intro d Y hj e P2;by_cases N:0<j
  ·by_cases q:d[j]! <d[(j-1)/2]!
   ·rw[Y9 N q]
    obtain⟨i,hi⟩:∃i,i=(j-1)/2:=⟨_,rfl⟩;have u:i<j:=ω
    rw[<-hi] at q⊢;have O:(swp d i j)[i]! =d[j]! :=swp_left d _ _ ω ω;have I:(swp d i j)[j]! =d[i]! :=swp_right d _ _ ω;have go:∀k,k≠i->k≠j->(swp d i j)[k]! =d[k]! :=λk H z=>swp_other d _ _ _ H z
    obtain⟨U,Q⟩:=ih i u (swp d i j) (by rw[nG];exact Y) ω
     (λk k0 kn W=>by
       by_cases a:k=j
       ·subst a
        rw[<-hi,O,I];omega
       ·rw[go k W a]
        by_cases K:(k-1)/2=j
        ·rw[K,I]
         have:=P2 k N ω kn;rw[<-hi] at this;exact this
        ·by_cases f:(k-1)/2=i
         ·rw[f,O]
          have:=e k k0 kn a;rw[f] at this;omega
         ·rw[go _ f K]
          exact e k k0 kn a)
     (λc X hc Z=>by
       have M:(i-1)/2≠i/\(i-1)/2≠j:=ω
       rw[go _ M.1 M.2];have H:=e i X ω ω;by_cases J:c=j
       ·subst J
        rw[I];exact H
       ·rw[go c ω J]
        have z:=e c ω Z J;rw[show(c-1)/2=i by omega] at z;omega)
    exact⟨U,permIn_trans _ _ _ 0 n (swp_permIn d 0 n i j ω ω ω ω ω) Q⟩
   ·rw[Il (.inr q)]
    refine⟨λk k0 kn=>?_,permIn_refl _ _ _⟩;by_cases a:k=j
    ·subst a;omega
    ·exact e k k0 kn a
  ·rw[Il (.inl ω)]
   exact⟨λk k0 kn=>e k k0 kn ω,permIn_refl _ _ _⟩
theorem Jp {e:Array Int} (a:d.size=n) (h:PermIn 0 n d e):e.toList.Perm d.toList:=by
 have i:=h.2.2;have f:e.size=n:=h.1.trans a;have q:e.extract 0 n=e:=by rw[<-f];exact Array.extract_size
 have j:d.extract 0 n=d:=by rw[<-a];exact Array.extract_size
 rwa[q,j] at i
theorem Rz (d:Array Int) (x:Int) (k:Nat) (a:k<d.size):(d.push x)[k]! =d[k]! :=by
 rw[getElem!_pos _ k (by simp;omega),getElem!_pos d k a,Array.getElem_push_lt a]
theorem Xj (h:AY d.size d) (x:Int):AY (d.size+1) (upA d.size (d.push x))/\(upA d.size (d.push x)).toList.Perm (d.toList++[x]):=by
 have a:(d.push x).size=d.size+1:=ι
 obtain⟨f,e⟩:=acw (d.size+1) d.size (d.push x) a ω
  (λk k0 kn i=>by rw[Rz d x k ω,Rz d x _ ω];exact h k k0 ω)
  (λc _ j q=>ω)
 refine⟨f,?_⟩;have:=Jp a e;simpa using this
def zY (d:Array Int):Array Int:=siftDown gtI (d.size-1) 0 0 (swp d 0 (d.size-1))
theorem Qv (e:d.size=n+1) (h:AY (n+1) d):
  (zY d).size=n+1/\(zY d)[n]! =d[0]! /\AY n (zY d)/\(zY d).toList.Perm d.toList:=by
 unfold zY;rw[e,show n+1-1=n by omega];have f:=OV.1 h;have go:∀k,k≠0->k≠n->(swp d 0 n)[k]! =d[k]! :=λk K z=>swp_other d _ _ _ K z
 have M:(swp d 0 n)[n]! =d[0]! :=swp_right d _ _ ω;obtain⟨N,q⟩:=sift VX n 0 0 n 0 (swp d 0 n) ω (by rw[nG];omega) (aD _)
  (λi _ z J a j u=>by
   rw[show 0+i=i by omega,show 0+a=a by omega,go i J ω,go a ω ω];have:=f i ω a j ω;simpa using this)
  (λp _ O=>ω)
 have I:(siftDown gtI n 0 0 (swp d 0 n)).size=n+1:=by rw[q.1,nG];exact e
 refine⟨I,?_,OV.2 λi hi=>N i (Nat.zero_le _) hi,?_⟩
 ·rw[q.2.1 n (.inr ω),M]
 ·have H:=Jp (n:=n+1) (by rw[nG];exact e) (permIn_mono _ _ 0 (0+n) 0 (n+1) ω ω (by rw[nG];omega) q)
  exact H.trans (Jp e (swp_permIn d 0 (n+1) 0 n ω ω ω ω ω))
end
section
open Go.ChangeShapes Go.WideShapes Go.ChangeAt Go.RowKit Go.Sort
def uN:List (I2×aI)->I2->Option (Nat×aI)
 |[],_=>none
 |p::r,a=>if p.1=a then some (0,p.2) else(uN r a).map λq=>(q.1+1,q.2)
variable {a:I2} {b st:Nat} {l:List (I2×aI)} {w w':aj}
theorem Ku (l:List (I2×aI)) (a:I2):(uN l a).map (·.2)=lkp l a:=by
 induction l with
 |nil=>rfl
 |cons p l ih=>
  rw[uN,lkp]
  split
  ·rfl
  ·rw[<-ih,Option.map_map];rfl
theorem EZ {i:Nat} {v:aI} (h:uN l a=some (i,v)):l[i]? =some (a,v):=by
 induction l generalizing i with
 |nil=>cases h
 |cons p l ih=>
  rw[uN] at h
  split at h
  ·rename_i e
   cases h;rw[<-e];rfl
  ·cases f:uN l a with
   |none=>rw[f] at h;cases h
   |some q=>
    rw[f] at h;cases h;exact ih f
theorem Nu (a b:Int) (W:aj):∀(f:List MapEntry) (l:List (I2×aI)) (i:Nat),f.map (λe=>(e.key,e.val))=l.map (λp=>(idv p.1.1 p.1.2,p.2))->
  (gK 55 (idv a b) f i).run Tryz.prog W= .ok ((uN l (a,b)).map λq=>(q.1+i,q.2)) W
 |[],[],i,_=>rfl
 |[],p::l,i,h=>by simp at h
 |e::f,[],i,h=>by simp at h
 |e::f,p::l,i,h=>by
  obtain⟨⟨c,d⟩,v⟩:=p;simp only[List.map_cons,List.cons.injEq,Prod.mk.injEq] at h;obtain⟨⟨u,K⟩,J⟩:=h;by_cases j:c=a/\d=b
  ·obtain⟨rfl,rfl⟩:=j
   unfold gK;simp[u,K,EL,dh,uN]
  ·have I:decide (a=c/\b=d)=false:=decide_eq_false (λe=>j ⟨e.1.symm,e.2.symm⟩)
   have z:=Nu a b W f l (i+1) J;unfold gK;simp only[fQ,u,EL,I,eD];have H:uN (((c,d),v)::l) (a,b)=(uN l (a,b)).map λq=>(q.1+1,q.2):=by
        rw[uN,if_neg (λe=>j (by injection e with e1 e2;exact⟨e1,e2⟩))]
   rw[H];simp only[Option.map_map];have:((λq:Nat×aI=>(q.1+i,q.2))∘λq=>(q.1+1,q.2))=λq:Nat×aI=>(q.1+(i+1),q.2):=by
       funext q;simp;omega
   rw[this];simpa using z
theorem V4 (a b:Int) (W:aj) (f:List MapEntry) (l:List (I2×aI)) (h:f.map (λe=>(e.key,e.val))=l.map (λp=>(idv p.1.1 p.1.2,p.2))):
  (iN 55 (idv a b) f).run Tryz.prog W= .ok (uN l (a,b)) W:=by
 have i:=Nu a b W f l 0 h;have j:((uN l (a,b)).map λq=>(q.1+0,q.2))=uN l (a,b):=by cases uN l (a,b) <;> rfl
 rw[j] at i;unfold iN;simp only[fQ,bR Tryz.underlying55,eD];cases f with
 |nil=>simpa[Instr.findNow,gK] using i
 |cons e f=>simpa[Instr.findNow,Instr.sameNow] using i
def AJ (w:aj) (b:Nat) (l:List (I2×aI)):Prop:=∃i f,w.heap[b]? =some (.map i f)/\i.toList.map (λe=>(e.key,e.val))=l.map (λp=>(idv p.1.1 p.1.2,p.2))/\
 i.toList.Pairwise (λx y=>x.born≠y.born)/\∀e∈i.toList,e.born<f
theorem AJ.lt (h:AJ w b l):b<w.heap.size:=by
 obtain⟨i,f,e,_⟩:=h;exact(aC.1 e).1
theorem AJ.plain (h:AJ w b l):vJ w b l:=by
 obtain⟨j,e,i,f,_⟩:=h;exact⟨j,e,i,f⟩
theorem AJ.of (h:AJ w b l) (e:w'.heap[b]? =w.heap[b]?):AJ w' b l:=by
 obtain⟨j,f,i,r⟩:=h;exact⟨j,f,e.trans i,r⟩
theorem AJ.ext (h:AJ w b l) (e:Ext w w'):AJ w' b l:=h.of (aJ e b h.lt)
theorem Zu (a b:Int) (W:aj):(kM (idv a b) (idv a b)).run Tryz.prog W= .ok (idv a b) W:=by
 have h:Instr.sameBits 10000 (idv a b) (idv a b)=true:=by simp[Instr.sameBits]
 unfold kM;rw[if_pos h];rfl
def PK (w:aj) (b:Nat) (l:List (I2×aI)) (a:I2) (st:Nat):Prop:=∃f j,w.heap[b]? =some (.map f j)/\f.toList.map (λe=>(e.key,e.val))=l.map (λp=>(idv p.1.1 p.1.2,p.2))/\
 f.toList.Pairwise (λx y=>x.born≠y.born)/\(∀e∈f.toList,e.born<j)/\∃(i:Nat) (v:aI) (e:MapEntry),uN l a=some (i,v)/\f.toList[i]? =some e/\e.born=st
theorem PK.of (h:PK w b l a st) (e:w'.heap[b]? =w.heap[b]?):PK w' b l a st:=by
 obtain⟨j,f,i,r⟩:=h;exact⟨j,f,e.trans i,r⟩
theorem PK.lt (h:PK w b l a st):b<w.heap.size:=by
 obtain⟨i,f,e,_⟩:=h;exact(aC.1 e).1
def H9 (l:List (I2×aI)) (a:I2):List (I2×aI):=if(lkp l a).isSome then l else l++[(a,.slice none 0 0)]
theorem Yk (v:aI) (h:uN l a=none):uN (l++[(a,v)]) a=some (l.length,v):=by
 induction l with
 |nil=>simp[uN]
 |cons p l ih=>
  rw[uN] at h
  split at h
  ·cases h
  ·rename_i e
   have i:uN l a=none:=by cases f:uN l a with
        |none=>rfl
        |some q=>rw[f] at h;cases h
   rw[aV,uN,if_neg e,ih i];simp
theorem zL (w:aj) (b:Nat) (u:Array MapEntry) (f:Nat) (j:Obj) (q:w.heap[b]? =some (.map u f)):w.grownBy (bV w b j) (some b):=
 ⟨rfl,rfl,rfl,by simp[bV],λi _ hi=>ChangeMaps.heap_setBlock_other q _ (λe=>hi (by rw[e]))⟩
theorem AJ.entry (h:AJ w b l) {T E:TypeId} (ht:Tryz.prog.underlying T=some (.map 55 E)) (hz:(zeroValue E).run Tryz.prog w= .ok (.slice none 0 0) w) (a:I2):
  ∃w' st,(mG T (.map (some b)) (.agg #[.int .u32 a.1,.int .u32 a.2])).run Tryz.prog w= .ok (.tuple #[(lkp l a).getD (.slice none 0 0),.int .i64 (st:Nat)]) w'/\PK w' b (H9 l a) a st/\w.grownBy w' (some b):=by
 obtain⟨f,u,I,U,hp,hc⟩:=h;have Z:=V4 a.1 a.2 w f.toList l U;have hk:=EM false a.1 a.2 w;have H:=Ku l a;cases O:uN l a with
 |none=>
  rw[O] at Z H;have M:lkp l a=none:=H.symm;refine⟨bV w b (.map (f.push { key:=idv a.1 a.2,val:= .slice none 0 0,born:=u }) (u+1)),u,?_,?_,zL w b _ _ _ I⟩
  ·have J:(iN 55 (.agg #[.int .u32 a.1,.int .u32 a.2]) f.toList).run Tryz.prog w= .ok none w:=Z
   simp[mG,bR ht,eU I,hk,J,hz,gH _ I,dh,bV,M,goInt]
  ·refine⟨_,_,eZ I _,?_,?_,?_,l.length,.slice none 0 0,{ key:=idv a.1 a.2,val:= .slice none 0 0,born:=u },?_,?_,rfl⟩
   ·unfold H9
    rw[M];simp[U]
   ·simp only[kZ]
    refine List.pairwise_append.2 ⟨hp,ι,λx hx y hy=>?_⟩;simp at hy;subst hy;have:=hc x hx;simp;omega
   ·intro e z
    simp only[kZ,List.mem_append,List.mem_singleton] at z;rcases z with z|rfl
    ·have:=hc e z;omega
    ·simp
   ·unfold H9
    rw[M];exact Yk _ O
   ·have Q:f.toList.length=l.length:=by have:=congrArg jI U;simpa using this
    rw[kZ,List.getElem?_append_right ω,Q];simp
 |some q=>
  obtain⟨i,v⟩:=q;rw[O] at Z H;have M:lkp l a=some v:=H.symm;have a1:=EZ O;have a3:∃e,f.toList[i]? =some e/\e.key=idv a.1 a.2/\e.val=v:=by
   have K:(f.toList.map (λe=>(e.key,e.val)))[i]? =some (idv a.1 a.2,v):=by rw[U,bY,a1];rfl
   rw[bY] at K;cases z:f.toList[i]? with
   |none=>rw[z] at K;cases K
   |some e=>
    rw[z] at K;simp at K;exact⟨e,rfl,K.1,K.2⟩
  obtain⟨e,z,X,a5⟩:=a3;have Y:f[i]? =some e:=by rw[<-bg];exact z
  have a0:=Zu a.1 a.2 w;have a2:(f.modify i λe=>{ e with key:=idv a.1 a.2 })=f:=by
   apply Array.ext_getElem?;intro j;rw[dZ]
   split
   ·rename_i e1
    subst e1;rw[Y];simp[<-X]
   ·rfl
  refine⟨bV w b (.map f u),e.born,?_,?_,zL w b _ _ _ I⟩
  ·have J:(iN 55 (.agg #[.int .u32 a.1,.int .u32 a.2]) f.toList).run Tryz.prog w= .ok (some (i,v)) w:=Z
   have N:(kM (.agg #[.int .u32 a.1,.int .u32 a.2]) (.agg #[.int .u32 a.1,.int .u32 a.2])).run Tryz.prog w= .ok (.agg #[.int .u32 a.1,.int .u32 a.2]) w:=a0;have W:(f.modify i λe=>{ e with key:= .agg #[.int .u32 a.1,.int .u32 a.2] })=f:=a2;have a4:e.key= .agg #[.int .u32 a.1,.int .u32 a.2]:=X;simp[mG,bR ht,eU I,hk,J,Y,a4,N,W,gH _ I,dh,bV,M,goInt]
  ·refine⟨_,_,eZ I _,?_,hp,hc,i,v,e,?_,z,rfl⟩
   ·unfold H9
    rw[M];exact U
   ·unfold H9
    rw[M];exact O
def Tm (l:List (I2×aI)) (a:I2) (v:aI):List (I2×aI):=l.map λp=>if p.1=a then(a,v) else p
theorem Un {i:Nat} {v:aI} (h:uN l a=some (i,v)) (z:(l.map (·.1)).Nodup):∀j p,l[j]? =some p->p.1=a->j=i:=by
 intro j p I H;have hi:=EZ h;have q:(l.map (·.1))[i]? =some a:=by rw[bY,hi];rfl
 have f:(l.map (·.1))[j]? =some a:=by rw[bY,I];simp[H]
 have l1:=(aF.1 q).1;have u:=(aF.1 f).1;rcases Nat.lt_trichotomy i j with e|e|e
 ·have:=eT.1 z i j l1 u e
  rw[(aF.1 q).2,(aF.1 f).2] at this;exact absurd rfl this
 ·exact e.symm
 ·have:=eT.1 z j i u l1 e
  rw[(aF.1 q).2,(aF.1 f).2] at this;exact absurd rfl this
theorem PK.store (h:PK w b l a st) (hn:(l.map (·.1)).Nodup) (T:TypeId) (val:aI):
  ∃w',(Instr.entryStore T (.map (some b)) (.int .i64 (st:Nat)) val).run Tryz.prog w= .ok () w'/\AJ w' b (Tm l a val)/\w.grownBy w' (some b):=by
 obtain⟨u,O,Q,hl,Z,hc,i,v,e,hf,he,J⟩:=h;have W:=EZ hf;have K:i<u.size:=by have:=(aF.1 he).1;simpa using this
 have N:u[i]=e:=by have:=(aF.1 he).2;simpa using this
 have M:u.findIdx? (λe=>(e.born:Int)==((st:Nat):Int))=some i:=by
  rw[Array.findIdx?_eq_some_iff_getElem];refine⟨K,by rw[N,J];simp,λj H=>?_⟩;have:=eT.1 Z j i (by simp;omega) (by simpa using K) H;simp only[Array.getElem_toList] at this;rw[N,J] at this;simp;omega
 refine⟨bV w b (.map (u.modify i λe=>{ e with val }) O),?_,⟨_,O,eZ Q _,?_,?_,?_⟩,zL w b _ _ _ Q⟩
 ·have X:Sem.run Tryz.prog (asIntOf (.int .i64 ((st:Nat):Int))) w= .ok (.i64,((st:Nat):Int)) w:=rfl
  simp[Instr.entryStore,eU Q,asInt,X,M,gH _ Q,dh,bV]
 ·apply mO
  intro j;have f:(u.toList.map (λe=>(e.key,e.val)))[j]? =(l.map (λp=>(idv p.1.1 p.1.2,p.2)))[j]? :=by rw[hl]
  rw[bY,bY] at f;unfold Tm;rw[bY,bY,bY,bg,dZ];rw[bg] at f;cases z:l[j]? with
  |none=>
   rw[z] at f;cases q:u[j]? with
   |none=>simp
   |some Y=>rw[q] at f;cases f
  |some p=>
   rw[z] at f;cases q:u[j]? with
   |none=>rw[q] at f;cases f
   |some Y=>
    rw[q] at f;simp at f;by_cases I:i=j
    ·subst I
     rw[W] at z;cases z;simp[f.1]
    ·have U:p.1≠a:=λe3=>I (Un hf hn j p z e3).symm
     simp[I,U,f.1,f.2]
 ·have hm:(u.modify i λe=>{ e with val }).toList.map (·.born)=u.toList.map (·.born):=by
   apply mO;intro j;rw[bY,bY,bg,bg,dZ]
   split
   ·cases u[j]? <;> rfl
   ·rfl
  have h1:(u.toList.map (·.born)).Pairwise (· ≠·):=List.pairwise_map.2 Z;rw[<-hm] at h1;exact List.pairwise_map.1 h1
 ·intro x hx
  obtain⟨j,H⟩:=List.getElem?_of_mem hx;rw[bg,dZ] at H
  split at H
  ·cases q:u[j]? with
   |none=>rw[q] at H;cases H
   |some Y=>
    rw[q] at H;simp at H;rw[<-H];exact hc Y (aP (by rw[bg];exact q))
  ·exact hc x (aP (by rw[bg];exact H))
def RZ (l:List (I2×aI)) (a:I2):List (I2×aI):=l.filter λp=>decide (p.1≠a)
theorem Nc:∀{l:List (I2×aI)} {a:I2} {i:Nat} {v:aI},uN l a=some (i,v)->(l.map (·.1)).Nodup->RZ l a=l.eraseIdx i
 |[],_,_,_,h,_=>by cases h
 |p::l,a,i,v,h,hn=>by
  have f:p.1∉l.map (·.1)/\(l.map (·.1)).Nodup:=List.nodup_cons.1 hn;rw[uN] at h
  split at h
  ·rename_i e
   cases h;have:RZ l a=l:=List.filter_eq_self.2 λq u=>by
        simp only[decide_eq_true_eq];intro z;exact f.1 (by rw[e,<-z];exact List.mem_map.2 ⟨q,u,rfl⟩)
   show(p::l).filter _=_;rw[List.filter_cons_of_neg (by simp[e])];simpa[RZ] using this
  ·rename_i e
   cases j:uN l a with
   |none=>rw[j] at h;cases h
   |some q=>
    rw[j] at h;cases h;have ih:=Nc j f.2;show(p::l).filter _=_;rw[List.filter_cons_of_pos (by simp[e])];simp only[List.eraseIdx_cons_succ]
    congr 1
theorem abH (h:uN l a=none):RZ l a=l:=by
 refine List.filter_eq_self.2 λq e=>?_
 have f:lkp l a=none:=by rw[<-Ku,h];rfl
 simpa using JO.1 f q e
theorem AJ.drop (h:AJ w b l) (Z:(l.map (·.1)).Nodup) {T E:TypeId} (Q:Tryz.prog.underlying T=some (.map 55 E)) (a:I2) (Y:TypeId):
  ∃w',(lU #[T,55] Y #[.map (some b),.agg #[.int .u32 a.1,.int .u32 a.2]]).run Tryz.prog w= .ok (.tuple #[]) w'/\AJ w' b (RZ l a)/\w.grownBy w' (some b):=by
 obtain⟨e,f,j,J,U,X⟩:=h;have K:=V4 a.1 a.2 w e.toList l J;have W:=EM e.isEmpty a.1 a.2 w;cases H:uN l a with
 |none=>
  rw[H] at K;have u:(iN 55 (.agg #[.int .u32 a.1,.int .u32 a.2]) e.toList).run Tryz.prog w= .ok none w:=K;refine⟨bV w b (.map e f),?_,⟨e,f,eZ j _,by rw[abH H];exact J,U,X⟩,zL w b _ _ _ j⟩;simp[lU,bR Q,eU j,W,u,gH _ j,dh,bV]
 |some q=>
  obtain⟨i,v⟩:=q;rw[H] at K;have u:(iN 55 (.agg #[.int .u32 a.1,.int .u32 a.2]) e.toList).run Tryz.prog w= .ok (some (i,v)) w:=K;have M:=EZ H;have I:e.toList.length=l.length:=by have:=congrArg jI J;simpa using this
  have N:i<e.size:=by have:=(aF.1 M).1;simp at I;omega
  have z:(e.eraseIdxIfInBounds i).toList=e.toList.eraseIdx i:=by
   unfold Array.eraseIdxIfInBounds;rw[dif_pos N];simp
  refine⟨bV w b (.map (e.eraseIdxIfInBounds i) f),?_,⟨_,f,eZ j _,?_,?_,?_⟩,zL w b _ _ _ j⟩
  ·simp[lU,bR Q,eU j,W,u,gH _ j,dh,bV]
  ·rw[z,Nc H Z,lH,lH,iw,iw,List.map_take,List.map_drop,List.map_take,List.map_drop,J]
  ·rw[z]
   exact U.sublist (List.eraseIdx_sublist _ _)
  ·intro x O
   rw[z] at O;exact X x ((List.eraseIdx_sublist _ _).subset O)
end
section
open Go.ChangeShapes Go.WideShapes Go.ChangeAt Go.RowKit Go.Sort Go.Maps
abbrev MapU (w:aj) (b n:Nat) (D:DataW Unit):Prop:=w.ownsMap Tryz.prog 24 (plainElem (H:=Unit) Tryz.prog 24) b n D
variable {c:Int}
theorem D5:Keyed Tryz.prog 24:=int_keyed Tryz.underlying24
theorem wfU (e:0<=c) (a:c<=4294967295):(Lit.int .u32 c).wf=true:=by
 simp[Lit.wf,IntKind.min,IntKind.max,IntKind.signed,IntKind.bits];omega
theorem aaz (e:0<=c) (a:c<=4294967295):keyOf Tryz.prog 24 (.int .u32 c)=some (.int .u32 c):=keyOf_int_mk Tryz.underlying24 (wfU e a)
theorem ahb (e:0<=c) (a:c<=4294967295):WideAt.IsKeyLit (.int .u32 c):=D5.key (aaz e a)
def Ij (D:DataW Unit) (a V:List (Int×Int)):Prop:=(∀c,0<=c->c<=4294967295->if has D (.int .u32 c)=true then D.atKey (.int .u32 c) (.lit (.int .u32 0))= .lit (.int .u32 (nW V c)) else nW a c=nW V c)/\
 ∀c,has D (.int .u32 c)=true->0<c/\c<=4294967295/\0<nW V c/\nW a c<=nW V c
theorem TN (V:List (Int×Int)):Ij (.map []) V V:=⟨λc e a=>by rw[if_neg (by simp[has])],λc h=>by simp[has] at h⟩
theorem MapU.ext {w w':aj} {b n:Nat} {D:DataW Unit} (h:MapU w b n D) (f:Ext w w'):MapU w' b n D:=by
 have e:=h.lt;obtain⟨u,a,j,F,i,q⟩:=h;exact⟨u,a,(aJ f b e).trans j,F,i,q⟩
theorem YU (w:aj):(zeroValue 24).run Tryz.prog w= .ok (.int .u32 0) w:=κ
def Kn (w:aj) (m:Option Nat) (a V:List (Int×Int)):Prop:=(m=none/\a=V)\/∃b e D,m=some b/\MapU w b e D/\Ij D a V
theorem Kn.ext {w w':aj} {m:Option Nat} {a V:List (Int×Int)} (h:Kn w m a V) (i:Ext w w'):Kn w' m a V:=by
 rcases h with h|⟨b,f,D,e,q,j⟩
 ·exact .inl h
 ·exact .inr ⟨b,f,D,e,q.ext i,j⟩
theorem Kn.look {w:aj} {m:Option Nat} {q V:List (Int×Int)} (h:Kn w m q V) (j:0<=c) (i:c<=4294967295):
  ∃(v:Int) (g:Bool),(Instr.lookup 210 (.map m) (.int .u32 c) true).run Tryz.prog w= .ok (.tuple #[.int .u32 v,.bool g]) w/\(g=true->v=nW V c)/\(g=false->nW q c=nW V c):=by
 rcases h with⟨rfl,rfl⟩|⟨b,nn,D,rfl,hM,hV⟩
 ·exact⟨0,false,Maps.look_nil true D5 Tryz.underlying210 (YU w) (aaz j i),ι,λ_=>rfl⟩
 ·obtain⟨v,I,u,hv⟩:=hM.look_ok D5 Tryz.underlying210 (YU w) (plainElem_int (H:=Unit) Tryz.underlying24 (wfU (c:=0) ω ω)) (aaz j i)
  obtain⟨x,rfl,e,_⟩:=plainElem_int_inv Tryz.underlying24 hv;have z:D.atKey (.int .u32 c) (.lit (.int .u32 0))= .lit (.int .u32 x):=congrArg Prod.fst e;have a:=hV.1 c j i;refine⟨x,has D (.int .u32 c),u,λf=>?_,λf=>?_⟩
  ·rw[if_pos f,z] at a
   simp only[DataW.lit.injEq,Lit.int.injEq,true_and] at a;exact a
  ·rw[if_neg (by rw[f];simp)] at a
   exact a
end
section
open Go.ChangeShapes Go.WideShapes Go.ChangeAt Go.RowKit Go.Sort Go.Maps
attribute [local go_sem] au
abbrev knv (A:Option Addr) (n cap:Nat) (m:Option Nat):aI:= .agg #[.slice A n cap,.map m]
structure KnA (W:aj) (A:Option Addr) (n cap:Nat) (m:Option Nat) (V0 V:List (Int×Int)):Prop where
 vec:Vec W A V0
 len:V0.length=n
 may:oq 0 V0=true
 le:n<=400000
 kn:Kn W m V0 V
theorem KnA.ext {W W':aj} {A:Option Addr} {n cap:Nat} {m:Option Nat} {e V:List (Int×Int)} (h:KnA W A n cap m e V) (a:Ext W W'):KnA W' A n cap m e V:=⟨h.vec.ext a,h.len,h.may,h.le,h.kn.ext a⟩
theorem MC (A:Option Addr) (n cap:Nat) (m:Option Nat) (j V:List (Int×Int)) (c:Int) (w:aj) (h:KnA w A n cap m j V) (z:0<=c) (u:c<=4294967295):
  Calls Tryz.prog 210 #[knv A n cap m,Vu c] w λe w'=>e= .returned (Vu (nW V c))/\Ext w w':=by
 have x1:Ext w (w.alloc (.cells #[.slice A n cap,.map m] 212)):=(Ext.refl _).alloc _;have i:=h.ext x1;obtain⟨v,g,K,f,a⟩:=i.kn.look z u;have q:=ah (JC A n cap j c _ i.vec i.len i.may i.le);have c0:(w.alloc (.cells #[.slice A n cap,.map m] 212)).cell? ⟨w.heap.size,0,none⟩=some (.slice A n cap):=ι
 have c1:(w.alloc (.cells #[.slice A n cap,.map m] 212)).cell? ⟨w.heap.size,1,none⟩=some (.map m):=ι
 replace f:=ah f;replace a:=ah a;replace i:=ah i;clear h;go_enter Tryz.func210,Tryz.ntmps210
 go_upto_region 1 with fail
 generalize w.alloc (.cells #[.slice A n cap,.map m] 212)=I at*;generalize w.heap.size=J at*;cases g with
 |true=>
  go_wp2_with fail
  go_ret;exact⟨CV (f.out (by trivial)),x1⟩
 |false=>
  go_wp2_with fail
  refine q.out.mono ?_;rintro e H ⟨rfl,x2⟩;have x3:=ah (x1.trans x2)
  go_wp2_with fail
  go_ret;exact⟨CV (a.out (by trivial)),x3.out⟩
def F8 (V:List (Int×Int)) (a b:Int):Bool:=decide (a=0)||decide (b<nW V a)
theorem BH (A:Option Addr) (n cap:Nat) (m:Option Nat) (I V:List (Int×Int)) (a b:Int) (w:aj) (h:KnA w A n cap m I V) (N:0<=a) (M:a<=4294967295):
  Calls Tryz.prog 211 #[knv A n cap m,idv a b] w λe w'=>e= .returned (.bool (F8 V a b))/\Ext w w':=by
 obtain⟨B,u⟩:∃B,F8 V a b=B:=⟨_,rfl⟩;rw[u];have x1:Ext w ((w.alloc (.cells #[.slice A n cap,.map m] 212)).alloc (.cells #[.int .u32 a,.int .u32 b] 55)):=((Ext.refl _).alloc _).alloc _;have c0:((w.alloc (.cells #[.slice A n cap,.map m] 212)).alloc (.cells #[.int .u32 a,.int .u32 b] 55)).cell? ⟨w.heap.size,0,none⟩=some (.slice A n cap):=σ
 have c1:((w.alloc (.cells #[.slice A n cap,.map m] 212)).alloc (.cells #[.int .u32 a,.int .u32 b] 55)).cell? ⟨w.heap.size,1,none⟩=some (.map m):=σ
 have c2:((w.alloc (.cells #[.slice A n cap,.map m] 212)).alloc (.cells #[.int .u32 a,.int .u32 b] 55)).cell? ⟨w.heap.size+1,0,none⟩=some (Vu a):=σ
 have c3:((w.alloc (.cells #[.slice A n cap,.map m] 212)).alloc (.cells #[.int .u32 a,.int .u32 b] 55)).cell? ⟨w.heap.size+1,1,none⟩=some (Vu b):=σ
 go_enter Tryz.func211,Tryz.ntmps211;have i:=ah (λ(W:aj)=>qM a b W);have H:=ah (λ(W:aj) (K:Ext w W)=>MC A n cap m I V a W (h.ext K) N M);clear h;by_cases z:a=0
 ·have j:(a==0)=true:=by simpa using z
  replace u:=ah (show B=true by rw[<-u];simp[F8,z]);rw[j] at i;subst z
  go_wp2_with fail
  generalize(w.alloc (.cells #[.slice A n cap,.map m] 212)).alloc (.cells #[.int .u32 0,.int .u32 b] 55)=w1 at*;generalize w.heap.size=J at*;replace c0:=av c0;replace c1:=av c1;replace c2:=av c2;replace c3:=av c3;refine aL κ κ ?_
  repeat go_big_quiet_step((first|with_reducible exact Calls.oh (i.out _)))
  refine bQ ?_;intro _ q;obtain⟨⟨O,osq⟩,f⟩:=q;subst f;go_wp2;go_ret;exact⟨pR u.out.symm,x1.trans (Ext.nX _ _ _)⟩
 ·have j:(a==0)=false:=by simpa using z
  replace u:=ah (show B=decide (b<nW V a) by rw[<-u];simp[F8,z]);rw[j] at i
  go_wp2_with fail
  generalize(w.alloc (.cells #[.slice A n cap,.map m] 212)).alloc (.cells #[.int .u32 a,.int .u32 b] 55)=w1 at*;generalize w.heap.size=J at*;replace c0:=av c0;replace c1:=av c1;replace c2:=av c2;replace c3:=av c3;refine aL κ κ ?_
  repeat go_big_quiet_step((first|with_reducible exact Calls.oh (i.out _)|with_reducible exact Calls.oh (H.out _ (x1.trans (Ext.nX _ _ _)))))
  refine bQ ?_;intro _ q;obtain⟨⟨O,osq⟩,f⟩:=q;subst f;go_wp2;go_ret;exact⟨pR u.out.symm,x1.trans (Ext.nX _ _ _)⟩
def awI (V:List (Int×Int)) (x:It):Option I2:=
 if x.k=nW V x.c then(if F8 V x.lc x.lk then(if F8 V x.rc x.rk then none else some (x.rc,x.rk)) else some (x.lc,x.lk)) else some (x.c,aA.wrap (x.k-1))
theorem agB (V:List (Int×Int)) (x:It):(awI V x).isSome= !yx V x:=by
 unfold awI yx F8;by_cases a:x.k=nW V x.c
 ·rw[if_pos a,decide_eq_true a,Bool.true_and]
  cases(decide (x.lc=0)||decide (x.lk<nW V x.lc)) <;> cases(decide (x.rc=0)||decide (x.rk<nW V x.rc)) <;> rfl
 ·rw[if_neg a,decide_eq_false a]
  rfl
theorem Sn (A:Option Addr) (n cap:Nat) (m:Option Nat) (V0 V:List (Int×Int)) (x:It) (w:aj) (h:KnA w A n cap m V0 V) (hx:wfI x):
  Calls Tryz.prog 171 #[knv A n cap m,itv x] w λe w'=>e= .returned (.tuple #[idv ((awI V x).getD (0,0)).1 ((awI V x).getD (0,0)).2,.bool (awI V x).isSome])/\Ext w w':=by
 obtain⟨R,a⟩:∃R,awI V x=R:=⟨_,rfl⟩;rw[a];unfold awI at a;obtain⟨b8,b7,e7,e6,a5,a4,b6,a9,a3,a2,a8,a7,_,_⟩:=hx;have X:Ext w (((w.alloc (.cells #[.slice A n cap,.map m] 212)).alloc (.cells #[.int .u32 x.c,.int .u32 x.k,.int .u32 x.lc,.int .u32 x.lk,.int .u32 x.rc,.int .u32 x.rk,.int .i32 x.ch] 57)).alloc (.cells #[.int .u32 0,.int .u32 0] 55)):=(((Ext.refl _).alloc _).alloc _).alloc _;have O:(((w.alloc (.cells #[.slice A n cap,.map m] 212)).alloc (.cells #[.int .u32 x.c,.int .u32 x.k,.int .u32 x.lc,.int .u32 x.lk,.int .u32 x.rc,.int .u32 x.rk,.int .i32 x.ch] 57)).alloc (.cells #[.int .u32 0,.int .u32 0] 55)).cell? ⟨w.heap.size,0,none⟩=some (.slice A n cap):=σ
 have N:(((w.alloc (.cells #[.slice A n cap,.map m] 212)).alloc (.cells #[.int .u32 x.c,.int .u32 x.k,.int .u32 x.lc,.int .u32 x.lk,.int .u32 x.rc,.int .u32 x.rk,.int .i32 x.ch] 57)).alloc (.cells #[.int .u32 0,.int .u32 0] 55)).cell? ⟨w.heap.size,1,none⟩=some (.map m):=σ
 have M:(((w.alloc (.cells #[.slice A n cap,.map m] 212)).alloc (.cells #[.int .u32 x.c,.int .u32 x.k,.int .u32 x.lc,.int .u32 x.lk,.int .u32 x.rc,.int .u32 x.rk,.int .i32 x.ch] 57)).alloc (.cells #[.int .u32 0,.int .u32 0] 55)).cell? ⟨w.heap.size+1,0,none⟩=some (Vu x.c):=σ
 have K:(((w.alloc (.cells #[.slice A n cap,.map m] 212)).alloc (.cells #[.int .u32 x.c,.int .u32 x.k,.int .u32 x.lc,.int .u32 x.lk,.int .u32 x.rc,.int .u32 x.rk,.int .i32 x.ch] 57)).alloc (.cells #[.int .u32 0,.int .u32 0] 55)).cell? ⟨w.heap.size+1,1,none⟩=some (Vu x.k):=σ
 have J:(((w.alloc (.cells #[.slice A n cap,.map m] 212)).alloc (.cells #[.int .u32 x.c,.int .u32 x.k,.int .u32 x.lc,.int .u32 x.lk,.int .u32 x.rc,.int .u32 x.rk,.int .i32 x.ch] 57)).alloc (.cells #[.int .u32 0,.int .u32 0] 55)).cell? ⟨w.heap.size+1,2,none⟩=some (Vu x.lc):=σ
 have I:(((w.alloc (.cells #[.slice A n cap,.map m] 212)).alloc (.cells #[.int .u32 x.c,.int .u32 x.k,.int .u32 x.lc,.int .u32 x.lk,.int .u32 x.rc,.int .u32 x.rk,.int .i32 x.ch] 57)).alloc (.cells #[.int .u32 0,.int .u32 0] 55)).cell? ⟨w.heap.size+1,3,none⟩=some (Vu x.lk):=σ
 have H:(((w.alloc (.cells #[.slice A n cap,.map m] 212)).alloc (.cells #[.int .u32 x.c,.int .u32 x.k,.int .u32 x.lc,.int .u32 x.lk,.int .u32 x.rc,.int .u32 x.rk,.int .i32 x.ch] 57)).alloc (.cells #[.int .u32 0,.int .u32 0] 55)).cell? ⟨w.heap.size+1,4,none⟩=some (Vu x.rc):=σ
 have z:(((w.alloc (.cells #[.slice A n cap,.map m] 212)).alloc (.cells #[.int .u32 x.c,.int .u32 x.k,.int .u32 x.lc,.int .u32 x.lk,.int .u32 x.rc,.int .u32 x.rk,.int .i32 x.ch] 57)).alloc (.cells #[.int .u32 0,.int .u32 0] 55)).cell? ⟨w.heap.size+1,5,none⟩=some (Vu x.rk):=σ
 have i:(((w.alloc (.cells #[.slice A n cap,.map m] 212)).alloc (.cells #[.int .u32 x.c,.int .u32 x.k,.int .u32 x.lc,.int .u32 x.lk,.int .u32 x.rc,.int .u32 x.rk,.int .i32 x.ch] 57)).alloc (.cells #[.int .u32 0,.int .u32 0] 55)).cell? ⟨w.heap.size+1+1,0,none⟩=some (Vu 0):=σ
 have f:(((w.alloc (.cells #[.slice A n cap,.map m] 212)).alloc (.cells #[.int .u32 x.c,.int .u32 x.k,.int .u32 x.lc,.int .u32 x.lk,.int .u32 x.rc,.int .u32 x.rk,.int .i32 x.ch] 57)).alloc (.cells #[.int .u32 0,.int .u32 0] 55)).cell? ⟨w.heap.size+1+1,1,none⟩=some (Vu 0):=σ
 have Y:(((w.alloc (.cells #[.slice A n cap,.map m] 212)).alloc (.cells #[.int .u32 x.c,.int .u32 x.k,.int .u32 x.lc,.int .u32 x.lk,.int .u32 x.rc,.int .u32 x.rk,.int .i32 x.ch] 57)).alloc (.cells #[.int .u32 0,.int .u32 0] 55)).frozen? ⟨w.heap.size+1+1,0,none⟩=false:=σ
 have U:(((w.alloc (.cells #[.slice A n cap,.map m] 212)).alloc (.cells #[.int .u32 x.c,.int .u32 x.k,.int .u32 x.lc,.int .u32 x.lk,.int .u32 x.rc,.int .u32 x.rk,.int .i32 x.ch] 57)).alloc (.cells #[.int .u32 0,.int .u32 0] 55)).frozen? ⟨w.heap.size+1+1,1,none⟩=false:=σ
 have hk:=ah (λ(W:aj) (Q:Ext w W)=>MC A n cap m V0 V x.c W (h.ext Q) b8 b7);have hl:=ah (λ(W:aj) (Q:Ext w W)=>BH A n cap m V0 V x.lc x.lk W (h.ext Q) a5 a4);have hr:=ah (λ(W:aj) (Q:Ext w W)=>BH A n cap m V0 V x.rc x.rk W (h.ext Q) a3 a2);clear h a5 a4 a3 a2 b6 a9 a8 a7;go_enter Tryz.func171,Tryz.ntmps171
 go_upto_region 1 with fail
 have d1:w.heap.size+1+1=w.heap.size+2:=rfl;have d2:w.heap.size<=w.heap.size:=aD _;obtain⟨base,j⟩:∃base,w.heap.size=base:=⟨_,rfl⟩;have Dm:Hid (∀W W':aj,Ext w W->∀u v,W'=(W.setCell ⟨base+1+1,0,none⟩ u).setCell ⟨base+1+1,1,none⟩ v->Ext w W'):=ah (λW W' Q u v e=>by rw[e];exact(Q.setCell (by rw[<-j];show _<=_+1+1;omega) u).setCell (by rw[<-j];show _<=_+1+1;omega) v);generalize(((w.alloc (.cells #[.slice A n cap,.map m] 212)).alloc (.cells #[.int .u32 x.c,.int .u32 x.k,.int .u32 x.lc,.int .u32 x.lk,.int .u32 x.rc,.int .u32 x.rk,.int .i32 x.ch] 57)).alloc (.cells #[.int .u32 0,.int .u32 0] 55))=w1 at*;rw[j] at*;clear d1 d2;replace X:=ah X
 go_cut [14] (λs wx=>s= .bool (decide (x.k≠nW V x.c))/\Hid (Ext w1 wx))
 case first=>
  have e5:=av O;have e4:=av N;have e3:=av M;have d9:=av K;have d8:=av J;have d7:=av I;have d6:=av H;have d5:=av z;have d4:=av i;have d3:=av f;clear O N M K J I H z i f Y U;refine aL κ κ ?_
  repeat go_big_quiet_step((first|with_reducible exact Calls.oh (hk.out _ (X.out.trans (Ext.nX _ _ _)))))
  refine bQ ?_;intro _ b9;obtain⟨⟨dq,osq⟩,a6⟩:=b9;subst a6
  go_wp2_with fail
  go_meet;refine⟨?_,ah (Ext.nX _ _ _)⟩
  congr 1
  rw[Bool.eq_iff_iff];simp
 case rest=>
  obtain⟨rfl,x1⟩:=hcut;replace X:=ah (X.out.trans x1.out);replace x1:=x1.out;replace O:=x1.keep O;replace N:=x1.keep N;replace M:=x1.keep M;replace K:=x1.keep K;replace J:=x1.keep J;replace I:=x1.keep I;replace H:=x1.keep H;replace z:=x1.keep z;replace Y:=x1.thaw i Y;replace U:=x1.thaw f U;replace i:=x1.keep i;replace f:=x1.keep f;clear x1;by_cases Z:x.k=nW V x.c
  ·have q:decide (x.k≠nW V x.c)=false:=decide_eq_false (λh=>h Z)
   rw[if_pos Z] at a;rw[q] at*;clear q Z
   go_upto_region 3 with fail
   go_wp2_with fail
   refine(hl.out _ X.out).mono ?_;rintro e w2 ⟨rfl,x1⟩;replace X:=ah (X.out.trans x1);replace O:=x1.keep O;replace N:=x1.keep N;replace M:=x1.keep M;replace K:=x1.keep K;replace J:=x1.keep J;replace I:=x1.keep I;replace H:=x1.keep H;replace z:=x1.keep z;replace Y:=x1.thaw i Y;replace U:=x1.thaw f U;replace i:=x1.keep i;replace f:=x1.keep f;clear x1;cases e1:F8 V x.lc x.lk with
   |false=>
    rw[e1] at a;replace a:=ah (show R=some (x.lc,x.lk) by rw[<-a];rfl)
    go_wp2_with fail
    rw[a.out];exact aN (v:= .tuple #[idv x.lc x.lk,.bool true]) (by simp[dK,Tryz.results171,go_sem,i,f]) rfl ⟨rfl,Dm.out _ _ X.out _ _ rfl⟩
   |true=>
    rw[e1] at a
    go_wp2_with fail
    refine(hr.out _ X.out).mono ?_;rintro e w3 ⟨rfl,x1⟩;replace X:=ah (X.out.trans x1);replace O:=x1.keep O;replace N:=x1.keep N;replace M:=x1.keep M;replace K:=x1.keep K;replace J:=x1.keep J;replace I:=x1.keep I;replace H:=x1.keep H;replace z:=x1.keep z;replace Y:=x1.thaw i Y;replace U:=x1.thaw f U;replace i:=x1.keep i;replace f:=x1.keep f;clear x1;cases e2:F8 V x.rc x.rk with
    |false=>
     rw[e2] at a;replace a:=ah (show R=some (x.rc,x.rk) by rw[<-a];rfl)
     go_wp2_with fail
     rw[a.out];exact aN (v:= .tuple #[idv x.rc x.rk,.bool true]) (by simp[dK,Tryz.results171,go_sem,i,f]) rfl ⟨rfl,Dm.out _ _ X.out _ _ rfl⟩
    |true=>
     rw[e2] at a;replace a:=ah (show R=none by rw[<-a];rfl)
     go_wp2_with fail
     rw[a.out];exact aN (v:= .tuple #[idv 0 0,.bool false]) (by simp[dK,Tryz.results171,go_sem,i,f]) rfl ⟨rfl,Dm.out _ _ X.out _ _ rfl⟩
  ·have q:decide (x.k≠nW V x.c)=true:=decide_eq_true Z
   rw[if_neg Z] at a;rw[q] at*;clear q Z;replace a:=ah a.symm
   go_wp2_with fail
   rw[a.out];exact aN (v:= .tuple #[idv x.c (aA.wrap (x.k-1)),.bool true]) (by simp[dK,Tryz.results171,go_sem,i,f];rw[IntKind.wrap_u32]) rfl ⟨rfl,Dm.out _ _ X.out _ _ rfl⟩
end
section
open Go.ChangeShapes Go.WideShapes Go.ChangeAt Go.RowKit Go.Sort Go.Maps Go.Shelf
attribute [local go_sem] Oper.semAt_some
def KY (e:DataW Unit) (left:Lit->Bool) (a:List Int):Prop:=a.Nodup/\∀x,x∈a↔(has e (.int .u32 x)=true/\left (.int .u32 x)=false)
theorem KY.start (a:DataW Unit):KY a (has a) []:=⟨List.nodup_nil,λx=>by cases has a (.int .u32 x) <;> simp⟩
theorem KY.step {j:DataW Unit} {left:Lit->Bool} {q:List Int} (h:KY j left q) {x:Int} {y:DataW Unit} (u:left (.int .u32 x)=true) (H:∀K,j.atKey (.int .u32 x) K=y):KY j (λz=>left z&& !z.sameKey (.int .u32 x)) (q++[x]):=by
 have i:has j (.int .u32 x)=true:=has_true_of_atKey H;have f:x∉q:=λM=>by have:=((h.2 x).1 M).2;rw[u] at this;cases this
 refine⟨List.nodup_append.2 ⟨h.1,ι,λa N b J=>by simp at J;subst J;exact λe=>f (e▸N)⟩,λy=>?_⟩;by_cases I:y=x
 ·subst I;simp[i,Lit.sameKey]
 ·simp[h.2 y,I,Lit.sameKey]
theorem aax (F:Fence) (n:Nat) (hF:F.fn 177) (Y:F.round=none) (hn:1<=n) (l Bm b Q:Nat) (i:DataW Unit) (J Jx:List Int->aj->Prop)
  (hY:∀pre x W,J pre W->pre.length<jD i->YieldAt F (n-1) Tryz.prog l #[Vu x] W λe W'=>
   (e= .returned (.bool true)/\J (pre++[x]) W'/\KeepsWalks W W')\/(e= .returned (.bool false)/\Jx (pre++[x]) W'))
  (W:aj) (hJ:AbidesFrom W.heap.size J) (hm:W.cell? ⟨Bm,0,none⟩=some (.map (some b))) (I:MapU W b Q i) (h0:J [] W):
  CallsIn F n Tryz.prog 177 #[.func (.yield l) #[] #[],.pointer (some ⟨Bm,0,none⟩)] W λe W'=>(∃v,e= .returned v)/\
   ((∃a:List Int,(a.Nodup/\∀x,x∈a↔has i (.int .u32 x)=true)/\J a W')\/(∃pre:List Int,(pre.Nodup/\∀x∈pre,has i (.int .u32 x)=true)/\Jx pre W')):=by
 refine callsIn_of_wp Tryz.func177 rfl hF ?_ Y;simp only[Tryz.ntmps177,mK,aH,aR,Nat.reduceAdd,Nat.reduceSub,Array.replicate_succ,Array.replicate_zero,List.push_toArray,List.append_toArray,bB,aV]
 gi_wp2_with (first
  |(gi_at_range;refine wpListIn_range_own _ rfl _ 210 rfl 24 24 D5 Tryz.underlying210 _ b Q _ rfl I ?_;intro w0 z a4 a8)
  |gi_in)
 go_frame
 gi_loopw [3] (λ_ wr=>∃(left:Lit->Bool) (cnt:Nat) (a:List Int),wr.ranges Tryz.prog 24 (plainElem (H:=Unit) Tryz.prog 24) b W.heap.size Q i left cnt/\a.length+cnt<=jD i/\KY i left a/\J a wr)
  (λ_ wr=>wr.rangeLeft b W.heap.size)
 case atStart=>exact⟨_,_,[],z,ι,KY.start i,hJ [] W w0 none h0 a4 (λr e=>by cases e)⟩
 case round=>
  obtain⟨left,cnt,a,j,b0,hC,N⟩:=hrel
  gi_wp2_with (first
   |(gi_at_next;refine wpListIn_next_ranges _ rfl _ rfl 24 D5 (plainElem (H:=Unit) Tryz.prog 24) (aG .u32) id (λkey kl hk=>by obtain⟨x,hx,_⟩:=Maps.keyOf_int_inv Tryz.underlying24 hk;exact⟨x,hx⟩) (λv _ _=>⟨v,rfl⟩) b W.heap.size Q _ _ _ rfl j ?_ ?_)
   |gi_in)
  ·intro b1 a1
   gi_wp2
   go_end0
   exact⟨⟨_,rfl⟩,.inl ⟨a,⟨hC.1,λx=>by rw[hC.2 x,a1];simp⟩,N⟩⟩
  ·intro x c kl yd yp U O K a0 hv a5 u Z a3 X a9
   obtain⟨x',ex,rfl,_⟩:=Maps.keyOf_int_inv Tryz.underlying24 K;obtain rfl:x=x':=by simpa using ex
   have a7:J a U:=hJ a wr U (some W.heap.size) N a3 (λr e=>by cases e;exact⟨aD _,j.iter_walk⟩);obtain⟨fn,tmps,assign,body,hy,hR⟩:=hY a x U a7 ω;clear X
   gi_wp2
   refine hR.mono ?_;have q:=hC.step a0 a5;rintro e W3 (⟨rfl,a6,a2⟩|⟨rfl,M⟩)
   ·gi_wp2
    have f:=u.of_walks a2
    go_roundw
    case rel=>exact⟨_,O,a++[x],f,by simp;omega,q,a6⟩
    case measure=>rw[f.left_eq,j.left_eq];exact Z
   ·gi_wp2
    refine aN (results_none rfl _ _ _) rfl ?_;exact⟨⟨_,rfl⟩,.inr ⟨a++[x],⟨q.1,λy hy=>((q.2 y).1 hy).1⟩,M⟩⟩
theorem aaw (F:Fence) (n:Nat) (hF:F.fn 177) (u:F.round=none) (N:1<=n) (j b q:Nat) (i:DataW Unit) (w:aj) (H:j<w.heap.size)
  (O:w.cell? ⟨j,0,none⟩=some (.map (some b))) (a:MapU w b q i):
  SeqStopsK F n Tryz.prog 177 #[.pointer (some ⟨j,0,none⟩)] (λx:Int=> #[Vu x]) KeepsWalks (λI=>I.Nodup/\∀x,x∈I↔has i (.int .u32 x)=true) (λpre=>pre.Nodup/\∀x∈pre,has i (.int .u32 x)=true) (jD i) w:=λl J Jx W K X _ U Z=>by
 have e:MapU W b q i:=by
  have z:=a.lt;obtain⟨es,f,Q,Ft,M,Y⟩:=a;exact⟨es,f,(K.block b z).trans Q,Ft,M,Y⟩
 exact aax F n hF u N l j b q i J Jx U W X ((K.cell (p:=⟨j,0,none⟩) H).trans O) e Z
theorem afF (a:Option Nat) (w:aj):Calls Tryz.prog 147 #[.map a] w λe w'=>e= .returned (.func (.func 177) #[] #[.pointer (some ⟨w.heap.size,0,none⟩)])/\w'=w.alloc (.cells #[.map a] 210):=by
 go_enter Tryz.func147,Tryz.ntmps147;go_wp2;go_ret;exact⟨rfl,rfl⟩
theorem afI:(Tryz.prog.info? 24).map (λi=>(i.zero,i.size,i.bytes))=some (some (.int .u32 0),1,4):=κ
theorem Sr (F:Fence) (n:Nat) (hF:F.fn 213) (Q:F.fn 177) (u:F.round=none) (hn:3<=n) (i b nn:Nat) (I:DataW Unit) (a8:jD I<=400000000) (w:aj) (a6:i<w.heap.size)
  (hm:w.cell? ⟨i,0,none⟩=some (.map (some b))) (M:MapU w b nn I):
  CallsIn F n Tryz.prog 213 #[.slice none 0 0,.func (.func 177) #[] #[.pointer (some ⟨i,0,none⟩)]] w λe W'=>∃(v:aI) (H:List Int),e= .returned v/\(H.Nodup/\∀x,x∈H↔has I (.int .u32 x)=true)/\H.length<=jD I/\
   W'.ownsRow w.heap.size 24 1 v H.length (H.map (aG .u32))/\(v= .slice none 0 0↔H=[])/\Below w.heap.size w W':=by
 have h1:1<=n:=ω
 obtain⟨i0,hi,a1,a0,Z⟩:=info_parts afI;refine callsIn_of_wp_marks Tryz.func213 rfl hF ?_ u;simp only[Tryz.ntmps213,mK,aH,aR,Nat.reduceAdd,Nat.reduceSub,Array.replicate_succ,Array.replicate_zero,List.push_toArray,List.append_toArray,bB,aV]
 gi_wp2
 have bO:=Boxed.new w 155 (.slice none 0 0);have U:Below w.heap.size w (w.alloc (.cells #[.slice none 0 0] 155)):=(lV _ w).alloc (aD _) _;have a4:(w.alloc (.cells #[.slice none 0 0] 155)).cell? ⟨i,0,none⟩=some (.map (some b)):=(U.cell (p:=⟨i,0,none⟩) a6).trans hm;refine wpIn_rangeFunc_ownG u h1 (gf:=177) (lb:= #[.pointer (some ⟨i,0,none⟩)]) rfl Q (enters_of Tryz.func177 κ rfl)
  (aaw F (n-1) Q u ω i b nn I _ (by simp;omega) a4 (M.alloc _)) walksK_t walksK_b (lV _ _) (λ_=>rfl)
  (λpre W=>(pre.length<=jD I/\∃v,Boxed W w.heap.size 155 v/\W.ownsRow w.heap.size 24 1 v pre.length (pre.map (aG .u32))/\(v= .slice none 0 0↔pre=[]))/\Below w.heap.size w W)
  (λ_ _ _=>False)
  (OwnFrom.and (λs A B row Y hg hr=>⟨Y.1,(Own.from (holdsRow_own w.heap.size w.heap.size 155 24 1 (λpre:List Int=>pre.length) (λpre=>pre.map (aG .u32)) (λpre v=>v= .slice none 0 0↔pre=[])) _) s A B row Y.2 hg hr⟩) (ownFrom_below (aD _) ι))
  (λ_ _ _ _ _ Y _ _=>Y)
  ⟨⟨ι,_,bO,World.ownsRow_nil _ _ _ _,ι⟩,U⟩
  (λx=>{ tmps:= #[.slice none 0 0,.func (.func 177) #[] #[.pointer (some ⟨i,0,none⟩)],.pointer (some ⟨w.heap.size,0,none⟩),undef,.slice none 0 0,Vu x,.func (.func 177) #[] #[.pointer (some ⟨i,0,none⟩)],Vu x,undef,undef,undef,undef,undef],defers:=[] }) ?assign ?body ?done ?stop
 case assign=>
  intro l x W K O
  gi_wp2
  exact O
 case body=>
  rintro l pre x W ⟨⟨q,v,hv,a,j⟩,X⟩ a9;have hc:=hv.cell
  gi_wp2_with (gi_at_builtin;refine wpListIn_append_own _ rfl _ _ 155 rfl w.heap.size 24 i0 (.int .u32 0) 1 4 Tryz.underlying155 hi a1 a0 Z rfl δ _ _ _ rfl (a.alloc _) ⟨W.heap.size,0,none⟩ 1 1 [.int .u32 x] rfl rfl (cell_one_new _ _ _) (by simp[Value.oneCell']) (by simp[maxLen];omega) ω (by have:=X.size;simp;omega) ?_;intro v' w1 f z _;obtain⟨g',a7,rfl⟩:=ownsRow_succ f;obtain⟨J,a2,a3,N,a5⟩:=hv.appended δ a X.size (aD _) f z;have b1:=J.cell;have b0:=J.frozen)
  exact⟨N.from _,N.walks,⟨by simp;omega,_,a2,by simpa using a3,ι⟩,X.trans a5⟩
 case done=>
  rintro D ys W hD hS ⟨⟨q,v,hv,a,j⟩,X⟩ O;have hc:=hv.cell
  gi_wp2
  refine⟨ι,.inl ⟨_,_,rfl,run_takeDeferred O,?_⟩⟩;exact⟨_,results_tmp rfl _ _ _,v,ys,rfl,hS,q,ownsRow_putObj a _ O rfl,j,X.trans (belowK_b (w:=w) (aD _) W D _ _ (by simp at hD;omega) O rfl rfl)⟩
 case stop=>
  rintro D c pre W _ _ h _;exact h.elim
end
section
open Go.ChangeShapes Go.WideShapes Go.ChangeAt Go.RowKit Go.Sort
attribute [local go_sem] au
end
section
open Go.ChangeShapes Go.WideShapes Go.ChangeAt Go.RowKit Go.Sort
attribute [local go_sem] au calm oK oG
end
section
open Go.ChangeShapes Go.WideShapes Go.ChangeAt Go.RowKit Go.Sort
attribute [local go_sem] au
end
section
open Go.ChangeShapes Go.WideShapes Go.ChangeAt Go.RowKit Go.Sort
attribute [local go_sem] au calm oK oG
end
section
open Go.ChangeShapes Go.WideShapes Go.ChangeAt Go.RowKit Go.Sort
attribute [local go_sem] au
def agN (w:aj) (t:List It×List It×List (Int×Int)) (e:Ending) (w':aj):Prop:=
 ∃(f:Option Addr) (ca:Nat) (a:Option Addr) (cb:Nat) (A:Option Addr) (c:Nat),e= .returned (.tuple #[.slice f t.1.length ca,.slice a t.2.1.length cb,.slice A t.2.2.length c])/\(t.1.length<=ca/\wV w.heap.size f)/\(t.2.1.length<=cb/\wV w.heap.size a)/\(t.2.2.length<=c/\wV w.heap.size A)/\ItS w' f t.1/\ItS w' a t.2.1/\Vec w' A t.2.2/\Ext w w'
end
end Go.Proofs.YtejbpijamdlgcaaGreatDoor

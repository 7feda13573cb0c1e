/-
  Lemmas of this seat; no claim.
-/
import Derived.StillTailTactics
import Derived.Deep.DeepCutAuto
import Derived.Test.YtejbpijamdlgcaaGreatDoorPRf1
import Derived.Test.YtejbpijamdlgcaaGreatDoorLaySp
set_option linter.unusedVariables false
set_option linter.unusedSimpArgs false
set_option maxRecDepth 100000
set_option maxHeartbeats 4000000
open Go renaming Calls→aX,World→aj,cell_regrown→av,wpQuiet_nil→bQ,wp_region_quiet_below→aL
open Go.Ending renaming returned→dz
open Go.IntKind renaming i64→dO,u32→aA
open Go.IntWalk renaming i64_in→cO
open Go.Lib renaming hid→ah
open Go.Obj renaming cells→bF
open Go.RowKit.Below renaming block→aJ,os→iy,output→gG,tape→gN
open Go.Sort renaming alloc_eq_grow→iR
open Go.Value renaming int→aG
open Go.World renaming cell?_alloc_some→au
open List renaming drop_eq_getElem_cons→dY,drop_eq_nil_of_le→gW,drop_zero→dX,eq_nil_of_length_eq_zero→dF,getElem?_eq_some_iff→aF,length_drop→bP
open Nat renaming eq_zero_or_pos→gD,le_refl→aD,zero_add→bH,zero_le→cK
namespace Go.Proofs.YtejbpijamdlgcaaGreatDoor
open Go.ChangeShapes Go.WideShapes Go.ChangeAt Go.RowKit Go.Sort
attribute [local go_sem] au
section
def KI (a b:Int×Int×Int):Int:=orI (wJ a.1 b.1) (wJ a.2.1 b.2.1)
variable {g:Nat} {w:aj}
theorem Fe (a b:Int×Int×Int):decide (KI a b<0)=ltB a b:=by
 unfold KI orI wJ ltB;rw[Bool.eq_iff_iff,decide_eq_true_eq,decide_eq_true_eq]
 (repeat' split) <;> omega
theorem Cc (x y z f a j:Int) (w:aj):aX Tryz.prog 113 #[spv x y z,spv f a j] w λe w'=>e= .returned (Vi (KI (x,y,z) (f,a,j)))/\∃q i,w'=grow (w.drewN q) i:=by
 obtain⟨r,u⟩:∃r,KI (x,y,z) (f,a,j)=r:=⟨_,rfl⟩;rw[u];unfold KI at u;have N:=λW=>sQ x f W
 have M:=λW=>sQ y a W
 simp only at u;generalize wJ x f=p at*;generalize wJ y a=q at*;replace u:=ah u;go_enter Tryz.func113,Tryz.ntmps113;go_wp2;have I:∃i,((w.alloc (bF #[aG aA x,aG aA y,aG aA z] 98)).alloc (bF #[aG aA f,aG aA a,aG aA j] 98))=grow w i:=⟨_,by rw[iR,iR,grow_grow]⟩;have c0:((w.alloc (bF #[aG aA x,aG aA y,aG aA z] 98)).alloc (bF #[aG aA f,aG aA a,aG aA j] 98)).drew.cell? ⟨w.heap.size,0,none⟩=some (Vu x):=σ
 have c1:((w.alloc (bF #[aG aA x,aG aA y,aG aA z] 98)).alloc (bF #[aG aA f,aG aA a,aG aA j] 98)).drew.cell? ⟨w.heap.size,1,none⟩=some (Vu y):=σ
 have c2:((w.alloc (bF #[aG aA x,aG aA y,aG aA z] 98)).alloc (bF #[aG aA f,aG aA a,aG aA j] 98)).drew.cell? ⟨w.heap.size+1,0,none⟩=some (Vu f):=σ
 have c3:((w.alloc (bF #[aG aA x,aG aA y,aG aA z] 98)).alloc (bF #[aG aA f,aG aA a,aG aA j] 98)).drew.cell? ⟨w.heap.size+1,1,none⟩=some (Vu a):=σ
 generalize(w.alloc (bF #[aG aA x,aG aA y,aG aA z] 98)).alloc (bF #[aG aA f,aG aA a,aG aA j] 98)=W at*;generalize w.heap.size=X at*;obtain⟨K,I⟩:=I;replace I:=ah I;refine wp_region_still_tail 10 κ κ ?_;simp only[List.take_succ_cons,List.take_zero,List.drop_succ_cons,dX];change wpStill Tryz.prog _ W.drew (λU=>wpList Tryz.prog _ _ _ U W.drew) _ _;have Q:=ah (show W.drew=grow (w.drewN 1) K by rw[I.out];rfl);generalize W.drew=H at*;replace N:=ah ((N H).mono λe w' h=>(⟨h.1,h.2.symm⟩:e=dz (Vi p)/\w'=H));replace M:=ah ((M H).mono λe w' h=>(⟨h.1,h.2.symm⟩:e=dz (Vi q)/\w'=H))
 repeat still_step
 still_call N.out
 repeat still_step
 still_call M.out
 refine wpStill_nil ?_;clear c0 c1 c2 c3
 go_wp2_with fail
 refine(afr _ _ _ p q _ σ σ).mono ?_;rintro e w3 ⟨rfl,rfl⟩;rw[u.out];have O:=ah (show∃i,H.alloc (bF #[aG dO p,aG dO q] 3)=grow (w.drewN 1) i from⟨_,by rw[iR,Q.out,grow_grow]⟩);go_wp2;go_ret;obtain⟨J,O⟩:=O.out;exact⟨rfl,1,J,O⟩
theorem Ext.grow (w:aj) (q:Nat) (os:Array Obj):Ext w (grow (w.drewN q) os):=Ext.nX w (w.drawn+q) os
theorem Pj (x y z i f a:Int) (w:aj):aX Tryz.prog 113 #[spv x y z,spv i f a] w λe w'=>e= .returned (Vi (KI (x,y,z) (i,f,a)))/\Ext w w':=
 (Cc x y z i f a w).mono λe w' ⟨h,q,os,j⟩=>⟨h,by rw[j];exact Ext.grow w q os⟩
theorem abM:SWO (ltOf KI) where
 irrefl x:=by unfold ltOf;rw[Fe,yT];omega
 trans x y z h1 h2:=by unfold ltOf at*;rw[Fe,lt_iff] at*;omega
 ntrans x y z h1 h2:=by unfold ltOf at*;rw[Fe,yT] at*;omega
theorem Ky (d:Array (Int×Int×Int)) (j:Nat) (i:j<d.size*3):(flat encS d.toList)[j]? =some (flatK encS 3 d)[j]! :=by
 have f:j/3<d.size:=ω
 have q:d.toList[j/3]? =some d[j/3]! :=by
  rw[Array.getElem?_toList,getElem!_pos d (j/3) f];exact Array.getElem?_eq_getElem f
 have e:j=j/3*3+j%3:=ω
 rw[get_flatK _ _ _ _ i]
 conv=>lhs;rw[e]
 rw[E5 sJ q ω];have a:j%3<(encS d[j/3]!).length:=by rw[sJ];omega
 rw[getElem!_pos (encS d[j/3]!) (j%3) a];exact List.getElem?_eq_getElem a
theorem X7 {base cap:Nat} {r:List (Int×Int×Int)} (h:w.ownsRow base 98 3 (.slice (some ⟨g,0,none⟩) r.length cap) r.length (flat encS r)):HoldsK encS 3 w g 0 r.toArray:=by
 intro j e;have a:j<r.length*3:=by simpa using e
 have i:=h.cellAt j a;have f:=Ky r.toArray j (by simpa using a);rw[bH];refine⟨?_,h.frozenAt j⟩;rw[i];exact f
theorem X6 {d:Array (Int×Int×Int)} (h:HoldsK encS 3 w g 0 d):SpS w (some ⟨g,0,none⟩) d.toList:=λi=>by
 refine⟨g,0,rfl,λj u a=>?_⟩;have e:j<d.size*3:=by
  rcases Nat.lt_or_ge j (d.size*3) with k|k
  ·exact k
  ·rw[List.getElem?_eq_none (by rw[oV sJ];simpa using k)] at a;cases a
 have f:=(h j (by simpa using e)).1;rw[Ky d j e] at a;rw[f];exact a
theorem Ext.sorted {w0:aj} {n:Nat} {d:Array (Int×Int×Int)} {os:Array Obj} (h:Ext w0 w) (e:w0.heap.size<=g):Ext w0 (sortWorldK encS 3 w g 0 n d os):=by
 refine Ext.trans (b:=putRowK encS 3 (Sort.ahead w n) g 0 d) ?_ (Ext.grow _ 0 os);refine⟨iy (w':=w) h,gN (w':=w) h,gG (w':=w) h,?_,?_⟩
 ·exact Nat.le_trans h.size (by unfold putRowK;rw[size_putRow];exact aD _)
 ·intro k a
  rw[<-aJ (w':=w) h k a];unfold putRowK putRow mapBlock;show(w.heap.modify g _)[k]? =w.heap[k]?;rw[Array.getElem?_modify,if_neg ω]
theorem WW (g cap base:Nat) (r:List (Int×Int×Int)) (w:aj) (h:w.ownsRow base 98 3 (.slice (some ⟨g,0,none⟩) r.length cap) r.length (flat encS r)) (M:g<w.heap.size) (Y:r.length<=400000):
  aX Tryz.prog 162 #[.slice (some ⟨g,0,none⟩) r.length cap,.func (.func 113) #[] #[]] w λe w'=>
   e= .returned (.tuple #[])/\∃z:List (Int×Int×Int),z.Perm r/\z.Pairwise (λs t=>ltB t s=false)/\SpS w' (some ⟨g,0,none⟩) z/\∀w0,Ext w0 w->w0.heap.size<=g->Ext w0 w':=by
 have X:∀args w,(callFunc 113 args).run Tryz.prog w= .ok (.enter 113 args) w:=enters_of Tryz.func113 κ rfl;have N:=X7 h;have u:CmpLays Tryz.prog 113 #[] encS 3 KI g 0 r.toArray.size w:=λ_ _ _ _ x y=>Cc x.1 x.2.1 x.2.2 y.1 y.2.1 y.2.2 _
 have q:=AnyQ.slices_SortFunc Tryz.sortSp 3 Tryz.isAgg98 Tryz.sizeOf98 encS sJ E8 KI abM 113 #[] g 0 cap r.toArray w X u N M (by simp;omega);refine Calls.mono q ?_;rintro e w' ⟨W,f,n,os,J,U,Q⟩;subst Q;have a:f.size=r.length:=by have:=J.1;simpa using this
 refine⟨W,f.toList,?_,?_,?_,λw0 O I=>O.sorted I⟩
 ·have:=J.2.2
  have e:List.take f.size r=r:=List.take_of_length_le ω;simpa[<-a,e] using this
 ·rw[List.pairwise_iff_getElem]
  intro i j hi K H;have:=U i j (cK _) H (by simpa[<-a] using K);unfold ltOf at this;rw[Fe] at this;rw[getElem!_pos f j (by simpa using K),getElem!_pos f i (by simpa using hi)] at this;simpa using this
 ·exact X6 (holdsK_sortWorldK_c encS 3 w g 0 r.toArray f n os N M (by simpa using a))
end
def PI (w0:aj) (l:List (Int×Int×Int)) (e:Ending) (w':aj):Prop:=∃v,e= .returned v/\qg w0 w' v l/\Ext w0 w'
theorem YK (w0 W:aj) (A:Option Addr) (c:Nat) (x y z:Int) (a:qg w0 W (.slice A 0 c) []) (e:Ext w0 W):
  aX Tryz.prog 114 #[.slice A 0 c,spv x y z] W (PI w0 [(x,y,z)]):=by
 replace a:=ah a;go_enter Tryz.func114,Tryz.ntmps114;go_wp2;have x1:Ext W (W.alloc (bF #[aG aA x,aG aA y,aG aA z] 98)):=(Ext.refl _).alloc _;have q:(W.alloc (bF #[aG aA x,aG aA y,aG aA z] 98)).cell? ⟨W.heap.size,0,none⟩=some (Vu x):=σ
 have j:(W.alloc (bF #[aG aA x,aG aA y,aG aA z] 98)).cell? ⟨W.heap.size,1,none⟩=some (Vu y):=σ
 have i:(W.alloc (bF #[aG aA x,aG aA y,aG aA z] 98)).cell? ⟨W.heap.size,2,none⟩=some (Vu z):=σ
 replace a:=ah (a.out.ext x1);replace e:=e.trans x1;clear x1;generalize W.alloc (bF #[aG aA x,aG aA y,aG aA z] 98)=f at*;generalize W.heap.size=J at*
 go_quiet(fail)
 have x2:Ext f (f.drewN nq):=(Ext.refl _).drewN nq;replace a:=ah (a.out.ext x2);replace e:=e.trans x2;replace q:=x2.keep q;replace j:=x2.keep j;replace i:=x2.keep i;clear x2;generalize f.drewN nq=M at*
 go_wp2_with(first
  |(at_builtin
    refine rM (w0:=w0) rfl (.tmp 19) (.tmp 21) rfl _ [] rfl (a.out.alloc _) (e.alloc _) _ 1 1 [(x,y,z)] rfl rfl (SpS.new _ x y z) ι ?_;intro u I H x2 K))
 go_ret;exact⟨u,rfl,H,x2⟩
theorem YL (w0 W:aj) (g k c:Nat) (l:List (Int×Int×Int)) (a b d x y z:Int) (I:l.length=k) (a0:k<=800000) (i:qg w0 W (.slice (some ⟨g,0,none⟩) (k+1) c) (l++[(a,b,d)])) (j:Ext w0 W)
  (c0:W.cell? ⟨g,k*3,none⟩=some (Vu a)) (c1:W.cell? ⟨g,k*3+1,none⟩=some (Vu b)) (c2:W.cell? ⟨g,k*3+2,none⟩=some (Vu d)) (u:qK (a,b,d) (x,y,z)=true):
  aX Tryz.prog 114 #[.slice (some ⟨g,0,none⟩) (k+1) c,spv x y z] W (PI w0 (l++[(a,b,d)]++[(x,y,z)])):=by
 replace i:=ah i;replace I:=ah I;have e:=λW'=>Ef a b d x y z W'
 rw[u] at e;replace e:=ah e;clear u;have Y:dO.wrap (((k+1:Nat):Int)-1)=(k:Int):=by rw[show(((k+1:Nat):Int)-1)=(k:Int) by omega];exact cO _ ω
 have a3:decide ((k:Int)<0)=false:=ι
 have a2:(0:Int)<=(k:Int):=ω
 have a1:(k:Int)<((k+1:Nat):Int):=ω
 go_enter Tryz.func114,Tryz.ntmps114;go_wp2;have x1:Ext W (W.alloc (bF #[aG aA x,aG aA y,aG aA z] 98)):=(Ext.refl _).alloc _;have X:(W.alloc (bF #[aG aA x,aG aA y,aG aA z] 98)).cell? ⟨W.heap.size,0,none⟩=some (Vu x):=σ
 have U:(W.alloc (bF #[aG aA x,aG aA y,aG aA z] 98)).cell? ⟨W.heap.size,1,none⟩=some (Vu y):=σ
 have Q:(W.alloc (bF #[aG aA x,aG aA y,aG aA z] 98)).cell? ⟨W.heap.size,2,none⟩=some (Vu z):=σ
 replace c0:=x1.keep c0;replace c1:=x1.keep c1;replace c2:=x1.keep c2;replace i:=ah (i.out.ext x1);replace j:=j.trans x1;clear x1;generalize W.alloc (bF #[aG aA x,aG aA y,aG aA z] 98)=Z at*;generalize W.heap.size=py at*;have O:=av c0;have N:=av c1;have M:=av c2;have K:=av X;have s1:=av U;have J:=av Q;clear c0 c1 c2 X U Q;refine aL κ κ ?_
 repeat go_big_quiet_step((with_reducible exact Calls.oh (e.out _)))
 refine bQ ?_;intro _ H;obtain⟨⟨f,osq⟩,q⟩:=H;subst q;have x2:=Ext.nX Z f osq;replace i:=ah (i.out.ext x2);replace j:=j.trans x2;clear x2;replace O:=O f osq;replace N:=N f osq;replace M:=M f osq;replace K:=K f osq;replace s1:=s1 f osq;replace J:=J f osq;generalize grow (redrawn Z f) osq=W2 at*
 go_wp2_with(first
  |(at_builtin
    refine rM (w0:=w0) rfl (.tmp 19) (.tmp 21) rfl _ (l++[(a,b,d)]) rfl (i.out.alloc _) (j.alloc _) _ 1 1 [(x,y,z)] rfl rfl (SpS.new _ x y z) (by simp[I.out];omega) ?_;intro v2 w2 o2 x2 g2))
 go_ret;exact⟨v2,rfl,o2,x2⟩
theorem acg (w0 W:aj) (g k c:Nat) (l:List (Int×Int×Int)) (a b d x y z u:Int) (J:l.length=k) (a1:k<=800000) (i:qg w0 W (.slice (some ⟨g,0,none⟩) (k+1) c) (l++[(a,b,d)])) (q:Ext w0 W)
  (c0:W.cell? ⟨g,k*3,none⟩=some (Vu a)) (c1:W.cell? ⟨g,k*3+1,none⟩=some (Vu b)) (c2:W.cell? ⟨g,k*3+2,none⟩=some (Vu d)) (I:qK (a,b,d) (x,y,z)=false)
  (N:max d z=u) (hg:w0.heap.size<=g):
  aX Tryz.prog 114 #[.slice (some ⟨g,0,none⟩) (k+1) c,spv x y z] W (PI w0 (l++[(a,b,u)])):=by
 replace i:=ah i;replace J:=ah J;replace N:=ah N;have f:=λW'=>Ef a b d x y z W'
 rw[I] at f;replace f:=ah f;clear I;have a0:dO.wrap (((k+1:Nat):Int)-1)=(k:Int):=by rw[show(((k+1:Nat):Int)-1)=(k:Int) by omega];exact cO _ ω
 have a4:decide ((k:Int)<0)=false:=ι
 have a3:(0:Int)<=(k:Int):=ω
 have a2:(k:Int)<((k+1:Nat):Int):=ω
 go_enter Tryz.func114,Tryz.ntmps114;go_wp2;have x1:Ext W (W.alloc (bF #[aG aA x,aG aA y,aG aA z] 98)):=(Ext.refl _).alloc _;have q0:(W.alloc (bF #[aG aA x,aG aA y,aG aA z] 98)).cell? ⟨W.heap.size,0,none⟩=some (Vu x):=σ
 have q1:(W.alloc (bF #[aG aA x,aG aA y,aG aA z] 98)).cell? ⟨W.heap.size,1,none⟩=some (Vu y):=σ
 have q2:(W.alloc (bF #[aG aA x,aG aA y,aG aA z] 98)).cell? ⟨W.heap.size,2,none⟩=some (Vu z):=σ
 replace c0:=x1.keep c0;replace c1:=x1.keep c1;replace c2:=x1.keep c2;replace i:=ah (i.out.ext x1);replace q:=q.trans x1;clear x1;generalize W.alloc (bF #[aG aA x,aG aA y,aG aA z] 98)=W1 at*;generalize W.heap.size=py at*;have Z:=av c0;have Y:=av c1;have X:=av c2;have U:=av q0;have s1:=av q1;have Q:=av q2;clear c0 c1 c2 q0 q1 q2;refine aL κ κ ?_
 repeat go_big_quiet_step((with_reducible exact Calls.oh (f.out _)))
 refine bQ ?_;intro _ M;obtain⟨⟨j,osq⟩,H⟩:=M;subst H;have x2:=Ext.nX W1 j osq;replace i:=ah (i.out.ext x2);replace q:=q.trans x2;clear x2;replace Z:=Z j osq;replace Y:=Y j osq;replace X:=X j osq;replace U:=U j osq;replace s1:=s1 j osq;replace Q:=Q j osq;generalize grow (redrawn W1 j) osq=O at*;have f2:O.frozen? ⟨g,k*3+2,none⟩=false:=World.ownsRow.frozenAt (n:=k+1) (base:=w0.heap.size) (e:=98) (size:=3) (cap:=c) (xs:=flat encS (l++[(a,b,d)])) (by have:=i.out;unfold qg at this;rwa[show(l++[(a,b,d)]).length=k+1 by simp[J.out]] at this) _;go_wp2
 go_region
 rw[N.out];have K:qg w0 (O.setCell ⟨g,k*3+2,none⟩ (Vu u)).drew (.slice (some ⟨g,0,none⟩) (k+1) c) (l++[(a,b,u)]):=by
  have h1:=i.out;rw[<-J.out] at h1⊢;have h2:=qg.last (x:=a) (y:=b) (z:=d) (c:=c) (g:=g) (l:=l) (by simpa using h1) u;exact qg.ext (by simpa using h2) ((Ext.refl _).drew)
 have x3:Ext w0 (O.setCell ⟨g,k*3+2,none⟩ (Vu u)).drew:=(q.setCell hg _).drew;replace K:=ah K;go_wp2;go_ret;exact⟨_,rfl,K.out,x3⟩
theorem KS (w0 W:aj) (v:Value) (l:List (Int×Int×Int)) (x y z:Int) (i:qg w0 W v l) (q:Ext w0 W) (Y:l.length<=800000):
  aX Tryz.prog 114 #[v,spv x y z] W (PI w0 (wX l (x,y,z))):=by
 rcases List.eq_nil_or_concat l with e|⟨l0,⟨a,b,d⟩,e⟩
 ·subst e
  obtain⟨A,c,rfl⟩:=i.form;rw[add_nil];exact YK w0 W A c x y z i q
 ·rw[List.concat_eq_append] at e
  subst e;obtain⟨g,c,hv,X,U⟩:=i.block ι;have H:v= .slice (some ⟨g,0,none⟩) (l0.length+1) c:=by rw[hv];simp
  subst H;obtain⟨Z,c9,u,I⟩:=SpS.own i;obtain rfl:some ⟨g,0,none⟩=Z:=by injection u
  obtain⟨b',o',O,N,M,J,Q,c0,c1,c2⟩:=SpS.at I (k:=l0.length) ι;injection J with J;injection J with e1 e2;subst e1;subst e2;have K:(a,b,d)=(O,N,M):=by simpa using Q
  injection K with K e4;injection e4 with e4 e5;subst K;subst e4;subst e5;rw[bH] at c0 c1 c2;rw[KQ];have f:l0.length<=800000:=by simp at Y;omega
  cases j:qK (a,b,d) (x,y,z) with
  |true=>
   rw[if_pos rfl];exact YL w0 W g l0.length c l0 a b d x y z rfl f i q c0 c1 c2 j
  |false=>
   rw[if_neg ι];exact acg w0 W g l0.length c l0 a b d x y z _ rfl f i q c0 c1 c2 j rfl X
theorem Yg {l:List (Int×Int×Int)} {k:Nat} {p:Int×Int×Int} (h:l[k]? =some p):(l.drop k).filter qQ=(if qQ p then [p] else [])++(l.drop (k+1)).filter qQ:=by
 obtain⟨f,e⟩:=aF.1 h;rw[dY f,e];cases a:qQ p with
 |true=>rw[List.filter_cons_of_pos a];rfl
 |false=>rw[List.filter_cons_of_neg (by simp[a])];rfl
theorem Sz {r:List (Int×Int×Int)} {k:Nat} {p:Int×Int×Int} (h:r[k]? =some p) (o:List (Int×Int×Int)):sZ o (r.drop k)=sZ (wX o p) (r.drop (k+1)):=by
 obtain⟨a,e⟩:=aF.1 h;rw[dY a,e,CF]
def aix (w:aj) (n:Nat) (l:List (Int×Int×Int)) (v i:Value) (W:aj):Prop:=
 ∃(k:Nat) (lo:List (Int×Int×Int)) (g m c:Nat),k<=n/\i= .int .i64 k/\v= .slice (some ⟨g,0,none⟩) m c/\Hid (lo.length=m)/\w.heap.size<=g/\g<W.heap.size/\m<=k/\Hid (qg w W v lo)/\Ext w W/\Hid (lo++(l.drop k).filter qQ=l.filter qQ)
def agR (w:aj) (m:Nat) (r:List (Int×Int×Int)) (v i:Value) (W:aj):Prop:=
 ∃(k:Nat) (o:List (Int×Int×Int)),k<=m/\i= .int .i64 k/\o.length<=k/\Hid (qg w W v o)/\Ext w W/\Hid (sZ o (r.drop k)=sZ [] r)
theorem Xn (A:Option Addr) (n cap:Nat) (l:List (Int×Int×Int)) (w:aj) (hv:SpS w A l) (hn:l.length=n) (hw:wfS l) (hb:n<=400000):
  aX Tryz.prog 126 #[.slice A n cap] w (aiv w (pY l)):=by
 replace hn:=ah hn;replace hv:=ah hv;replace hw:=ah hw;have a2:=CU n ω (n:Int) rfl;go_enter Tryz.func126,Tryz.ntmps126;go_wp2
 go_loopw [3,14] (aix w n l) (λ_ i _=>n-(intOf i).toNat)
 case atStart=>exact⟨0,[],_,0,n,cK _,rfl,rfl,ah rfl,aD _,ι,aD _,ah (qg.room (Ext.refl w) n ω),(Ext.refl _).alloc _,ah ι⟩
 case round=>
  clear a2;obtain⟨k,lo,g,m,c,hk,rfl,rfl,I,Q,O,a2,K,q,hrel⟩:=hrel;by_cases a7:k<n
  ·obtain⟨b,o,x,y,z,rfl,X,d0,d1,d2⟩:=hv.out.at (k:=k) (by rw[hn.out];exact a7)
   have a5:=SE hw.out X;have c0:=q.keep d0;have c1:=q.keep d1;have c2:=q.keep d2;have M:=ah (Yg X);clear X;have a:=ah (λW=>Nb x y z W a5.1);cases J:qQ (x,y,z) with
   |false=>
    rw[J] at a M;have U:=ah (show lo++(l.drop (k+1)).filter qQ=l.filter qQ by rw[<-hrel.out,M.out];rfl);clear M hrel J
    go_wp2_with fail
    refine(a.out _).mono ?_;rintro e w1 ⟨rfl,x1⟩;have j:=((Ext.refl wr).alloc _).trans x1;go_wp2
    go_roundw
    case rel=>exact⟨k+1,lo,g,m,c,ω,ν,rfl,I,Q,j.lt O,ω,ah (K.out.ext j),q.trans j,U⟩
    case measure=>simp[intOf];omega
   |true=>
    rw[J] at a M;have U:=ah (show lo++[(x,y,z)]++(l.drop (k+1)).filter qQ=l.filter qQ by rw[<-hrel.out,M.out];simp);clear M hrel J
    go_wp2_with fail
    refine(a.out _).mono ?_;rintro e w1 ⟨rfl,x1⟩;have q0:=x1.keep (p:=⟨wr.heap.size,0,none⟩) (v:=Vu x) σ;have q1:=x1.keep (p:=⟨wr.heap.size,1,none⟩) (v:=Vu y) σ;have q2:=x1.keep (p:=⟨wr.heap.size,2,none⟩) (v:=Vu z) σ;have j:=((Ext.refl wr).alloc _).trans x1;clear x1;generalize wr.heap.size=py at*;have a6:=ah (K.out.ext j);have a4:=q.trans j
    go_wp2_with(first
     |(at_builtin
       refine rM (w0:=w) rfl (.tmp 21) (.tmp 23) rfl _ lo rfl (a6.out.alloc _) (a4.alloc _) _ 1 1 [(x,y,z)] rfl rfl (SpS.new _ x y z) (by simp[I.out];omega) ?_;intro v2 w2 o2 x2 g2))
    obtain⟨g3,c3,e3,a9,a8⟩:=qg.block o2 ι;replace e3:v2= .slice (some ⟨g3,0,none⟩) (m+1) c3:=by rw[e3];simp[I.out]
    subst e3;replace o2:=ah o2
    go_roundw
    case rel=>exact⟨k+1,lo++[(x,y,z)],g3,m+1,c3,ω,ν,rfl,ah (by simp[I.out]),a9,a8,ω,o2,x2,U⟩
    case measure=>simp[intOf];omega
  ·have Y:=ah (show lo=l.filter qQ by rw[<-hrel.out,gW (by rw[hn.out];omega)];simp)
   clear hrel;have u:=WW g c w.heap.size lo wr (by have:=K.out;unfold qg at this;rwa[<-I.out] at this) (by exact O) (by rw[I.out];omega);rw[I.out] at u;replace u:=ah u
   go_wp2_with fail
   refine u.out.mono ?_;rintro e w2 ⟨rfl,r,f,H,N,Z⟩;have x2:=Z w q Q;clear Z u K q O Q;have a0:=ah (KT (l:=l) (by rw[<-Y.out];exact f) H);have a1:=ah (show r.length=m by rw[f.length_eq,I.out]);clear f H Y I;replace N:=ah N;have b0:=CU m ω (m:Int) rfl;go_wp2
   go_loopw [6,33] (agR w2 m r) (λ_ i _=>m-(intOf i).toNat)
   case atStart=>exact⟨0,[],cK _,rfl,aD _,ah (qg.room (Ext.refl w2) m ω),(Ext.refl _).alloc _,ah ι⟩
   case round=>
        clear b0;obtain⟨k2,o,b3,rfl,b1,K,q,hrel⟩:=hrel;by_cases a3:k2<m
        ·obtain⟨b,o',x,y,z,e,X,d0,d1,d2⟩:=N.out.at (k:=k2) (by rw[a1.out];exact a3)
         injection e with e;injection e with e1 e2;subst e1;subst e2;rw[bH] at d0 d1 d2;have c0:=q.keep d0;have c1:=q.keep d1;have c2:=q.keep d2;have M:=ah (show sZ (wX o (x,y,z)) (r.drop (k2+1))=sZ [] r by rw[<-hrel.out,Sz X]);clear X hrel
         go_wp2_with fail
         refine(KS w2 _ _ o x y z (K.out.alloc _) (q.alloc _) ω).mono ?_;rintro e w3 ⟨v3,rfl,o3,x3⟩;replace o3:=ah o3;have b2:=Pz o (x,y,z);go_wp2
         go_roundw
         case rel=>exact⟨k2+1,_,ω,ν,ω,o3,x3,M⟩
         case measure=>simp[intOf];omega
        ·have Y:=ah (show o=pY l by rw[<-a0.out,<-hrel.out,gW (by rw[a1.out];omega)];rfl)
         go_wp2;go_ret;obtain⟨A4,c4,e4,h4⟩:=SpS.own K.out;subst e4;exact⟨A4,_,c4,rfl,by rw[<-Y.out],qg.cap K.out,by rw[<-Y.out];exact h4,x2.trans q⟩
def acn (w:aj) (N:Nat) (L:List (Int×Int×Int)) (i:Nat) (f s1 e:Value) (W:aj):Prop:=
 ∃(a lb lo:List (Int×Int×Int)) (A B:Option Addr) (n m ca cb:Nat),f= .slice A n ca/\s1= .slice B m cb/\Hid (a.length=n)/\Hid (lb.length=m)/\n<=ca/\m<=cb/\Hid (SpS w A a)/\Hid (SpS w B lb)/\
  Hid (qg w W e lo)/\Ext w W/\Hid (sZ lo (xM a lb)=L)/\lo.length+n+m<=N/\n+m<=i
def IQ:List (Int×Int×Int)->List (Int×Int×Int)->Bool
 |_,[]=>true
 |[],_::_=>false
 |p::_,q::_=>ltB p q
theorem acG {p:Int×Int×Int} {a b:List (Int×Int×Int)} (h:IQ (p::a) b=true):xM (p::a) b=p::xM a b:=by
 cases b with
 |nil=>rw[Iy,Iy]
 |cons q b=>exact TG a b h
theorem acF {q:Int×Int×Int} {a b:List (Int×Int×Int)} (h:IQ a (q::b)=false):xM a (q::b)=q::xM a b:=by
 cases a with
 |nil=>rw[EH,EH]
 |cons p a=>exact TH a b h
theorem head_drop {l:List (Int×Int×Int)} {p:Int×Int×Int} (h:l[0]? =some p):l=p::l.drop 1:=by
 obtain⟨a,e⟩:=aF.1 h;have:=dY a;rw[e,dX] at this;exact this
theorem MQ (A B:Option Addr) (n m cap I:Nat) (l r:List (Int×Int×Int)) (w:aj) (hv:SpS w A l) (hu:SpS w B r) (hn:l.length=n) (hm:r.length=m) (b4:n<=cap) (b6:m<=I) (hl:oC zS l=true) (hr:oC zS r=true) (hb:n+m<=360000):
  aX Tryz.prog 75 #[.slice A n cap,.slice B m I] w (ae4 w (pY (l++r))):=by
 obtain⟨L,hL⟩:∃L,sZ [] (xM l r)=L:=⟨_,rfl⟩;rw[<-adg hl hr,hL];replace hL:=ah hL;replace hv:=ah hv;replace hu:=ah hu;replace hn:=ah hn;replace hm:=ah hm;clear hl hr;have b5:=CU (n+m) ω ((n:Int)+(m:Int)) ω;go_enter Tryz.func75,Tryz.ntmps75;go_wp2
 go_loopg [0,1,5] (n+m) (acn w (n+m) L)
 case atStart=>exact⟨l,r,[],A,B,n,m,cap,I,rfl,rfl,hn,hm,b4,b6,hv,hu,ah (qg.room (Ext.refl w) _ ω),(Ext.refl w).alloc _,hL,ι,aD _⟩
 case round=>
  clear hL hv hu b5;obtain⟨K,lb,lo,A,B,j,u,ca,cb,rfl,rfl,i,a,a9,a8,N,M,ho,f,hrel,hN,d4⟩:=hrel;by_cases h0:0<j+u
  ·have d7:decide ((0:Int)<(j:Int)+(u:Int))=true:=by simp;omega
   obtain⟨t,O⟩:∃t,IQ K lb=t:=⟨_,rfl⟩;replace O:=ah O
   go_wp2_with fail
   go_cut [35] (λs wx=>s= .bool t/\Ext wr wx)
   case first=>
        by_cases Q:u=0
        ·subst Q
         obtain rfl:lb=[]:=dF a.out;obtain rfl:true=t:=by
          have h:=O.out;unfold IQ at h;exact h
         go_quiet(fail)
         go_wp2_with fail
         go_meet;exact⟨rfl,(Ext.refl _).drewN _⟩
        ·have e0:((u:Int)==0)=false:=by simpa using Q
         obtain⟨b',o',x',y',z',rfl,a0,b2,b1,b0⟩:=M.out.at (k:=0) (by rw[a.out];omega);by_cases a1:j=0
         ·subst a1
          obtain rfl:K=[]:=dF i.out;obtain rfl:false=t:=by
           have h:=O.out;rw[head_drop a0] at h;exact h
          go_quiet(fail)
          go_wp2_with fail
          go_meet;exact⟨rfl,(Ext.refl _).drewN _⟩
         ·obtain⟨b,o,x,y,z,rfl,J,d0,X,U⟩:=N.out.at (k:=0) (by rw[i.out];omega)
          simp only[Nat.zero_mul,Nat.add_zero] at d0 X U b2 b1 b0;have d8:decide (0<j)=true:=by simp;omega
          have a6:(0:Int)<(j:Int):=ω
          have b8:(0:Int)<(u:Int):=ω
          have a7:=ah (show decide (KI (x,y,z) (x',y',z')<0)=t by
           rw[Fe];have h:=O.out;rw[head_drop J,head_drop a0] at h;exact h)
          have a2:=ah (λW=>Pj x y z x' y' z' W);generalize KI (x,y,z) (x',y',z')=q at*;have d9:=a7.out;have r0:=av (f.keep d0);have r1:=av (f.keep X);have r2:=av (f.keep U);have s0:=av (f.keep b2);have s1:=av (f.keep b1);have s2:=av (f.keep b0);clear J a0;refine aL κ κ ?_
          repeat go_big_quiet_step((with_reducible exact Calls.oh (a2.out _)))
          refine bQ ?_;intro _ b3;obtain⟨⟨dq,osq⟩,a3⟩:=b3;subst a3
          go_wp2_with fail
          go_meet;exact⟨rfl,Ext.nX _ _ _⟩
   case rest=>
        obtain⟨rfl,x1⟩:=hcut;replace ho:=ah (ho.out.ext x1);replace f:=f.trans x1;clear x1;cases t with
        |true=>
         have a1:0<j:=by
          rcases gD j with h|h
          ·have ea:K=[]:=dF (by rw[i.out];exact h)
           have h1:=O.out;rw[ea] at h1;have h2:0<lb.length:=by rw[a.out];omega
           cases lb with
           |nil=>simp at h2
           |cons q lb=>cases h1
          ·exact h
         obtain⟨b,o,x,y,z,rfl,J,d0,X,U⟩:=N.out.at (k:=0) (by rw[i.out];exact a1);simp only[Nat.zero_mul,Nat.add_zero] at d0 X U;have a6:(0:Int)<(j:Int):=ω
         have hd:=ah (show sZ (wX lo (x,y,z)) (xM (K.drop 1) lb)=L by
          rw[<-hrel.out]
          conv=>rhs;rw[head_drop J,acG (by have h:=O.out;rw[head_drop J] at h;exact h),CF])
         have d6:=Um (some ⟨b,o,none⟩) j ca 1 ω 1 rfl;have b9:=ah (N.out.cut i.out a9 (show 1<=j by omega));have a5:=ah (show(K.drop 1).length=j-1 by rw[bP,i.out]);have c0:wc.drew.cell? ⟨b,o,none⟩=some (Vu x):=f.keep d0;have c1:wc.drew.cell? ⟨b,o+1,none⟩=some (Vu y):=f.keep X;have c2:wc.drew.cell? ⟨b,o+2,none⟩=some (Vu z):=f.keep U;have H:=ah (KS w wc.drew _ lo x y z (ho.out.ext ((Ext.refl _).drew)) f.drew ω);have b7:=Pz lo (x,y,z);clear J hrel;generalize wX lo (x,y,z)=Z at*
         go_wp2_with fail
         go_region_with(go_at_call 114;refine H.out.mono ?_;rintro e w3 ⟨v3,rfl,Y,x3⟩)
         all_goals
          replace Y:=ah Y;go_wp2
          go_roundg (j-1+u)
          case measure=>omega
          case rel=>exact⟨K.drop 1,lb,Z,_,_,j-1,u,ca-1,cb,rfl,rfl,a5,a,ω,a8,b9,M,Y,x3,hd,ω,aD _⟩
        |false=>
         have Q:0<u:=by
          rcases gD u with h|h
          ·have eb:lb=[]:=dF (by rw[a.out];exact h)
           have h1:=O.out;rw[eb] at h1;unfold IQ at h1;cases h1
          ·exact h
         obtain⟨b,o,x,y,z,rfl,J,d0,X,U⟩:=M.out.at (k:=0) (by rw[a.out];exact Q);simp only[Nat.zero_mul,Nat.add_zero] at d0 X U;have b8:(0:Int)<(u:Int):=ω
         have hd:=ah (show sZ (wX lo (x,y,z)) (xM K (lb.drop 1))=L by
          rw[<-hrel.out]
          conv=>rhs;rw[head_drop J,acF (by have h:=O.out;rw[head_drop J] at h;exact h),CF])
         have d5:=Um (some ⟨b,o,none⟩) u cb 1 ω 1 rfl;have d3:=ah (M.out.cut a.out a8 (show 1<=u by omega));have a4:=ah (show(lb.drop 1).length=u-1 by rw[bP,a.out]);have c0:wc.drew.cell? ⟨b,o,none⟩=some (Vu x):=f.keep d0;have c1:wc.drew.cell? ⟨b,o+1,none⟩=some (Vu y):=f.keep X;have c2:wc.drew.cell? ⟨b,o+2,none⟩=some (Vu z):=f.keep U;have H:=ah (KS w wc.drew _ lo x y z (ho.out.ext ((Ext.refl _).drew)) f.drew ω);have b7:=Pz lo (x,y,z);clear J hrel;generalize wX lo (x,y,z)=Z at*
         go_wp2_with fail
         go_region_with(go_at_call 114;refine H.out.mono ?_;rintro e w3 ⟨v3,rfl,Y,x3⟩)
         all_goals
          replace Y:=ah Y;go_wp2
          go_roundg (j+(u-1))
          case measure=>omega
          case rel=>exact⟨K,lb.drop 1,Z,_,_,j,u-1,ca,cb-1,rfl,rfl,i,a4,a9,ω,N,d3,Y,x3,hd,ω,aD _⟩
  ·have ea:K=[]:=dF (by rw[i.out];omega)
   have eb:lb=[]:=dF (by rw[a.out];omega);subst ea;subst eb;obtain rfl:j=0:=ω
   obtain rfl:u=0:=ω
   have hz:=ah (show lo=L by rw[<-hrel.out,EH];rfl);go_wp2;go_ret;obtain⟨A4,c4,e4,h4⟩:=SpS.own ho.out;have hf:=uy ho.out e4;subst e4;exact⟨A4,_,c4,rfl,by rw[<-hz.out],qg.cap ho.out,by rw[<-hz.out];exact h4,f,hf.2⟩
end Go.Proofs.YtejbpijamdlgcaaGreatDoor

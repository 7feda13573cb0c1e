/-
  Lemmas of this seat; no claim.
-/
import Derived.Test.YtncfhbpejchbfaaGreatDoorPL1
set_option linter.unusedVariables false
set_option linter.unusedSimpArgs false
set_option maxRecDepth 100000
set_option maxHeartbeats 4000000
open Go renaming World→ae,cell_of_row→aj,frozen_of_row→aw,heap_alloc_new→aI,heap_setCell_other→aQ,heap_setCell_same→al
open Go.Lib renaming hid→ac
open Go.RowKit.Below renaming block→av,cell→fx,refl→ik
open Go.World renaming block_lt_of_cell?→cK,cell?_alloc_some→ah
open List renaming length_cons→ar,length_nil→aG,length_take→bv
open Nat renaming le_refl→am,le_trans→az
open Go.Proofs.Tryz
open Go.Proofs.Tryz renaming prog→pg
namespace Go.Proofs.YtncfhbpejchbfaaGreatDoor
open Go.ChangeShapes Go.WideShapes Go.ChangeAt Go.RowKit Go.Sort
section
attribute [local go_sem] ah calm jL jH
theorem Bld.alloc {B b:Nat} {l:List UInt8} {w:ae} (h:Bld B b l w) (o:Obj):Bld B b l (w.alloc o):=Lib.IsBuilderF.alloc h o
theorem Bld.new (w:ae):Bld w.heap.size w.heap.size [] (w.alloc (.cells #[.pointer none,.slice none 0 0] 113)):=Lib.IsBuilderF.of (Lib.fresh_isBuilder 113 5 w)
def Qf (p:Nat) (L:List UInt8) (W W':ae):Prop:=Below p W W'/\(Bld p p L W->Bld p p L W')
theorem Qf.trans {p:Nat} {L:List UInt8} (a b c:ae) (h:Qf p L a b) (k:Qf p L b c):Qf p L a c:=⟨h.1.trans k.1,λx=>k.2 (h.2 x)⟩
theorem ZX {l:List It} {k:Nat} {x:It} (h:l[k]? =some x):nK (l.take (k+1))=nK (l.take k)++Lib.encodeRune x.ch:=by
 rw[List.take_add_one,h,I5];simp[nK]
theorem VJ {l:List It} {x:It} (h:l[0]? =some x):JK l=⟨x.c,x.k,x.lc,x.lk,x.rc,x.rk,nK l⟩:=by
 cases l with
 |nil=>cases h
 |cons y l=>
  obtain rfl:y=x:=by simpa using h
  rfl
theorem VL (A:Option Addr) (n cap:Nat) (l:List It) (w:ae) (hv:ItS w A l) (hn:l.length=n) (h0:0<n) (hw:Bh l) (hb:n<=4000000):
  Calls pg 54 #[.slice A n cap] w λe w'=>e= .returned (rnv (JK l))/\Ext w w':=by
 replace hn:=ac hn;replace hv:=ac hv;replace hw:=ac hw;go_enter func54,ntmps54;go_wp2;have x0:Ext w (w.alloc (.cells #[.int .u32 0,.int .u32 0,.int .u32 0,.int .u32 0,.int .u32 0,.int .u32 0,.string ⟨#[]⟩] 40)):=(Ext.refl _).alloc _;have hz:(w.alloc (.cells #[.int .u32 0,.int .u32 0,.int .u32 0,.int .u32 0,.int .u32 0,.int .u32 0,.string ⟨#[]⟩] 40)).heap[w.heap.size]? =some (.cells #[.int .u32 0,.int .u32 0,.int .u32 0,.int .u32 0,.int .u32 0,.int .u32 0,.string ⟨#[]⟩] 40 (0,0)):=aI w _;have z:(w.alloc (.cells #[.int .u32 0,.int .u32 0,.int .u32 0,.int .u32 0,.int .u32 0,.int .u32 0,.string ⟨#[]⟩] 40)).heap.size=w.heap.size+1:=ι
 generalize w.alloc (.cells #[.int .u32 0,.int .u32 0,.int .u32 0,.int .u32 0,.int .u32 0,.int .u32 0,.string ⟨#[]⟩] 40)=u at*;rw[<-z];replace z:=ac z;replace hz:=ac hz
 go_loopw [8] (λi W=>∃(k:Nat),k<=n/\i=Vi k/\Hid (Bld u.heap.size u.heap.size (nK (l.take k)) W)/\Hid (Below u.heap.size u W)) (λi _=>n-(intOf i).toNat)
 case atStart=>exact⟨0,Nat.zero_le _,rfl,ac (Bld.new u),ac ((ik _ _).alloc (am _) _)⟩
 case round=>
  obtain⟨k,hk,rfl,O,f⟩:=hrel;have U:u.heap.size<=wr.heap.size:=f.out.size;by_cases a2:k<n
  ·obtain⟨b,o,x,rfl,N,d⟩:=hv.out.at (k:=k) (by rw[hn.out];exact a2)
   have I:=hw.out.at N;obtain⟨c0,c1,c2,c3,c4,c5,c6⟩:=(d.ext x0).ext (show Ext u wr from f.out);have he:=ac (ZX N);have X:=AP (l.take k);rw[bv] at X;have M:=ac (λ(o:Obj)=>writeRune_any u.heap.size u.heap.size (nK (l.take k)) x.ch (by have:=I;unfold wfI at this;omega) (by have:=I;unfold wfI at this;omega) (wr.alloc o) (O.out.alloc o) ω (by simp;omega));clear N d I X
   go_wp2_with fail
   refine(M.out _).mono ?_;rintro e w1 ⟨rfl,Z,h3⟩;replace Z:=ac Z;have a0:=ac (Below.trans (Below.alloc f.out U _) h3);clear h3;go_wp2
   go_roundw
   case rel=>exact⟨k+1,ω,ν,ac (by rw[he.out];exact Z.out),a0⟩
   case measure=>simp[intOf];omega
  ·obtain rfl:k=n:=ω
   obtain⟨b,o,x,rfl,N,d⟩:=hv.out.at (k:=0) (by rw[hn.out];exact h0);have hj:=ac (VJ N);have Y:b<u.heap.size:=by have:=cK _ _ (d.ext x0).c0;exact this
   have H:=(d.ext x0).ext (show Ext u wr from f.out);rw[show l.take k=l from List.take_of_length_le (by rw[hn.out];exact am _)] at O;simp only[Nat.zero_mul,Nat.add_zero] at H;clear N d;generalize a5:nK l=L at*;have hK:∀W,Below u.heap.size wr W->∀{j:Nat} {v:Value},wr.cell? ⟨b,j,none⟩=some v->W.cell? ⟨b,j,none⟩=some v:=λW hW j v h=>by rw[fx (p:=⟨b,j,none⟩) hW Y];exact h
   have a3:¬(k=0):=ω
   replace O:=O.out;have Q:wr.heap[w.heap.size]? =some (.cells #[.int .u32 0,.int .u32 0,.int .u32 0,.int .u32 0,.int .u32 0,.int .u32 0,.string ⟨#[]⟩] 40 (0,0)):=by rw[av f.out w.heap.size (by rw[z.out];omega)];exact hz.out
   generalize a1:u.heap.size=p at*
   go_wp2_with fail
   refine ou 14 99999 [rwI 12 (.string ⟨L.toArray⟩)] (Qf p L _) (λ_=>True) (Qf p L) (Qf p L) ⟨(ik _ _).drew,id⟩ trivial (λ_ _ h e=>Qf.trans _ _ _ h e) (λ_ _ _ _=>trivial) ⟨λ_ _ _ _ _ _=>trivial,λ_ _ _ _ _ _ _ _=>trivial,trivial⟩ λρ hI=>?_
   refine .s1 12 false [] (λW f _ _=>by
        have q0:=hK W f.1 H.c0;have q1:=hK W f.1 H.c1;have q2:=hK W f.1 H.c2;have q3:=hK W f.1 H.c3;have q4:=hK W f.1 H.c4;have q5:=hK W f.1 H.c5;exact jD) ?_
   refine .kv1 hI 0 _ (λW f=>(string_any p p L W (f.2 O) (az U f.1.size)).mono (by rintro e W1 ⟨h1,Z,h3⟩;exact⟨h1,h3,λ_=>Z⟩)) ?_;refine .s1 1 false [] (λW f _ _=>jD) ?_;refine .fin λW hR _=>?_
   have a:W.heap[w.heap.size]? =some (.cells #[.int .u32 0,.int .u32 0,.int .u32 0,.int .u32 0,.int .u32 0,.int .u32 0,.string ⟨#[]⟩] 40 (0,0)):=by rw[av hR.1 w.heap.size (by have:=z.out;omega)];exact Q
   have hE:Ext w W:=x0.trans (by have h1:=Below.trans f.out hR.1;rw[<-a1] at h1;exact h1);have a4:w.heap.size<=w.heap.size:=am _;have z0:=aj W w.heap.size 0 _ _ _ a;have f0:=aw W w.heap.size 0 _ _ a;have z1:=aj W w.heap.size 1 _ _ _ a;have f1:=aw W w.heap.size 1 _ _ a;have z2:=aj W w.heap.size 2 _ _ _ a;have f2:=aw W w.heap.size 2 _ _ a;have z3:=aj W w.heap.size 3 _ _ _ a;have f3:=aw W w.heap.size 3 _ _ a;have z4:=aj W w.heap.size 4 _ _ _ a;have f4:=aw W w.heap.size 4 _ _ a;have z5:=aj W w.heap.size 5 _ _ _ a;have f5:=aw W w.heap.size 5 _ _ a;have z6:=aj W w.heap.size 6 _ _ _ a;have f6:=aw W w.heap.size 6 _ _ a;clear a Q O hK H f hR;generalize J:w.heap.size=q at*;go_wp2;exact bodyPost_ret (v:=rnv ⟨x.c,x.k,x.lc,x.lk,x.rc,x.rk,L⟩) (by simp[results,results54,go_sem,z0,z1,z2,z3,z4,z5,z6]) rfl ⟨by rw[hj.out],((((((hE.setCell (by rw[J];exact am _) _).setCell (by rw[J];exact am _) _).setCell (by rw[J];exact am _) _).setCell (by rw[J];exact am _) _).setCell (by rw[J];exact am _) _).setCell (by rw[J];exact am _) _).setCell (by rw[J];exact am _) _⟩
end
section
attribute [local go_sem] ah
def sliceLen:Value->Nat
 | .slice _ n _=>n
 |_=>0
theorem Bh.drop {l:List It} (h:Bh l) (k:Nat):Bh (l.drop k):=λx a=>h x (List.mem_of_mem_drop a)
theorem Bh.take {l:List It} (h:Bh l) (k:Nat):Bh (l.take k):=λx a=>h x (List.mem_of_mem_take a)
def ae7 (w:ae) (N:Nat) (l:List It) (e a:Value) (W:ae):Prop:=
 ∃(r:List It) (rs:List Rn) (A:Option Addr) (m c:Nat),e= .slice A m c/\Hid (r.length=m)/\m<=c/\Hid (ItS w A r)/\Hid (Bh r)/\Hid (qz w W a rs)/\rs.length+m<=N/\Ext w W/\Hid (rs++ko r=ko l)
theorem Gv (A:Option Addr) (n cap:Nat) (l:List It) (w:ae) (hv:ItS w A l) (hn:l.length=n) (Y:n<=cap) (Q:Bh l) (hb:n<=4000000):
  Calls pg 26 #[.slice A n cap] w (ah7 w (ko l)):=by
 go_enter func26,ntmps26;go_wp2
 go_loopw [0,3] (ae7 w n l) (λs0 _ _=>sliceLen s0)
 case atStart=>exact⟨l,[],A,n,cap,rfl,ac hn,Y,ac hv,ac Q,ac (qz.nil _ _),ι,Ext.refl _,ac rfl⟩
 case round=>
  clear hv hn Y Q;obtain⟨r,rs,A,m,c,rfl,hm,M,O,a,U,X,z,hrel⟩:=hrel;by_cases h0:0<m
  ·have f:r≠[]:=by intro e;have:=hm.out;rw[e] at this;simp at this;omega
   have a1:=SC f;have I:=XJ r;rw[hm.out] at I;have J:=ac (SX f);have u:=ac (KM A m c r wr (O.out.ext z) hm.out h0 a.out ω);have j:=ac (λ(W:ae) (hX:Ext wr W)=>VL A (tog r) c (r.take (tog r)) W ((O.out.ext (z.trans hX)).take _) (by rw[bv,hm.out];omega) ω (a.out.take _) ω);have hcut:=ac (O.out.cut hm.out M (k:=tog r) ω);have H:=ac (a.out.drop (tog r));have N:=ac (show(r.drop (tog r)).length=m-tog r by rw[List.length_drop,hm.out]);have a0:=afj A m c (tog r) ω ((tog r:Nat):Int) rfl;have a2:=agh A m c (tog r) ω ((tog r:Nat):Int) rfl;clear f;generalize JK (r.take (tog r))=q at*;generalize r.drop (tog r)=r' at*;generalize tog r=t at*
   go_wp2_with fail
   refine u.out.mono ?_;rintro e w1 ⟨rfl,x1⟩;clear u
   go_wp2_with fail
   refine(j.out _ x1).mono ?_;rintro e Z ⟨rfl,x2⟩;clear j;have i:Ext wr Z:=x1.trans x2
   go_wp2_with(first
        |(at_builtin
          refine xA (w0:=w) rfl (.tmp 10) (.tmp 15) rfl _ rs rfl ((U.out.ext i).ext ((Ext.refl _).alloc _)) ((z.trans i).alloc _) _ 1 1 [q] rfl rfl (RnS.new _ q) (by simp only[ar,aG];omega) ?_;intro v3 w3 o3 x3 g3 b3))
   go_roundw
   case rel=>exact⟨r',rs++[q],_,_,_,rfl,N,ω,hcut,H,ac o3,by simp only[List.length_append,ar,aG];omega,x3,ac (by rw[<-hrel.out,J.out];simp)⟩
   case measure=>simp[sliceLen];omega
  ·have hr:r=[]:=List.eq_nil_of_length_eq_zero (by rw[hm.out];omega)
   have K:=ac (show rs=ko l by rw[<-hrel.out,hr];simp[ko]);go_wp2;go_ret;exact⟨_,rfl,K.out▸U.out,z⟩
end
section
attribute [local go_sem] ah calm jL jH
theorem XL (l:List UInt8) (W:ae):(binOp .eql 9 (.string ⟨l.toArray⟩) (.string ⟨#[]⟩)).run pg W= .ok (.bool l.isEmpty) W:=by
 simp[go_sem]
attribute [local go_sem ↓] XL
def uf (W:ae) (q:Nat):Prop:=∃u v,W.heap[q]? =some (.cells #[Vu u,Vu v] 38 (0,0))
theorem uf.new (W:ae):uf (W.alloc (.cells #[Vu 0,Vu 0] 38)) W.heap.size:=⟨0,0,aI W _⟩
def wI (B:Nat) (W W':ae):Prop:=Below B W W'/\∀q,uf W q->uf W' q
theorem wI.trans {B:Nat} (a b c:ae) (h:wI B a b) (k:wI B b c):wI B a c:=⟨h.1.trans k.1,λq e=>k.2 q (h.2 q e)⟩
theorem wI.ext {B:Nat} {w W W':ae} (e:Below B w W/\∀q,uf w q->uf W q) (h:Ext W W') (f:B<=w.heap.size:=by assumption):wI B W W':=by
 refine⟨Below.mono h (az f e.1.size),λq a=>?_⟩;obtain⟨u,v,a⟩:=a;exact⟨u,v,by rw[av h q (Array.getElem?_eq_some_iff.1 a).1];exact a⟩
theorem wI.alloc {B:Nat} {w W:ae} (a:Below B w W/\∀q,uf w q->uf W q) (o:Obj) (e:B<=w.heap.size:=by assumption):wI B W (W.alloc o):=wI.ext a ((Ext.refl W).alloc o) e
theorem wI.store {B:Nat} {w W:ae} {q:Nat} {x y:Int} (j:Below B w W/\∀q,uf w q->uf W q) (f:B<=q):wI B W ((W.setCell ⟨q,0,none⟩ (Vu x)).setCell ⟨q,1,none⟩ (Vu y)):=by
 refine⟨((ik _ _).setCell f _).setCell f _,λi a=>?_⟩;obtain⟨u,v,a⟩:=a;by_cases e:i=q
 ·subst e
  exact⟨x,y,al _ _ 1 _ _ _ (al _ _ 0 _ _ _ a)⟩
 ·exact⟨u,v,by rw[aQ _ _ _ _ e,aQ _ _ _ _ e];exact a⟩
theorem QK (r:Rn) (w:ae) (hT:Tabs w) (Z:0<=r.k) (Y:r.k<=4294967295) (ht:r.t.length<=80000000):
  Calls pg 30 #[rnv r] w λe w'=>e= .returned (.bool (mZ r))/\Ext w w':=by
 have hl:=qL r.t;have M:(⟨r.t.toArray⟩:ByteArray).size=r.t.length:=by show r.t.toArray.size=_;simp
 have hv:=ac (λW (H:Ext w W)=>validStr_any ⟨r.t.toArray⟩ W (by rw[M];omega) (hT.ext H));have i:=ac (λW=>runeCount_any ⟨r.t.toArray⟩ W (by rw[M];omega));rw[xR] at i;replace i:Hid (∀(W:ae),Calls pg 51 #[.string ⟨r.t.toArray⟩] W λe w'=>e= .returned (.int .i64 ((jK r.t).length:Int))/\Ext W w'):=i;replace hv:Hid (∀(W:ae),Ext w W->Calls pg 47 #[.string ⟨r.t.toArray⟩] W λe w'=>e= .returned (.bool (Lib.validD r.t))/\Ext W w'):=hv;clear M;cases he:r.t.isEmpty with
 |true=>
  have hm:=ac (Dy (r:=r) (.inr (.inl (by rw[List.isEmpty_iff.1 he,qK];rfl))));clear hv i;go_enter func30,ntmps30;go_wp2;go_ret;exact⟨kE (a:=false) hm.out.symm,(Ext.refl _).alloc _⟩
 |false=>
  have X:0<(jK r.t).length:=by
   have a4:r.t≠[]:=by intro e;rw[e] at he;simp at he
   rw[oH _ a4];simp
  cases I:Lib.validD r.t with
  |false=>
   have hm:=ac (Dy (r:=r) (.inl I));rw[I] at hv;clear i I;go_enter func30,ntmps30
   go_wp2_with fail
   refine(hv.out _ ((Ext.refl _).alloc _)).mono ?_;rintro e O ⟨rfl,x1⟩;go_wp2;go_ret;exact⟨kE (a:=false) hm.out.symm,((Ext.refl _).alloc _).trans x1⟩
  |true=>
   rw[I] at hv;have hn:(jK r.t).length<=80000000:=ω
   obtain⟨n,J⟩:∃n,(jK r.t).length=n:=⟨_,rfl⟩;rw[J] at i X hn;obtain⟨x,y,E,be,hE,a2,hm⟩:∃(x y:Int) (E:Value) (be:Bool),((E= .nilIface/\be=true)\/(∃z:Int,E= .iface 56 (.int .i64 z)/\be=false))/\
       Hid (∀W,Calls pg 50 #[idv r.c r.k,Vi ((n:Int)-1),Vu 4294967294] W λe w'=>e= .returned (.tuple #[idv x y,E])/\Ext W w')/\Hid (mZ r=be):=by
        by_cases Q:r.c=0\/4294967294<r.k+(n:Int)-1
        ·obtain⟨z,hz,ha⟩:∃z:Int,z≠0/\om r.c r.k ((n:Int)-1) 4294967294=(0,0,z):=by
          unfold om;by_cases h0:r.c=0
          ·exact⟨1,ω,by rw[if_pos ω]⟩
          ·exact⟨4,ω,by rw[if_neg ω,if_pos ω]⟩
         exact⟨0,0,_,false,.inr ⟨z,rfl,rfl⟩,ac (λW=>KA W ha hz Z Y ω ω ω ω),ac (Dy (by rw[J];rcases Q with h|h <;> simp[h]))⟩
        ·have ha:om r.c r.k ((n:Int)-1) 4294967294=(r.c,r.k+((n:Int)-1),0):=by
          unfold om;rw[if_neg ω,if_neg ω]
         exact⟨_,_,_,true,.inl ⟨rfl,rfl⟩,ac (λW=>zC W ha Z Y ω ω ω ω),ac (YL I (by rw[J];omega) ω (by rw[J];omega))⟩
   have a9:IntKind.i64.wrap ((n:Int)-1)=(n:Int)-1:=IntWalk.i64_in _ ω;clear I J hl;go_enter func30,ntmps30
   go_wp2_with fail
   refine(hv.out _ ((Ext.refl _).alloc _)).mono ?_;rintro e O ⟨rfl,x1⟩;have a0:=x1.keep (p:=⟨w.heap.size,0,none⟩) (v:=Vu r.c) σ;have a1:=x1.keep (p:=⟨w.heap.size,1,none⟩) (v:=Vu r.k) σ;have a6:=x1.keep (p:=⟨w.heap.size,6,none⟩) (v:= .string ⟨r.t.toArray⟩) σ;replace x1:=((Ext.refl w).alloc _).trans x1;have b0:w.heap.size<O.heap.size:=cK _ _ a0;generalize w.heap.size=pa at*;obtain⟨B,a5⟩:∃B,O.heap.size=B:=⟨_,rfl⟩;have hB:B<=O.heap.size:=ω
   have hK:∀W,wI B O W->∀{j:Nat} {v:Value},O.cell? ⟨pa,j,none⟩=some v->W.cell? ⟨pa,j,none⟩=some v:=λW hW j v h=>by rw[fx (p:=⟨pa,j,none⟩) hW.1 (by show pa<B;omega)];exact h
   go_wp2_with fail
   refine ou 12 99999 [rwI 4 (Vi (n:Int)),rwI 6 (.tuple #[idv x y,E]),rw1 10 (λz9 W=>∃q,z9= .pointer (some ⟨q,0,none⟩)/\B<=q/\uf W q),rw0 11 λ_=>True] (wI B _) (λ_=>True) (wI B) (wI B) ⟨(ik _ _).drew,λ_ h=>h⟩ trivial (λ_ _ h e=>wI.trans _ _ _ h e) (λ_ _ _ _=>trivial) ⟨λ_ _ _ _ _ _=>trivial,λ_ _ _ _ _ _ _ _=>trivial,λ_ _ _ _ _ _=>trivial,λ_ _ _ _ _ _ _ _=>trivial,(by rintro _ _ _ _ ⟨q,U,h2,h3⟩ e;exact⟨q,U,h2,e.2 q h3⟩),λ_ _=>(by rintro _ _ _ _ ⟨q,U,h2,h3⟩ e;exact⟨q,U,h2,e.2 q h3⟩),λ_ _ _ _ _ _=>trivial,λ_ _ _ _ _ _ _ _=>trivial,trivial⟩ λρ hI=>?_
   refine .s1 4 false [] (λW H _ _=>by
        have q0:=hK W H a0;have q1:=hK W H a1;have q2:=hK W H a6;exact jD) ?_
   refine .kv1 hI 0 _ (λW H=>(i.out W).mono (by rintro e W1 ⟨rfl,h⟩;exact⟨rfl,wI.ext H h⟩)) ?_;refine .s1 1 false [] (λW H _ _=>jD) ?_;refine .kv1 hI 1 _ (λW H=>(a2.out W).mono (by rintro e W1 ⟨rfl,h⟩;exact⟨rfl,wI.ext H h⟩)) ?_;refine .s1 3 false [] (λW H _ _=>jD) ?_;refine .o1 2 false [] (λW H _ _ N hN=>?_) ?_
   ·go_simp
    exact hN _ _ (λ_ e=>by cases e) ⟨_,rfl,az (by assumption) H.1.size,_,_,aI W _⟩ (wI.alloc H _)
   refine .o1 3 false [2] (λW H _ f N hN=>?_) ?_
   ·obtain⟨⟨q,eq,hq,u,v,Q⟩,_⟩:=f
    have eq:ρ 10=_:=eq;have f0:=aw W q 0 _ _ Q;have f1:=aw W q 1 _ _ Q;have g0:=aj W q 0 _ _ _ Q;have g1:=aj W q 1 _ _ _ Q
    go_simp
    exact hN _ _ (λ_ e=>by cases e) trivial (wI.store H hq)
   refine .fin λW hR ⟨_,_,a7,_⟩=>?_
   obtain⟨q,a8,_,_⟩:=a7 rfl;rw[show ρ 10=_ from a8];have a3:Ext w W:=x1.trans (by have U:=hR.1;rw[<-a5] at U;exact U);rcases hE with⟨rfl,rfl⟩|⟨z,rfl,rfl⟩
   ·go_wp2
    go_ret;exact⟨kE (a:=true) hm.out.symm,a3⟩
   ·go_wp2
    go_ret;exact⟨kE (a:=false) hm.out.symm,a3⟩
end
end Go.Proofs.YtncfhbpejchbfaaGreatDoor

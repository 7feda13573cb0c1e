/-
  Lemmas of this seat; no claim.
-/
import Derived.Test.YtejbpijamdlgcaaGreatDoorPL1
set_option linter.unusedVariables false
set_option linter.unusedSimpArgs false
set_option maxRecDepth 100000
set_option maxHeartbeats 4000000
open Go renaming World→aj,cell_of_row→ak,frozen_of_row→aK,heap_alloc_new→aT,heap_setCell_other→bA,heap_setCell_same→aB
open Go.Lib renaming hid→ah
open Go.RowKit.Below renaming block→aJ,cell→jG,refl→lV
open Go.World renaming block_lt_of_cell?→eO,cell?_alloc_some→au
open List renaming length_cons→aH,length_nil→aR,length_take→bN
open Nat renaming le_refl→aD,le_trans→aM
namespace Go.Proofs.YtejbpijamdlgcaaGreatDoor
open Go.ChangeShapes Go.WideShapes Go.ChangeAt Go.RowKit Go.Sort
section
attribute [local go_sem] au calm oK oG
theorem Bld.alloc {B b:Nat} {l:List UInt8} {w:aj} (h:Bld B b l w) (o:Obj):Bld B b l (w.alloc o):=Lib.IsBuilderF.alloc h o
theorem Bld.new (w:aj):Bld w.heap.size w.heap.size [] (w.alloc (.cells #[.pointer none,.slice none 0 0] 144)):=Lib.IsBuilderF.of (Lib.fresh_isBuilder 144 5 w)
def SB (p:Nat) (L:List UInt8) (W W':aj):Prop:=Below p W W'/\(Bld p p L W->Bld p p L W')
theorem SB.trans {p:Nat} {L:List UInt8} (a b c:aj) (h:SB p L a b) (k:SB p L b c):SB p L a c:=⟨h.1.trans k.1,λx=>k.2 (h.2 x)⟩
theorem abu {l:List It} {k:Nat} {x:It} (h:l[k]? =some x):sK (l.take (k+1))=sK (l.take k)++Lib.encodeRune x.ch:=by
 rw[List.take_add_one,h,Lp];simp[sK]
theorem XP {l:List It} {x:It} (h:l[0]? =some x):MR l=⟨x.c,x.k,x.lc,x.lk,x.rc,x.rk,sK l⟩:=by
 cases l with
 |nil=>cases h
 |cons y l=>
  obtain rfl:y=x:=by simpa using h
  rfl
theorem XQ (A:Option Addr) (n cap:Nat) (l:List It) (w:aj) (hv:ItS w A l) (X:l.length=n) (h0:0<n) (hw:Eo l) (hb:n<=4000000):
  Calls Tryz.prog 51 #[.slice A n cap] w λe w'=>e= .returned (rnv (MR l))/\Ext w w':=by
 replace X:=ah X;replace hv:=ah hv;replace hw:=ah hw;go_enter Tryz.func51,Tryz.ntmps51;go_wp2;have x0:Ext w (w.alloc (.cells #[.int .u32 0,.int .u32 0,.int .u32 0,.int .u32 0,.int .u32 0,.int .u32 0,.string ⟨#[]⟩] 64)):=(Ext.refl _).alloc _;have hz:(w.alloc (.cells #[.int .u32 0,.int .u32 0,.int .u32 0,.int .u32 0,.int .u32 0,.int .u32 0,.string ⟨#[]⟩] 64)).heap[w.heap.size]? =some (.cells #[.int .u32 0,.int .u32 0,.int .u32 0,.int .u32 0,.int .u32 0,.int .u32 0,.string ⟨#[]⟩] 64 (0,0)):=aT w _;have z:(w.alloc (.cells #[.int .u32 0,.int .u32 0,.int .u32 0,.int .u32 0,.int .u32 0,.int .u32 0,.string ⟨#[]⟩] 64)).heap.size=w.heap.size+1:=ι
 generalize w.alloc (.cells #[.int .u32 0,.int .u32 0,.int .u32 0,.int .u32 0,.int .u32 0,.int .u32 0,.string ⟨#[]⟩] 64)=u at*;rw[<-z];replace z:=ah z;replace hz:=ah hz
 go_loopw [8] (λi W=>∃(k:Nat),k<=n/\i=Vi k/\Hid (Bld u.heap.size u.heap.size (sK (l.take k)) W)/\Hid (Below u.heap.size u W)) (λi _=>n-(intOf i).toNat)
 case atStart=>exact⟨0,Nat.zero_le _,rfl,ah (Bld.new u),ah ((lV _ _).alloc (aD _) _)⟩
 case round=>
  obtain⟨k,hk,rfl,O,f⟩:=hrel;have U:u.heap.size<=wr.heap.size:=f.out.size;by_cases a2:k<n
  ·obtain⟨b,o,x,rfl,N,d⟩:=hv.out.at (k:=k) (by rw[X.out];exact a2)
   have I:=hw.out.at N;obtain⟨c0,c1,c2,c3,c4,c5,c6⟩:=(d.ext x0).ext (show Ext u wr from f.out);have he:=ah (abu N);have Y:=Ec (l.take k);rw[bN] at Y;have M:=ah (λ(o:Obj)=>writeRune_any u.heap.size u.heap.size (sK (l.take k)) x.ch (by have:=I;unfold wfI at this;omega) (by have:=I;unfold wfI at this;omega) (wr.alloc o) (O.out.alloc o) ω (by simp;omega));clear N d I Y
   go_wp2_with fail
   refine(M.out _).mono ?_;rintro e w1 ⟨rfl,h2,h3⟩;replace h2:=ah h2;have a0:=ah (Below.trans (Below.alloc f.out U _) h3);clear h3;go_wp2
   go_roundw
   case rel=>exact⟨k+1,ω,ν,ah (by rw[he.out];exact h2.out),a0⟩
   case measure=>simp[intOf];omega
  ·obtain rfl:k=n:=ω
   obtain⟨b,o,x,rfl,N,d⟩:=hv.out.at (k:=0) (by rw[X.out];exact h0);have hj:=ah (XP N);have Z:b<u.heap.size:=by have:=eO _ _ (d.ext x0).c0;exact this
   have H:=(d.ext x0).ext (show Ext u wr from f.out);rw[show l.take k=l from List.take_of_length_le (by rw[X.out];exact aD _)] at O;simp only[Nat.zero_mul,Nat.add_zero] at H;clear N d;generalize a5:sK l=L at*;have hK:∀W,Below u.heap.size wr W->∀{j:Nat} {v:Value},wr.cell? ⟨b,j,none⟩=some v->W.cell? ⟨b,j,none⟩=some v:=λW hW j v h=>by rw[jG (p:=⟨b,j,none⟩) hW Z];exact h
   have a3:¬(k=0):=ω
   replace O:=O.out;have Q:wr.heap[w.heap.size]? =some (.cells #[.int .u32 0,.int .u32 0,.int .u32 0,.int .u32 0,.int .u32 0,.int .u32 0,.string ⟨#[]⟩] 64 (0,0)):=by rw[aJ f.out w.heap.size (by rw[z.out];omega)];exact hz.out
   generalize a1:u.heap.size=p at*
   go_wp2_with fail
   refine tY 14 99999 [rwI 12 (.string ⟨L.toArray⟩)] (SB p L _) (λ_=>True) (SB p L) (SB p L) ⟨(lV _ _).drew,id⟩ trivial (λ_ _ h e=>SB.trans _ _ _ h e) (λ_ _ _ _=>trivial) ⟨λ_ _ _ _ _ _=>trivial,λ_ _ _ _ _ _ _ _=>trivial,trivial⟩ λρ hI=>?_
   refine .s1 12 false [] (λW f _ _=>by
        have q0:=hK W f.1 H.c0;have q1:=hK W f.1 H.c1;have q2:=hK W f.1 H.c2;have q3:=hK W f.1 H.c3;have q4:=hK W f.1 H.c4;have q5:=hK W f.1 H.c5;exact oz) ?_
   refine .kv1 hI 0 _ (λW f=>(string_any p p L W (f.2 O) (aM U f.1.size)).mono (by rintro e W1 ⟨h1,h2,h3⟩;exact⟨h1,h3,λ_=>h2⟩)) ?_;refine .s1 1 false [] (λW f _ _=>oz) ?_;refine .fin λW hR _=>?_
   have a:W.heap[w.heap.size]? =some (.cells #[.int .u32 0,.int .u32 0,.int .u32 0,.int .u32 0,.int .u32 0,.int .u32 0,.string ⟨#[]⟩] 64 (0,0)):=by rw[aJ hR.1 w.heap.size (by have:=z.out;omega)];exact Q
   have hE:Ext w W:=x0.trans (by have h1:=Below.trans f.out hR.1;rw[<-a1] at h1;exact h1);have a4:w.heap.size<=w.heap.size:=aD _;have z0:=ak W w.heap.size 0 _ _ _ a;have f0:=aK W w.heap.size 0 _ _ a;have z1:=ak W w.heap.size 1 _ _ _ a;have f1:=aK W w.heap.size 1 _ _ a;have z2:=ak W w.heap.size 2 _ _ _ a;have f2:=aK W w.heap.size 2 _ _ a;have z3:=ak W w.heap.size 3 _ _ _ a;have f3:=aK W w.heap.size 3 _ _ a;have z4:=ak W w.heap.size 4 _ _ _ a;have f4:=aK W w.heap.size 4 _ _ a;have z5:=ak W w.heap.size 5 _ _ _ a;have f5:=aK W w.heap.size 5 _ _ a;have z6:=ak W w.heap.size 6 _ _ _ a;have f6:=aK W w.heap.size 6 _ _ a;clear a Q O hK H f hR;generalize J:w.heap.size=q at*;go_wp2;exact bodyPost_ret (v:=rnv ⟨x.c,x.k,x.lc,x.lk,x.rc,x.rk,L⟩) (by simp[results,Tryz.results51,go_sem,z0,z1,z2,z3,z4,z5,z6]) rfl ⟨by rw[hj.out],((((((hE.setCell (by rw[J];exact aD _) _).setCell (by rw[J];exact aD _) _).setCell (by rw[J];exact aD _) _).setCell (by rw[J];exact aD _) _).setCell (by rw[J];exact aD _) _).setCell (by rw[J];exact aD _) _).setCell (by rw[J];exact aD _) _⟩
end
section
attribute [local go_sem] au
def sliceLen:Value->Nat
 | .slice _ n _=>n
 |_=>0
theorem Eo.drop {l:List It} (h:Eo l) (k:Nat):Eo (l.drop k):=λx a=>h x (List.mem_of_mem_drop a)
theorem Eo.take {l:List It} (h:Eo l) (k:Nat):Eo (l.take k):=λx a=>h x (List.mem_of_mem_take a)
def agS (w:aj) (N:Nat) (l:List It) (e a:Value) (W:aj):Prop:=
 ∃(r:List It) (rs:List Rn) (A:Option Addr) (m c:Nat),e= .slice A m c/\Hid (r.length=m)/\m<=c/\Hid (ItS w A r)/\Hid (Eo r)/\Hid (vH w W a rs)/\rs.length+m<=N/\Ext w W/\Hid (rs++pO r=pO l)
theorem Jw (A:Option Addr) (n cap:Nat) (l:List It) (w:aj) (hv:ItS w A l) (Y:l.length=n) (hc:n<=cap) (U:Eo l) (hb:n<=4000000):
  Calls Tryz.prog 31 #[.slice A n cap] w (ajH w (pO l)):=by
 go_enter Tryz.func31,Tryz.ntmps31;go_wp2
 go_loopw [0,3] (agS w n l) (λs0 _ _=>sliceLen s0)
 case atStart=>exact⟨l,[],A,n,cap,rfl,ah Y,hc,ah hv,ah U,ah (vH.nil _ _),ι,Ext.refl _,ah rfl⟩
 case round=>
  clear hv Y hc U;obtain⟨r,rs,A,m,c,rfl,i,N,Q,a,X,Z,H,hrel⟩:=hrel;by_cases h0:0<m
  ·have f:r≠[]:=by intro e;have:=i.out;rw[e] at this;simp at this;omega
   have a1:=U8 f;have J:=Ze r;rw[i.out] at J;have K:=ah (Vv f);have z:=ah (NS A m c r wr (Q.out.ext H) i.out h0 a.out ω);have u:=ah (λ(W:aj) (hX:Ext wr W)=>XQ A (tog r) c (r.take (tog r)) W ((Q.out.ext (H.trans hX)).take _) (by rw[bN,i.out];omega) ω (a.out.take _) ω);have hcut:=ah (Q.out.cut i.out N (k:=tog r) ω);have I:=ah (a.out.drop (tog r));have O:=ah (show(r.drop (tog r)).length=m-tog r by rw[List.length_drop,i.out]);have a0:=ag3 A m c (tog r) ω ((tog r:Nat):Int) rfl;have a2:=ahV A m c (tog r) ω ((tog r:Nat):Int) rfl;clear f;generalize MR (r.take (tog r))=q at*;generalize r.drop (tog r)=r' at*;generalize tog r=t at*
   go_wp2_with fail
   refine z.out.mono ?_;rintro e w1 ⟨rfl,x1⟩;clear z
   go_wp2_with fail
   refine(u.out _ x1).mono ?_;rintro e w2 ⟨rfl,x2⟩;clear u;have j:Ext wr w2:=x1.trans x2
   go_wp2_with(first
        |(at_builtin
          refine AL (w0:=w) rfl (.tmp 10) (.tmp 15) rfl _ rs rfl ((X.out.ext j).ext ((Ext.refl _).alloc _)) ((H.trans j).alloc _) _ 1 1 [q] rfl rfl (RnS.new _ q) (by simp only[aH,aR];omega) ?_;intro v3 w3 o3 x3 g3 b3))
   go_roundw
   case rel=>exact⟨r',rs++[q],_,_,_,rfl,O,ω,hcut,I,ah o3,by simp only[List.length_append,aH,aR];omega,x3,ah (by rw[<-hrel.out,K.out];simp)⟩
   case measure=>simp[sliceLen];omega
  ·have hr:r=[]:=List.eq_nil_of_length_eq_zero (by rw[i.out];omega)
   have M:=ah (show rs=pO l by rw[<-hrel.out,hr];simp[pO]);go_wp2;go_ret;exact⟨_,rfl,M.out▸X.out,H⟩
end
section
attribute [local go_sem] au calm oK oG
theorem Zg (l:List UInt8) (W:aj):(binOp .eql 9 (.string ⟨l.toArray⟩) (.string ⟨#[]⟩)).run Tryz.prog W= .ok (.bool l.isEmpty) W:=by
 simp[go_sem]
attribute [local go_sem ↓] Zg
def yg (W:aj) (q:Nat):Prop:=∃u v,W.heap[q]? =some (.cells #[Vu u,Vu v] 55 (0,0))
theorem yg.new (W:aj):yg (W.alloc (.cells #[Vu 0,Vu 0] 55)) W.heap.size:=⟨0,0,aT W _⟩
def zQ (B:Nat) (W W':aj):Prop:=Below B W W'/\∀q,yg W q->yg W' q
theorem zQ.trans {B:Nat} (a b c:aj) (h:zQ B a b) (k:zQ B b c):zQ B a c:=⟨h.1.trans k.1,λq e=>k.2 q (h.2 q e)⟩
theorem zQ.ext {B:Nat} {w W W':aj} (e:Below B w W/\∀q,yg w q->yg W q) (h:Ext W W') (f:B<=w.heap.size:=by assumption):zQ B W W':=by
 refine⟨Below.mono h (aM f e.1.size),λq a=>?_⟩;obtain⟨u,v,a⟩:=a;exact⟨u,v,by rw[aJ h q (Array.getElem?_eq_some_iff.1 a).1];exact a⟩
theorem zQ.alloc {B:Nat} {w W:aj} (a:Below B w W/\∀q,yg w q->yg W q) (o:Obj) (e:B<=w.heap.size:=by assumption):zQ B W (W.alloc o):=zQ.ext a ((Ext.refl W).alloc o) e
theorem zQ.store {B:Nat} {w W:aj} {q:Nat} {x y:Int} (j:Below B w W/\∀q,yg w q->yg W q) (f:B<=q):zQ B W ((W.setCell ⟨q,0,none⟩ (Vu x)).setCell ⟨q,1,none⟩ (Vu y)):=by
 refine⟨((lV _ _).setCell f _).setCell f _,λi a=>?_⟩;obtain⟨u,v,a⟩:=a;by_cases e:i=q
 ·subst e
  exact⟨x,y,aB _ _ 1 _ _ _ (aB _ _ 0 _ _ _ a)⟩
 ·exact⟨u,v,by rw[bA _ _ _ _ e,bA _ _ _ _ e];exact a⟩
theorem TK (r:Rn) (w:aj) (hT:Tabs w) (a2:0<=r.k) (Z:r.k<=4294967295) (ht:r.t.length<=80000000):
  Calls Tryz.prog 64 #[rnv r] w λe w'=>e= .returned (.bool (rW r))/\Ext w w':=by
 have hl:=xI r.t;have M:(⟨r.t.toArray⟩:ByteArray).size=r.t.length:=by show r.t.toArray.size=_;simp
 have hv:=ah (λW (H:Ext w W)=>validStr_any ⟨r.t.toArray⟩ W (by rw[M];omega) (hT.ext H));have i:=ah (λW=>runeCount_any ⟨r.t.toArray⟩ W (by rw[M];omega));rw[Bj] at i;replace i:Hid (∀(W:aj),Calls Tryz.prog 81 #[.string ⟨r.t.toArray⟩] W λe w'=>e= .returned (.int .i64 ((oJ r.t).length:Int))/\Ext W w'):=i;replace hv:Hid (∀(W:aj),Ext w W->Calls Tryz.prog 78 #[.string ⟨r.t.toArray⟩] W λe w'=>e= .returned (.bool (Lib.validD r.t))/\Ext W w'):=hv;clear M;cases he:r.t.isEmpty with
 |true=>
  have Q:=ah (Gh (r:=r) (.inr (.inl (by rw[List.isEmpty_iff.1 he,vQ];rfl))));clear hv i;go_enter Tryz.func64,Tryz.ntmps64;go_wp2;go_ret;exact⟨pR (a:=false) Q.out.symm,(Ext.refl _).alloc _⟩
 |false=>
  have Y:0<(oJ r.t).length:=by
   have a5:r.t≠[]:=by intro e;rw[e] at he;simp at he
   rw[uh _ a5];simp
  cases I:Lib.validD r.t with
  |false=>
   have Q:=ah (Gh (r:=r) (.inl I));rw[I] at hv;clear i I;go_enter Tryz.func64,Tryz.ntmps64
   go_wp2_with fail
   refine(hv.out _ ((Ext.refl _).alloc _)).mono ?_;rintro e O ⟨rfl,x1⟩;go_wp2;go_ret;exact⟨pR (a:=false) Q.out.symm,((Ext.refl _).alloc _).trans x1⟩
  |true=>
   rw[I] at hv;have hn:(oJ r.t).length<=80000000:=ω
   obtain⟨n,J⟩:∃n,(oJ r.t).length=n:=⟨_,rfl⟩;rw[J] at i Y hn;obtain⟨x,y,E,be,hE,a3,Q⟩:∃(x y:Int) (E:Value) (be:Bool),((E= .nilIface/\be=true)\/(∃z:Int,E= .iface 75 (.int .i64 z)/\be=false))/\
       Hid (∀W,Calls Tryz.prog 80 #[idv r.c r.k,Vi ((n:Int)-1),Vu 4294967294] W λe w'=>e= .returned (.tuple #[idv x y,E])/\Ext W w')/\Hid (rW r=be):=by
        by_cases U:r.c=0\/4294967294<r.k+(n:Int)-1
        ·obtain⟨z,hz,ha⟩:∃z:Int,z≠0/\tV r.c r.k ((n:Int)-1) 4294967294=(0,0,z):=by
          unfold tV;by_cases h0:r.c=0
          ·exact⟨1,ω,by rw[if_pos ω]⟩
          ·exact⟨4,ω,by rw[if_neg ω,if_pos ω]⟩
         exact⟨0,0,_,false,.inr ⟨z,rfl,rfl⟩,ah (λW=>ND W ha hz a2 Z ω ω ω ω),ah (Gh (by rw[J];rcases U with h|h <;> simp[h]))⟩
        ·have ha:tV r.c r.k ((n:Int)-1) 4294967294=(r.c,r.k+((n:Int)-1),0):=by
          unfold tV;rw[if_neg ω,if_neg ω]
         exact⟨_,_,_,true,.inl ⟨rfl,rfl⟩,ah (λW=>Dj W ha a2 Z ω ω ω ω),ah (aae I (by rw[J];omega) ω (by rw[J];omega))⟩
   have b0:IntKind.i64.wrap ((n:Int)-1)=(n:Int)-1:=IntWalk.i64_in _ ω;clear I J hl;go_enter Tryz.func64,Tryz.ntmps64
   go_wp2_with fail
   refine(hv.out _ ((Ext.refl _).alloc _)).mono ?_;rintro e O ⟨rfl,x1⟩;have a0:=x1.keep (p:=⟨w.heap.size,0,none⟩) (v:=Vu r.c) σ;have a1:=x1.keep (p:=⟨w.heap.size,1,none⟩) (v:=Vu r.k) σ;have a6:=x1.keep (p:=⟨w.heap.size,6,none⟩) (v:= .string ⟨r.t.toArray⟩) σ;replace x1:=((Ext.refl w).alloc _).trans x1;have b1:w.heap.size<O.heap.size:=eO _ _ a0;generalize w.heap.size=pa at*;obtain⟨B,a7⟩:∃B,O.heap.size=B:=⟨_,rfl⟩;have hB:B<=O.heap.size:=ω
   have hK:∀W,zQ B O W->∀{j:Nat} {v:Value},O.cell? ⟨pa,j,none⟩=some v->W.cell? ⟨pa,j,none⟩=some v:=λW hW j v h=>by rw[jG (p:=⟨pa,j,none⟩) hW.1 (by show pa<B;omega)];exact h
   go_wp2_with fail
   refine tY 12 99999 [rwI 4 (Vi (n:Int)),rwI 6 (.tuple #[idv x y,E]),rw1 10 (λz9 W=>∃q,z9= .pointer (some ⟨q,0,none⟩)/\B<=q/\yg W q),rw0 11 λ_=>True] (zQ B _) (λ_=>True) (zQ B) (zQ B) ⟨(lV _ _).drew,λ_ h=>h⟩ trivial (λ_ _ h e=>zQ.trans _ _ _ h e) (λ_ _ _ _=>trivial) ⟨λ_ _ _ _ _ _=>trivial,λ_ _ _ _ _ _ _ _=>trivial,λ_ _ _ _ _ _=>trivial,λ_ _ _ _ _ _ _ _=>trivial,(by rintro _ _ _ _ ⟨q,X,h2,h3⟩ e;exact⟨q,X,h2,e.2 q h3⟩),λ_ _=>(by rintro _ _ _ _ ⟨q,X,h2,h3⟩ e;exact⟨q,X,h2,e.2 q h3⟩),λ_ _ _ _ _ _=>trivial,λ_ _ _ _ _ _ _ _=>trivial,trivial⟩ λρ hI=>?_
   refine .s1 4 false [] (λW H _ _=>by
        have q0:=hK W H a0;have q1:=hK W H a1;have q2:=hK W H a6;exact oz) ?_
   refine .kv1 hI 0 _ (λW H=>(i.out W).mono (by rintro e W1 ⟨rfl,h⟩;exact⟨rfl,zQ.ext H h⟩)) ?_;refine .s1 1 false [] (λW H _ _=>oz) ?_;refine .kv1 hI 1 _ (λW H=>(a3.out W).mono (by rintro e W1 ⟨rfl,h⟩;exact⟨rfl,zQ.ext H h⟩)) ?_;refine .s1 3 false [] (λW H _ _=>oz) ?_;refine .o1 2 false [] (λW H _ _ N hN=>?_) ?_
   ·go_simp
    exact hN _ _ (λ_ e=>by cases e) ⟨_,rfl,aM (by assumption) H.1.size,_,_,aT W _⟩ (zQ.alloc H _)
   refine .o1 3 false [2] (λW H _ f N hN=>?_) ?_
   ·obtain⟨⟨q,eq,hq,u,v,U⟩,_⟩:=f
    have eq:ρ 10=_:=eq;have f0:=aK W q 0 _ _ U;have f1:=aK W q 1 _ _ U;have g0:=ak W q 0 _ _ _ U;have g1:=ak W q 1 _ _ _ U
    go_simp
    exact hN _ _ (λ_ e=>by cases e) trivial (zQ.store H hq)
   refine .fin λW hR ⟨_,_,a8,_⟩=>?_
   obtain⟨q,a9,_,_⟩:=a8 rfl;rw[show ρ 10=_ from a9];have a4:Ext w W:=x1.trans (by have X:=hR.1;rw[<-a7] at X;exact X);rcases hE with⟨rfl,rfl⟩|⟨z,rfl,rfl⟩
   ·go_wp2
    go_ret;exact⟨pR (a:=true) Q.out.symm,a4⟩
   ·go_wp2
    go_ret;exact⟨pR (a:=false) Q.out.symm,a4⟩
end
end Go.Proofs.YtejbpijamdlgcaaGreatDoor

/-
  Lemmas of this seat; no claim.
-/
import Derived.Shelf.GgSortFunc.SW
import Derived.Sort.WalkB2
import Derived.Sort.WalkC4
import Derived.Sort.LotD3
import Derived.Test.YtncfhbpejchbfaaGreatDoorPPf1
set_option linter.unusedVariables false
set_option linter.unusedSimpArgs false
set_option maxRecDepth 100000
set_option maxHeartbeats 16000000
open Array renaming getElem?_eq_getElem→dl,getElem?_eq_some_iff→an,getElem?_modify→cL,getElem?_setIfInBounds_self→bI,getElem?_toList→aP
open Function renaming comp→fv
open Go renaming Calls→aO,Value→au,World→ae,heap_alloc_new→aI,info_parts→dK,method→gp,receiverVia→gg,run_underlying→bp,yielded→eU
open Go.Addr.mk renaming injEq→jb
open Go.Builtin renaming append_→dg
open Go.Callee renaming builtin→iz
open Go.Lib renaming hid→ac
open Go.Oper renaming wp→iv
open Go.Proofs renaming enters_of→jh,size_putRow→jj,sortWorld→ji
open Go.Region renaming wanted→bD
open Go.Result renaming andThen_ok→dc,andThen→bH
open Go.RowKit.Below renaming block→av
open Go.Sem renaming run_bind→dG,run_pure→gW
open Go.Sort renaming ltInt→aZ,siftDown→dT
open Go.Value renaming slice→i9
open Go.World renaming cell?_alloc_some→ah,cell?_setCell_other→fG,cell?_setCell_same→fS,cell?→fV,frozen?→iP
open Go.World.ownsRow renaming lt→bQ
open List renaming cons_append→aJ,getElem?_eq_some_iff→aq,getElem?_map→bF,getElem?_of_mem→ey,length_append→ag,length_take→bv,map_append→dX,map_congr_left→bY,map_cons→bA,map_map→du,map_nil→dt,map_toArray→fc,mem_cons→aE,mem_filter→dY,mem_map→cG,nodup_cons→dZ,pairwise_iff_getElem→cZ
open Nat renaming le_refl→am,le_trans→az,lt_of_lt_of_le→aV,zero_add→aW
open Or renaming inl→fU,inr→iL
open Go.Proofs.Tryz
open Go.Proofs.Tryz renaming prog→pg
namespace Go.Proofs.YtncfhbpejchbfaaGreatDoor
section
open Go.ChangeShapes Go.WideShapes Go.ChangeAt Go.RowKit Go.Sort
section
def SWu (w0:ae) (blk off N:Nat) (a:Array Int) (W:ae):Prop:=SW Vu w0 blk off a W/\a.size=N
structure RoU (w0:ae) (blk off N:Nat):Prop where
 d0:∃d:Array Int,Holds Vu w0 blk off d/\d.size=N
 lt:blk<w0.heap.size
theorem RoU.holds {w0 W:ae} {blk off N:Nat} {a:Array Int} (R:RoU w0 blk off N) (S:SWu w0 blk off N a W):Holds Vu W blk off a:=by
 obtain⟨d,e,hn⟩:=R.d0;exact S.1.holds R.lt e (S.2.trans hn.symm)
variable {G:Nat->Int} {N blk off:Nat} {W w0:ae} {dk:Array Int}
theorem RoU.fam (R:RoU w0 blk off N) (S:SWu w0 blk off N dk W):
  ∃G:Nat->Int,Hid (∀t,G t=dk[t]!)/\(∀t,t<N->W.cell? ⟨blk,off+t,none⟩=some (.int .u32 (G t)))/\(∀t,t<N->W.frozen? ⟨blk,off+t,none⟩=false):=by
 have a:=R.holds S;have f:=S.2;exact⟨λt=>dk[t]!,λ_=>rfl,λt e=>(a t ω).1,λt e=>(a t ω).2⟩
theorem SWu.drewN {w0 W:ae} {blk off N:Nat} {dk:Array Int} (S:SWu w0 blk off N dk W) (q:Nat):SWu w0 blk off N dk (W.drewN q):=⟨S.1.drewN q,S.2⟩
theorem SWu.swap {w0 W:ae} {blk off N:Nat} {dk:Array Int} (R:RoU w0 blk off N) (S:SWu w0 blk off N dk W) {G:Nat->Int} (a:Hid (∀t,G t=dk[t]!)) (i j:Nat) (hi:i<N) (e:j<N):
  SWu w0 blk off N (swp dk i j) ((W.setCell ⟨blk,off+i,none⟩ (.int .u32 (G j))).setCell ⟨blk,off+j,none⟩ (.int .u32 (G i))):=by
 rw[a.out,a.out];exact⟨S.1.swap R.lt i j (by rw[S.2];exact hi) (by rw[S.2];exact e),by rw[size_swp];exact S.2⟩
theorem SWu.FM (R:RoU w0 blk off N) (S:SWu w0 blk off N dk W) (e:Hid (∀t,G t=dk[t]!)) (q i j:Nat) (hi:i<N) (a:j<N):
  SWu w0 blk off N (swp dk i j) (((W.drewN q).setCell ⟨blk,off+i,none⟩ (.int .u32 (G j))).setCell ⟨blk,off+j,none⟩ (.int .u32 (G i))):=(S.drewN q).swap R e i j hi a
theorem SWu.xC (R:RoU w0 blk off N) (S:SWu w0 blk off N dk W) (e:Hid (∀t,G t=dk[t]!)) (i j:Nat) (hi:i<N) (a:j<N):
  SWu w0 blk off N (swp dk i j) ((W.setCell ⟨blk,off+i,none⟩ (.int .u32 (G j))).setCell ⟨blk,off+j,none⟩ (.int .u32 (G i))).drew:=(S.swap R e i j hi a).drewN 1
theorem DV (h:∀t,t<N->W.cell? ⟨blk,off+t,none⟩=some (.int .u32 (G t))) (i j:Nat) (v:au) (hi:i<N) (a:j<N):
  ∃u,(W.setCell ⟨blk,off+i,none⟩ v).cell? ⟨blk,off+j,none⟩=some u:=by
 by_cases e:i=j
 ·subst e;exact⟨v,fS _ _ _ (h i hi)⟩
 ·exact⟨_,(fG _ _ _ _ (by intro f;simp only[jb] at f;omega)).trans (h j a)⟩
theorem abE (x:Int) (w:ae):aO pg 127 #[Vu x] w λe w'=>e= .returned (.bool false)/\w=w':=by
 go_enter func127,ntmps127;go_wp2;go_ret;exact⟨ι,rfl⟩
theorem adV (x y:Int) (w:ae):aO pg 202 #[Vu x,Vu y] w λe w'=>e= .returned (.bool (aZ x y))/\w=w':=by
 go_enter func202,ntmps202
 go_wp2_with(first|(refine(abE _ _).mono ?_;rintro e a ⟨rfl,rfl⟩))
 go_ret;exact⟨rfl,rfl⟩
theorem kR (x y:Int) (w:ae) (n:Nat):aO pg 202 #[Vu x,Vu y] (w.drewN n) λe w'=>e= .returned (.bool (aZ x y))/\∃q,w'=w.drewN q:=
 (adV x y _).mono λe w' h=>⟨h.1,n,h.2.symm⟩
theorem OH (w0:ae) (blk off cap a b N:Nat) (d:Array Int) (w:ae) (R:RoU w0 blk off N) (S:SWu w0 blk off N d w) (a6:a<=b) (hb:b<=N) (Y:N<=400000000):
  aO pg 196 #[.slice (some ⟨blk,off,none⟩) N cap,.int .i64 a,.int .i64 b] w λe w'=>e= .returned (.tuple #[])/\SWu w0 blk off N (insertionSort aZ d a b) w':=by
 replace S:=ac S;go_enter func196,ntmps196;go_wp2
 go_loopw [6] (λK wr=>∃(i:Nat) (dk:Array Int),K= .int .i64 i/\a<i/\i<=b+1/\Hid (SWu w0 blk off N dk wr)/\Hid (insOuter aZ a b i dk=insOuter aZ a b (a+1) d)) (λK _=>b+1-(intOf K).toNat)
 case atStart=>exact⟨a+1,d,ν,ω,ω,S,ac rfl⟩
 case round=>
  clear S;obtain⟨i,dk,rfl,a5,a1,Q,U⟩:=hrel;by_cases u:i<b
  ·go_wp2
   go_loopw [7] (λJ I=>∃(j:Nat) (f:Array Int),J= .int .i64 j/\a<=j/\j<=i/\Hid (SWu w0 blk off N f I)/\Hid (insInner aZ a j f=insInner aZ a i dk)) (λJ _=>(intOf J).toNat)
   case atStart=>exact⟨i,dk,rfl,ω,am _,Q,ac rfl⟩
   case round=>
        clear Q;obtain⟨j,f,rfl,a4,a0,H,X⟩:=hrel;obtain⟨G,z,a3,a2⟩:=R.fam H.out;have q:(j<=a\/aZ f[j]! f[j-1]! =false)->Hid (insOuter aZ a b (i+1) f=insOuter aZ a b (a+1) d):=λZ=>ac (by
         rw[<-U.out,insOuter_go _ _ _ _ _ u,<-X.out,insInner_stop _ _ _ _ Z])
        replace q:=ac q;by_cases O:a<j
        ·go_wp2_with fail
         go_quiet(first|(go_at_call 202;refine kR _ _ _ _))
         go_wp2
         ·have M:aZ (G j) (G (j-1))=true:=by assumption
          go_region
          all_goals go_wp2
          go_roundw
          case rel=>
           refine⟨j-1,swp f j (j-1),by congr 1;omega,ω,ω,?_,?_⟩
           ·exact ac (H.out.FM R z _ j (j-1) ω ω)
           ·refine ac ?_
            rw[<-X.out,insInner_go aZ a j f O (by rw[<-z.out,<-z.out];exact M)]
          case measure=>simp[intOf];omega
         ·have M:aZ (G j) (G (j-1))=false:=by assumption
          go_roundw
          case rel=>exact⟨i+1,f,ν,ω,ω,ac (H.out.drewN _),q.out (iL (by rw[<-z.out,<-z.out];exact M))⟩
          case measure=>simp[intOf];omega
        ·go_wp2_with fail
         go_quiet(first|(go_at_call 202;refine kR _ _ _ _))
         go_wp2
         go_roundw
         case rel=>exact⟨i+1,f,ν,ω,ω,ac (H.out.drewN _),q.out (fU ω)⟩
         case measure=>simp[intOf];omega
  ·go_wp2
   go_end0
   exact⟨rfl,by unfold Sort.insertionSort;rw[<-U.out,insOuter_stop _ _ _ _ _ u];exact Q.out⟩
end
section
def SWi (w0:ae) (blk N:Nat) (a:Array Int) (W:ae):Prop:=SW Vi w0 blk 0 a W/\a.size=N
structure RoI (w0:ae) (blk N:Nat):Prop where
 d0:∃d:Array Int,Holds Vi w0 blk 0 d/\d.size=N
 lt:blk<w0.heap.size
theorem RoI.holds {w0 W:ae} {blk N:Nat} {a:Array Int} (R:RoI w0 blk N) (S:SWi w0 blk N a W):Holds Vi W blk 0 a:=by
 obtain⟨d,e,hn⟩:=R.d0;exact S.1.holds R.lt e (S.2.trans hn.symm)
variable {N blk:Nat} {W:ae}
theorem RoI.fam {w0:ae} {a:Array Int} (R:RoI w0 blk N) (S:SWi w0 blk N a W):
  ∃G:Nat->Int,Hid (∀t,G t=a[t]!)/\(∀t,t<N->W.cell? ⟨blk,0+t,none⟩=some (.int .i64 (G t)))/\(∀t,t<N->W.frozen? ⟨blk,0+t,none⟩=false):=by
 have e:=R.holds S;have i:=S.2;exact⟨λt=>a[t]!,λ_=>rfl,λt f=>(e t ω).1,λt f=>(e t ω).2⟩
theorem SWi.drewN {w0 W:ae} {blk N:Nat} {a:Array Int} (S:SWi w0 blk N a W) (q:Nat):SWi w0 blk N a (W.drewN q):=⟨S.1.drewN q,S.2⟩
theorem SWi.swap {w0 W:ae} {blk N:Nat} {a:Array Int} (R:RoI w0 blk N) (S:SWi w0 blk N a W) {G:Nat->Int} (e:Hid (∀t,G t=a[t]!)) (i j:Nat) (hi:i<N) (f:j<N):
  SWi w0 blk N (swp a i j) ((W.setCell ⟨blk,0+i,none⟩ (.int .i64 (G j))).setCell ⟨blk,0+j,none⟩ (.int .i64 (G i))).drew:=by
 rw[e.out,e.out];exact⟨(S.1.swap R.lt i j (by rw[S.2];exact hi) (by rw[S.2];exact f)).drewN 1,by rw[size_swp];exact S.2⟩
theorem ab4 {G:Nat->Int} (h:∀t,t<N->W.cell? ⟨blk,0+t,none⟩=some (.int .i64 (G t))) (i j:Nat) (v:au) (hi:i<N) (a:j<N):
  ∃u,(W.setCell ⟨blk,0+i,none⟩ v).cell? ⟨blk,0+j,none⟩=some u:=by
 by_cases e:i=j
 ·subst e;exact⟨v,fS _ _ _ (h i hi)⟩
 ·exact⟨_,(fG _ _ _ _ (by intro f;simp only[jb] at f;omega)).trans (h j a)⟩
theorem SWi.other {w0:ae} {i:Array Int} (S:SWi w0 blk N i W) {T o:Nat} {v:au} (a:T≠blk) (e:w0.cell? ⟨T,o,none⟩=some v):W.cell? ⟨T,o,none⟩=some v:=by
 obtain⟨⟨n,os,rfl⟩,_⟩:=S;have f:T<w0.heap.size:=World.block_lt_of_cell? w0 ⟨T,o,none⟩ e;unfold ji;rw[cell?_grow _ _ _ (by show T<_;rw[jj];exact f),cell?_putRow_other _ _ _ _ _ _ (fU a)];exact e
theorem rE (w0:ae) (blk N cap i j:Nat) (d:Array Int) (w:ae) (R:RoI w0 blk N) (S:SWi w0 blk N d w) (hi:i<N) (u:j<N):
  aO pg 248 #[.slice (some ⟨blk,0,none⟩) N cap,.int .i64 i,.int .i64 j] w λe w'=>e= .returned (.bool (aZ d[i]! d[j]!))/\SWi w0 blk N d w':=by
 replace S:=ac S;obtain⟨G,q,f,a⟩:=R.fam S.out;simp only[aW] at f a;rw[<-q.out,<-q.out];go_enter func248,ntmps248
 go_wp2_with fail
 go_quiet(fail)
 go_wp2_with fail
 go_ret;exact⟨rfl,S.out.drewN _⟩
theorem uJ (w0:ae) (blk N cap i j:Nat) (d:Array Int) (w:ae) (R:RoI w0 blk N) (S:SWi w0 blk N d w) (hi:i<N) (z:j<N):
  aO pg 249 #[.slice (some ⟨blk,0,none⟩) N cap,.int .i64 i,.int .i64 j] w λe w'=>e= .returned (.tuple #[])/\SWi w0 blk N (swp d i j) w':=by
 replace S:=ac S;obtain⟨G,H,a,f⟩:=R.fam S.out;obtain⟨u,q⟩:=ab4 a i j (.int .i64 (G j)) hi z;have hS:=ac (SWi.swap R S.out H i j hi z);simp only[aW] at a f q hS;go_enter func249,ntmps249
 go_wp2_with fail
 go_region
 all_goals go_wp2_with fail
 go_end0
 exact⟨rfl,hS.out⟩
theorem qY (W:ae) (a:Addr) (A:Option Addr) (n c:Nat) (h:W.cell? a=some (.slice A n c)):
  (∀k,(gp (k+1) 215 (.pointer (some a)) "Len").run pg W= .ok (247,.slice A n c) W)/\
  (∀k,(gp (k+1) 215 (.pointer (some a)) "Less").run pg W= .ok (248,.slice A n c) W)/\
  (∀k,(gp (k+1) 215 (.pointer (some a)) "Swap").run pg W= .ok (249,.slice A n c) W):=by
 refine⟨λk=>?_,λk=>?_,λk=>?_⟩
 ·have:(gp (k+1) 215 (.pointer (some a)) "Len").run pg W=(gg 215 (.pointer (some a)) #[] false>>=λr=>pure (247,r)).run pg W:=κ
  rw[this];simp[gg,follow,receiverAt,Place.get,go_sem,bp underlying215,h,bH]
 ·have:(gp (k+1) 215 (.pointer (some a)) "Less").run pg W=(gg 215 (.pointer (some a)) #[] false>>=λr=>pure (248,r)).run pg W:=κ
  rw[this];simp[gg,follow,receiverAt,Place.get,go_sem,bp underlying215,h,bH]
 ·have:(gp (k+1) 215 (.pointer (some a)) "Swap").run pg W=(gg 215 (.pointer (some a)) #[] false>>=λr=>pure (249,r)).run pg W:=κ
  rw[this];simp[gg,follow,receiverAt,Place.get,go_sem,bp underlying215,h,bH]
theorem Oo (W:ae) (v:au):
  (∀k,(gp (k+1) 215 v "Push").run pg W= .ok (263,v) W)/\
  (∀k,(gp (k+1) 215 v "Pop").run pg W= .ok (262,v) W):=⟨λk=>κ,λk=>κ⟩
theorem ZV (args:Array au) (w:ae):(callFunc 247 args).run pg w= .ok (.enter 247 args) w:=jh func247 κ rfl args w
theorem TS (args:Array au) (w:ae):(callFunc 248 args).run pg w= .ok (.enter 248 args) w:=jh func248 κ rfl args w
theorem MO (args:Array au) (w:ae):(callFunc 249 args).run pg w= .ok (.enter 249 args) w:=jh func249 κ rfl args w
theorem ab9 (args:Array au) (w:ae):(callFunc 263 args).run pg w= .ok (.enter 263 args) w:=jh func263 κ rfl args w
theorem aeI (args:Array au) (w:ae):(callFunc 262 args).run pg w= .ok (.enter 262 args) w:=jh func262 κ rfl args w
theorem ads (w0:ae) (T o blk N cap j:Nat) (d:Array Int) (w:ae) (R:RoI w0 blk N) (K:w0.cell? ⟨T,o,none⟩=some (.slice (some ⟨blk,0,none⟩) N cap)) (J:T≠blk) (S:SWi w0 blk N d w) (hj:j<N) (hN:N<=400000000):
  aO pg 166 #[.iface 215 (.pointer (some ⟨T,o,none⟩)),.int .i64 j] w λe w'=>e= .returned (.tuple #[])/\SWi w0 blk N (upA j d) w':=by
 replace S:=ac S;replace K:=ac K;have eL:=TS;have eS:=MO;go_enter func166,ntmps166
 go_wp2_with fail
 go_loopw [1] (λQ wr=>∃(k:Nat) (f:Array Int),Q= .int .i64 k/\k<=j/\Hid (SWi w0 blk N f wr)/\Hid (upA k f=upA j d)) (λQ _=>(intOf Q).toNat)
 case atStart=>exact⟨j,d,rfl,am _,S,ac rfl⟩
 case round=>
  clear S;obtain⟨k,f,rfl,hk,Y,M⟩:=hrel;obtain⟨m1,m2,m3⟩:=qY wr _ _ _ _ (Y.out.other J K.out);cases k with
  |zero=>
   have z1:((0:Nat):Int)-1= -1:=rfl
   go_wp2_with fail
   go_end0
   exact⟨rfl,by rw[<-M.out,EY (.inl rfl)];exact Y.out⟩
  |succ k=>
   obtain⟨q,hq⟩:∃q:Nat,q=k/2:=⟨_,rfl⟩;obtain⟨c,Z⟩:∃c:Nat,c=k+1:=⟨_,rfl⟩;have zc:(c:Int)-1=(k:Int):=ω
   have zq:(k:Int)/2=(q:Int):=ω
   have a0:((q:Int)==(c:Int))=false:=by simp;omega
   have a:Hid ((c-1)/2=q):=ac ω;have U:0<c:=ω
   rw[<-Z] at hk M⊢;have u:=ac (rE w0 blk N cap c q f wr R Y.out ω ω);clear Z hq;cases I:aZ f[c]! f[q]! with
   |true=>
    rw[I] at u;have i:f[c]! <f[q]! :=by simpa[aZ] using I
    have H:=ac (show upA q (swp f q c)=upA j d by rw[<-M.out,XC U (by rw[a.out];exact i),a.out]);clear I i
    go_wp2_with(first|(refine u.out.mono ?_;rintro e O ⟨rfl,z⟩;obtain⟨m4,m5,m6⟩:=qY O _ _ _ _ (z.other J K.out);replace z:=ac z))
    refine(uJ w0 blk N cap q c f O R z.out ω ω).mono ?_;rintro e w3 ⟨rfl,X⟩;replace X:=ac X
    go_wp2_with fail
    go_roundw
    case rel=>exact⟨q,_,rfl,by have:=a.out;omega,X,H⟩
    case measure=>simp[intOf];have:=a.out;omega
   |false=>
    rw[I] at u;have i:¬f[c]! <f[q]! :=by simpa[aZ] using I
    have H:=ac (show f=upA j d by rw[<-M.out,EY (.inr (by rw[a.out];exact i))]);clear I i
    go_wp2_with(first|(refine u.out.mono ?_;rintro e O ⟨rfl,z⟩;replace z:=ac z))
    go_end0
    exact⟨rfl,by rw[<-H.out];exact z.out⟩
end
theorem aar {p:Prop} (h:p:=by
 go_wp2_with fail
 refine(uJ w0 blk N cap k c1 dk w8 R S8.out ω (by have:=e1.out;have:=e2.out;omega)).mono ?_;rintro e w9 ⟨rfl,S9⟩;replace S9:=ac S9
 go_wp2_with fail
 go_roundw
 case rel=>exact⟨c1,swp dk k c1,rfl,by have:=e1.out;have:=e2.out;omega,S9,ac (by rw[<-HO2.out,show 0+k=k by omega,show 0+(2*k+1)=c1 by have:=e1.out;have:=e2.out;omega,show 2*k+1=c1 by have:=e1.out;have:=e2.out;omega])⟩
 case measure=>simp[intOf];have:=e1.out;have:=e2.out;omega):p:=h
theorem R7 {p:Prop} (h:p:=by
 refine ER.out.mono ?_;rintro e w8 ⟨rfl,S8⟩;replace S8:=ac S8
 go_wp2_with fail
 go_ret;exact⟨⟨_,rfl⟩,by rw[<-HO2.out];exact S8.out⟩):p:=h
theorem Z9 (w0:ae) (T o blk N cap q n:Nat) (d:Array Int) (w:ae) (R:RoI w0 blk N) (z:w0.cell? ⟨T,o,none⟩=some (.slice (some ⟨blk,0,none⟩) N cap)) (i:T≠blk) (S:SWi w0 blk N d w) (hi:q<=n) (hn:n<=N) (hN:N<=400000000):
  aO pg 136 #[.iface 215 (.pointer (some ⟨T,o,none⟩)),.int .i64 q,.int .i64 n] w λe w'=>(∃b:Bool,e= .returned (.bool b))/\SWi w0 blk N (dT gtI n 0 q d) w':=by
 replace S:=ac S;replace z:=ac z;have eL:=TS;have eS:=MO;go_enter func136,ntmps136
 go_wp2_with fail
 go_loopw [7] (λM wr=>∃(k:Nat) (dk:Array Int),M= .int .i64 k/\k<=n/\Hid (SWi w0 blk N dk wr)/\Hid (dT gtI n 0 k dk=dT gtI n 0 q d)) (λM _=>n-(intOf M).toNat)
 case atStart=>exact⟨q,d,rfl,hi,S,ac rfl⟩
 case round=>
  clear S;obtain⟨k,dk,rfl,hk,K,H⟩:=hrel;obtain⟨Y,X,W⟩:=qY wr _ _ _ _ (K.out.other i z.out);obtain⟨c1,a2⟩:∃c:Nat,2*(k:Int)+1=(c:Int):=⟨2*k+1,ω⟩;have e1:Hid (c1=2*k+1):=ac ω;by_cases h0:n<=c1
  ·have HO2:=ac (show dk=dT gtI n 0 q d by rw[<-H.out,sd_end gtI dk (by have:=e1.out;omega)])
   have hz:(n:Int)<=(c1:Int):=ω
   go_wp2_with fail
   go_ret;exact⟨⟨_,rfl⟩,by rw[<-HO2.out];exact K.out⟩
  ·have hz:¬(n:Int)<=(c1:Int):=ω
   have a0:¬(c1:Int)<0:=ω
   obtain⟨c2,a1⟩:∃c:Nat,(c1:Int)+1=(c:Int):=⟨c1+1,ω⟩;have e2:Hid (c2=2*k+2):=ac (by have:=e1.out;omega);by_cases h1:c2<n
   ·have Z:(c2:Int)<(n:Int):=ω
    have j:=ac (rE w0 blk N cap c2 c1 dk wr R K.out ω ω);have hF:gtI dk[0+(2*k+1)]! dk[0+(2*k+2)]! =aZ dk[c2]! dk[c1]! :=by rw[show 0+(2*k+1)=c1 by have:=e1.out;omega,show 0+(2*k+2)=c2 by have:=e2.out;omega];rfl
    cases J:aZ dk[c2]! dk[c1]! with
    |true=>
     rw[J] at j hF;replace hF:=ac hF;clear J
     go_wp2_with(first|(refine j.out.mono ?_;clear j;rintro e I ⟨rfl,u⟩;obtain⟨U,Q,O⟩:=qY I _ _ _ _ (u.other i z.out);replace u:=ac u))
     clear Y X W;have ER:=ac (rE w0 blk N cap c2 k dk I R u.out (by have:=e1.out;have:=e2.out;omega) ω);cases a:aZ dk[c2]! dk[k]! with
     |true=>
      rw[a] at ER;have f:gtI dk[0+k]! dk[0+(2*k+2)]! =true:=by rw[show 0+k=k by omega,show 0+(2*k+2)=c2 by have:=e1.out;have:=e2.out;omega];exact a
      have HO2:=ac (show dT gtI n 0 (2*k+2) (swp dk (0+k) (0+(2*k+2)))=dT gtI n 0 q d by rw[<-H.out,sd_right_go gtI dk (by have:=e2.out;omega) hF.out f]);clear f a;refine ER.out.mono ?_;rintro e w8 ⟨rfl,S8⟩;obtain⟨m7,m8,m9⟩:=qY w8 _ _ _ _ (S8.other i z.out);replace S8:=ac S8;clear U Q O
      go_wp2_with fail
      refine(uJ w0 blk N cap k c2 dk w8 R S8.out ω (by have:=e1.out;have:=e2.out;omega)).mono ?_;rintro e w9 ⟨rfl,S9⟩;replace S9:=ac S9
      go_wp2_with fail
      go_roundw
      case rel=>exact⟨c2,swp dk k c2,rfl,by have:=e1.out;have:=e2.out;omega,S9,ac (by rw[<-HO2.out,show 0+k=k by omega,show 0+(2*k+2)=c2 by have:=e1.out;have:=e2.out;omega,show 2*k+2=c2 by have:=e1.out;have:=e2.out;omega])⟩
      case measure=>simp[intOf];have:=e1.out;have:=e2.out;omega
     |false=>
      rw[a] at ER;have f:gtI dk[0+k]! dk[0+(2*k+2)]! =false:=by rw[show 0+k=k by omega,show 0+(2*k+2)=c2 by have:=e1.out;have:=e2.out;omega];exact a
      have HO2:=ac (show dk=dT gtI n 0 q d by rw[<-H.out,sd_right_stop gtI dk (by have:=e2.out;omega) hF.out f]);clear f a;exact R7
    |false=>
     rw[J] at j hF;replace hF:=ac hF;clear J
     go_wp2_with(first|(refine j.out.mono ?_;clear j;rintro e I ⟨rfl,u⟩;obtain⟨U,Q,O⟩:=qY I _ _ _ _ (u.other i z.out);replace u:=ac u))
     clear Y X W;have ER:=ac (rE w0 blk N cap c1 k dk I R u.out (by have:=e1.out;have:=e2.out;omega) ω);cases a:aZ dk[c1]! dk[k]! with
     |true=>
      rw[a] at ER;have f:gtI dk[0+k]! dk[0+(2*k+1)]! =true:=by rw[show 0+k=k by omega,show 0+(2*k+1)=c1 by have:=e1.out;have:=e2.out;omega];exact a
      have HO2:=ac (show dT gtI n 0 (2*k+1) (swp dk (0+k) (0+(2*k+1)))=dT gtI n 0 q d by rw[<-H.out,sd_left_go gtI dk (by have:=e1.out;omega) (λ_=>hF.out) f]);clear f a;refine ER.out.mono ?_;rintro e w8 ⟨rfl,S8⟩;obtain⟨m7,m8,m9⟩:=qY w8 _ _ _ _ (S8.other i z.out);replace S8:=ac S8;clear U Q O;exact aar
     |false=>
      rw[a] at ER;have f:gtI dk[0+k]! dk[0+(2*k+1)]! =false:=by rw[show 0+k=k by omega,show 0+(2*k+1)=c1 by have:=e1.out;have:=e2.out;omega];exact a
      have HO2:=ac (show dk=dT gtI n 0 q d by rw[<-H.out,sd_left_stop gtI dk (by have:=e1.out;omega) (λ_=>hF.out) f]);clear f a;exact R7
   ·have Z:¬(c2:Int)<(n:Int):=ω
    have ER:=ac (rE w0 blk N cap c1 k dk wr R K.out (by have:=e1.out;have:=e2.out;omega) ω);cases a:aZ dk[c1]! dk[k]! with
    |true=>
     rw[a] at ER;have f:gtI dk[0+k]! dk[0+(2*k+1)]! =true:=by rw[show 0+k=k by omega,show 0+(2*k+1)=c1 by have:=e1.out;have:=e2.out;omega];exact a
     have HO2:=ac (show dT gtI n 0 (2*k+1) (swp dk (0+k) (0+(2*k+1)))=dT gtI n 0 q d by rw[<-H.out,sd_left_go gtI dk (by have:=e1.out;omega) (λh=>absurd h (by have:=e2.out;omega)) f]);clear f a
     go_wp2_with fail
     refine ER.out.mono ?_;rintro e w8 ⟨rfl,S8⟩;obtain⟨m7,m8,m9⟩:=qY w8 _ _ _ _ (S8.other i z.out);replace S8:=ac S8;clear Y X W;exact aar
    |false=>
     rw[a] at ER;have f:gtI dk[0+k]! dk[0+(2*k+1)]! =false:=by rw[show 0+k=k by omega,show 0+(2*k+1)=c1 by have:=e1.out;have:=e2.out;omega];exact a
     have HO2:=ac (show dk=dT gtI n 0 q d by rw[<-H.out,sd_left_stop gtI dk (by have:=e1.out;omega) (λh=>absurd h (by have:=e2.out;omega)) f]);clear f a
     go_wp2_with fail
     exact R7
section
def TB (W:ae) (T:Nat) (a:Array au):Prop:=W.heap[T]? =some (.cells a 160 (0,0))
variable {S:Nat->Prop} {T g:Nat} {W W' w0:ae} {cs:Array au} {l:List Int}
theorem TB.lt (h:TB W T cs):T<W.heap.size:=(an.1 h).1
theorem TB.cell {W:ae} {T:Nat} {cs:Array au} (h:TB W T cs) {k:Nat} {v:au} (a:cs[k]? =some v):W.cell? ⟨T,k,none⟩=some v:=by
 have e:W.heap[T]? =some (.cells cs 160 (0,0)):=h;simp[fV,e,a]
theorem TB.thaw (h:TB W T cs) (k:Nat):W.frozen? ⟨T,k,none⟩=false:=by
 have a:W.heap[T]? =some (.cells cs 160 (0,0)):=h;simp[iP,a]
theorem TB.set (h:TB W T cs) (k:Nat) (v:au):TB (W.setCell ⟨T,k,none⟩ v) T (cs.setIfInBounds k v):=by
 have a:W.heap[T]? =some (.cells cs 160 (0,0)):=h;unfold TB;rw[setCell_eq];simp[mapBlock,cL,a,onCells]
theorem TB.of (h:TB W T cs) (e:W'.heap[T]? =W.heap[T]?):TB W' T cs:=e.trans h
theorem TB.ts (h:TB W T cs) (a:TSb S W W') (hn:¬S T):TB W' T cs:=h.of (a.block T h.lt hn)
theorem y7 (W:ae) (T k:Nat) (v:au):TSb (λb=>b=T) W (W.setCell ⟨T,k,none⟩ v):=by
 refine⟨rfl,rfl,rfl,ι,λj a hn=>?_⟩;rw[setCell_eq];simp only[mapBlock,cL];rw[if_neg (λe=>hn e.symm)]
theorem pU {r:Option Nat} (h:W.grownBy W' r):TSb (λb=>r=some b) W W':=⟨h.os,h.tape,h.output,h.size,λk a hn=>h.block k a (λe=>hn e.symm)⟩
theorem xM {T:Nat->Prop} (h:TSb S W W') (f:∀j,j<W.heap.size->S j->T j):TSb T W W':=⟨h.os,h.tape,h.output,h.size,λk a hn=>h.block k a λe=>hn (f k a e)⟩
theorem SWi.ts {N:Nat} {d:Array Int} (h:SWi W g N d W'):TSb (λb=>b=g) W W':=by
 obtain⟨⟨n,os,rfl⟩,_⟩:=h;refine⟨rfl,rfl,rfl,?_,λj a hn=>?_⟩
 ·unfold ji;rw[size_grow,jj];show W.heap.size<=W.heap.size+_;omega
 ·unfold ji
  rw[heap_grow_old _ _ (by rw[jj];exact a)];unfold putRow mapBlock;show(W.heap.modify g _)[j]? =W.heap[j]?;rw[cL,if_neg (λe=>hn e.symm)]
theorem kY.holds {n cap:Nat} (h:kY w0 W (.slice (some ⟨g,0,none⟩) n cap) l) (hn:l.length=n):RoI W g n/\SWi W g n l.toArray W/\w0.heap.size<=g:=by
 subst hn;rcases h.2 with⟨h0,_⟩|⟨g',cap',cur,e,hbase,hgb,r1,r2,r3,r4⟩
 ·cases h0
 ·injection e with e1 e2 e3
  injection e1 with e1;injection e1 with e1;subst e1;subst e3;have i:Holds Vi W g 0 l.toArray:=by
   intro j u;have a:j<l.length:=by simpa using u
   refine⟨?_,by simp[iP,hgb]⟩;have q:(cur.toList.take (l.length*1))[j]? =(l.map Vi)[j]? :=by rw[r4]
   rw[List.getElem?_take_of_lt ω] at q;simp only[fV,hgb,aW];simp only[Option.isSome_none,Bool.false_eq_true,if_false];rw[<-aP,q];simp[a]
  have f:g<W.heap.size:=(an.1 hgb).1;exact⟨⟨⟨_,i,ι⟩,f⟩,⟨SW.start i,ι⟩,hbase⟩
theorem take_putCells (d:Array Int) (c:Array au) (h:d.size<=c.size):(putCells Vi 0 d c).toList.take d.size=d.toList.map Vi:=by
 apply List.ext_getElem?;intro j;rw[List.getElem?_take,bF];by_cases a:j<d.size
 ·rw[if_pos a,aP,aP]
  simp only[putCells,Array.getElem?_mapIdx];rw[dl (show j<c.size by omega),dl a];simp[a]
 ·rw[if_neg a,aP,Array.getElem?_eq_none ω]
  rfl
theorem kY.turned {n cap:Nat} {d:Array Int} (h:kY w0 W (.slice (some ⟨g,0,none⟩) n cap) l) (hn:l.length=n) (S:SWi W g n d W'):kY w0 W' (.slice (some ⟨g,0,none⟩) n cap) d.toList:=by
 subst hn;obtain⟨⟨q,os,rfl⟩,a⟩:=S;rcases h.2 with⟨h0,_⟩|⟨g',cap',cur,e,hbase,hgb,r1,r2,r3,r4⟩
 ·cases h0
 ·injection e with e1 e2 e3
  injection e1 with e1;injection e1 with e1;subst e1;subst e3;have f:g<W.heap.size:=(an.1 hgb).1;have i:(ji Vi W g 0 q d os).heap[g]? =some (.cells (putCells Vi 0 d cur) 3 (0,0)):=by
   unfold ji;rw[heap_grow_old _ _ (by rw[jj];exact f)];simp[putRow,mapBlock,Sort.ahead,cL,hgb,onCells]
  refine⟨ι,.inr ⟨g,cap,_,by simp[a],hbase,i,by simpa[a] using r1,r2,by simp[putCells,r3],?_⟩⟩;have:=take_putCells d cur (by rw[r3,a];omega);simpa using this
theorem kY.ts {v:au} (h:kY w0 W v l) (j:TSb S W W') (hn:∀g,v.ownBlock=some g->¬S g):kY w0 W' v l:=by
 refine⟨h.1,?_⟩;rcases h.2 with q|⟨g,cap,i,e,a,f,r⟩
 ·exact .inl q
 ·exact .inr ⟨g,cap,i,e,a,(j.block g (an.1 f).1 (hn g (by rw[e];rfl))).trans f,r⟩
end
end
section
open Go.ChangeShapes Go.WideShapes Go.ChangeAt Go.RowKit Go.Sort
attribute [local go_sem] ah
theorem CQ {w0 w:ae} {f:Array Oper} {rest:List Oper} {o:Oper} {a:Act} {Q:Exit->Act->ae->Prop} (I:o.guard=none) (s x:Operand) (t:TypeId) (N:pg.underlying t=some (.slice 3))
  (W:o.op= .call { callee:= .builtin .append,args:= #[s,x],argTypes:= #[t,t] })
  (v:au) (l:List Int) (O:a.eval s=v) (q:kY w0 w v l) (M:w0.heap.size<=w.heap.size)
  (A:Option Addr) (m c:Nat) (r:List Int) (X:a.eval x= .slice A m c) (hm:r.length=m) (U:ZS w A r) (hb:l.length+r.length<=17000000000000)
  (h:∀e w',kY w0 w' e (l++r)->w.grownBy w' v.ownBlock->(e.ownBlock=v.ownBlock\/e.ownBlock=some w.heap.size)->wpList pg f Q rest (a.put o.dst e) w'):wpList pg f Q (o::rest) a w:=by
 refine wpList_plain I λK Y=>?_
 obtain⟨i,hi,H,z,u⟩:=dK Zb;subst hm;obtain⟨e,w',j,h2,h3,Z⟩:=kL (P:=pg) w w0.heap.size t o.type 3 i _ 1 8 N hi H z u rfl ω v l.length _ q A r.length c (r.map Vi) (by rw[List.length_map,Nat.mul_one]) U (GR r)
  (by unfold maxLen;omega) ω M
 have J:kY w0 w' e (l++r):=by
  unfold kY jQ;rw[dX,ag];exact h2
 unfold iv execOp;simp only[W,resolve,invoke,builtin,dG,gW,dc,fc,bA,dt,O,X,j];exact Y _ _ (h e w' J h3 Z)
def ae8 (W:ae) (v a:au):Prop:=a.ownBlock=v.ownBlock\/∃q,a.ownBlock=some q/\W.heap.size<=q
structure HpS (w0 W:ae) (T:Nat) (cs:Array au) (v:au) (l:List Int):Prop where
 tb:TB W T cs
 at5:cs[5]? =some v
 own:kY w0 W v l
 ne:v.ownBlock≠some T
 base:w0.heap.size<=W.heap.size
theorem Kv (x:Int) (W:ae):(Instr.typeAssert (.iface 3 (.int .i64 x)) 20 3 true).run pg W= .ok (.tuple #[.int .i64 x,.bool true]) W:=κ
theorem Oi (w0 W:ae) (T:Nat) (u:Array au) (v:au) (l:List Int) (x:Int) (h:HpS w0 W T u v l) (hb:l.length<=400000000):
  aO pg 263 #[.pointer (some ⟨T,5,none⟩),.iface 3 (.int .i64 x)] W λe W'=>e= .returned (.tuple #[])/\∃z,HpS w0 W' T (u.setIfInBounds 5 z) z (l++[x])/\ae8 W v z/\TSb (λb=>b=T\/v.ownBlock=some b) W W':=by
 obtain⟨A,c,rfl,hc,hZ⟩:=h.own.open;have c5:=h.tb.cell h.at5;have f5:=h.tb.thaw 5;replace h:=ac h;have ha:=Kv x W;go_enter func263,ntmps263
 go_wp2_with(first
  |(at_builtin
    refine CQ (w0:=w0) rfl (.tmp 15) (.tmp 17) 157 underlying157 rfl _ l rfl (h.out.own.ext ((Ext.refl W).alloc _)) (by have:=h.out.base;simp;omega) _ 1 1 [x] rfl rfl (ZS.new W x) (by simp;omega) ?_;intro Z i I M a;obtain⟨Y,c2,rfl,O,Q⟩:=I.open;have J:i.heap[T]? =W.heap[T]? :=(M.block T (by have:=h.out.tb.lt;simp;omega) (λe=>h.out.ne e.symm)).trans (av (w':=W.alloc (.cells #[.int .i64 x] 3)) ((Ext.refl W).alloc _) T h.out.tb.lt);have H:TB i T u:=h.out.tb.of J;have d5:=H.cell h.out.at5;have k5:=H.thaw 5))
 go_end0
 have K:TSb (λb=>b=T\/(i9 A l.length c).ownBlock=some b) W i:=
  ((TSb.ext (S:=λb=>b=T\/(i9 A l.length c).ownBlock=some b) (((Ext.refl W).alloc _))).trans (pU M) (λj N e=>iL e))
 have f:(i9 Y (l++[x]).length c2).ownBlock≠some T:=λe=>by
  rcases a with a|a
  ·rw[a] at e;exact h.out.ne e
  ·rw[a] at e
   injection e with e;have:=h.out.tb.lt;simp at e;omega
 have q:(l++[x]).length=l.length+1:=ι
 rw[q] at f a I;refine⟨rfl,_,⟨H.set 5 _,?_,I.ts (y7 i T 5 _) (λg e X=>f (by rw[e,X])),f,by have:=h.out.base;have:=K.size;simp;omega⟩,?_,K.trans (y7 i T 5 _) (λj N e=>fU e)⟩
 ·have U:=h.out.at5
  have:5<u.size:=(an.1 U).1;rw[bI,if_pos this]
 ·rcases a with a|a
  ·exact .inl a
  ·exact .inr ⟨_,a,ι⟩
theorem HpS.slice {w0 W:ae} {T:Nat} {i:Array au} {v:au} {l:List Int} (h:HpS w0 W T i v l) (a:l≠[]):∃g c,v= .slice (some ⟨g,0,none⟩) l.length c/\g≠T/\w0.heap.size<=g/\g<W.heap.size:=by
 rcases h.own.2 with⟨_,h0⟩|⟨g,cap,cur,e,hbase,hgb,_⟩
 ·exact absurd (List.eq_nil_of_length_eq_zero h0) a
 ·exact⟨g,cap,e,λf=>h.ne (by rw[e,f];rfl),hbase,(an.1 hgb).1⟩
theorem HpS.turned {w0 W W':ae} {T g c n:Nat} {f:Array au} {l:List Int} {d:Array Int} (h:HpS w0 W T f (.slice (some ⟨g,0,none⟩) n c) l) (hn:l.length=n) (a:g≠T) (S:SWi W g n d W'):HpS w0 W' T f (.slice (some ⟨g,0,none⟩) n c) d.toList:=
 ⟨h.tb.ts S.ts (λe=>a e.symm),h.at5,h.own.turned hn S,h.ne,az h.base S.ts.size⟩
theorem Gx (A:Option Addr) (n c:Nat) (w:ae):aO pg 247 #[.slice A n c] w λe w'=>e= .returned (.int .i64 n)/\w=w':=by
 go_enter func247,ntmps247;go_wp2;go_ret;exact⟨rfl,rfl⟩
theorem Yv (w0 W:ae) (T:Nat) (M:Array au) (v:au) (l:List Int) (x:Int) (h:HpS w0 W T M v l) (hb:l.length<400000000):
  aO pg 135 #[.iface 215 (.pointer (some ⟨T,5,none⟩)),.iface 3 (.int .i64 x)] W λe W'=>e= .returned (.tuple #[])/\∃I,HpS w0 W' T (M.setIfInBounds 5 I) I (upA l.length (l++[x]).toArray).toList/\ae8 W v I/\TSb (λb=>b=T\/v.ownBlock=some b) W W':=by
 have N:=ac (Oi w0 W T M v l x h ω);obtain⟨m1,m2⟩:=Oo W (.pointer (some ⟨T,5,none⟩));have eP:=ab9;have eN:=ZV;replace h:=ac h;go_enter func135,ntmps135
 go_wp2_with fail
 refine N.out.mono ?_;rintro e H ⟨rfl,Y,a,f,J⟩;obtain⟨g,c,rfl,u,Q,O⟩:=a.slice ι;have i:(l++[x]).length=l.length+1:=ι
 rw[i] at a f;obtain⟨m3,m4,m5⟩:=qY H _ _ _ _ (a.tb.cell a.at5);replace a:=ac a;replace f:=ac f;replace J:=ac J
 go_wp2_with fail
 refine(Gx _ _ _ _).mono ?_;rintro e X ⟨rfl,rfl⟩;have U:((l.length+1:Nat):Int)-1=(l.length:Int):=ω
 obtain⟨R,S,_⟩:=a.out.own.holds (n:=l.length+1) i;have K:=ac (ads H T 5 g (l.length+1) c l.length (l++[x]).toArray H R (a.out.tb.cell a.out.at5) (λe=>u e.symm) S ω ω);generalize l.length+1=Z at*
 go_wp2_with fail
 refine K.out.mono ?_;rintro e w3 ⟨rfl,z⟩;replace z:=ac z
 go_wp2_with fail
 go_end0
 refine⟨rfl,_,a.out.turned i u z.out,f.out,J.out.trans z.out.ts (λj hj e=>?_)⟩;rcases f.out with f|⟨q,f,hq⟩
 ·exact iL (by rw[<-f,e];rfl)
 ·have:q=g:=by have:=f;simp[Value.ownBlock] at this;exact this.symm
  omega
theorem afi (A:Option Addr) (n cap k:Nat) (j:k<=cap) (W:ae):(Instr.slice 157 (.slice A n cap) none (some (.int .i64 k)) none).run pg W= .ok (.slice A k cap) W:=by
 obtain⟨i,hi,f,e,a⟩:=dK Zb;exact xS underlying157 hi A n cap k W ω ω
theorem QF (w0 W:ae) (T g c n:Nat) (z:Array au) (l:List Int) (x:Int) (h:HpS w0 W T z (.slice (some ⟨g,0,none⟩) (n+1) c) l) (j:l.length=n+1) (hb:l.length<=400000000) (I:l[n]? =some x):
  aO pg 262 #[.pointer (some ⟨T,5,none⟩)] W λe W'=>e= .returned (.iface 3 (.int .i64 x))/\HpS w0 W' T (z.setIfInBounds 5 (.slice (some ⟨g,0,none⟩) n c)) (.slice (some ⟨g,0,none⟩) n c) (l.take n)/\TSb (λb=>b=T) W W':=by
 have c5:=h.tb.cell h.at5;have f5:=h.tb.thaw 5;obtain⟨A,c',u,hc,H⟩:=h.own.open;injection u with e1 e2 e3;subst e3;obtain⟨b,o,f,U⟩:=H.at I;rw[<-e1] at f;injection f with f;injection f with eb eo;subst eb;subst eo;clear H e2;subst e1;have J:=afi (some ⟨g,0,none⟩) (n+1) c n ω;have Y:((n+1:Nat):Int)-1=(n:Int):=ω
 have X:(n:Int)<((n+1:Nat):Int):=ω
 have i:(⟨T,5,none⟩:Addr)≠⟨g,0+n,none⟩:=λe=>by injection e with e;exact h.ne (by rw[e];rfl)
 replace h:=ac h;simp only[aW] at U;clear i;go_enter func262,ntmps262;have M:n<=400000000:=ω
 generalize a:n+1=Z at*;replace a:=ac a;replace j:=ac j
 go_wp2_with fail
 go_ret;refine⟨rfl,⟨h.out.tb.set 5 _,?_,?_,h.out.ne,by have:=h.out.base;simpa using this⟩,y7 W T 5 _⟩
 ·have Q:=h.out.at5
  have:5<z.size:=(an.1 Q).1;rw[bI,if_pos this]
 ·have K:=h.out.own.ts (y7 W T 5 (.slice (some ⟨g,0,none⟩) n c)) (λq e u=>h.out.ne (by rw[e,u]))
  rcases K.2 with⟨h0,_⟩|⟨g',cap,cur,e4,hbase,hgb,r1,r2,r3,r4⟩
  ·cases h0
  ·injection e4 with e5 e6 e7
   injection e5 with e5;injection e5 with e5;subst e5;subst e7;have O:=j.out;have N:=a.out;refine⟨ι,.inr ⟨g,c,cur,by simp[bv];omega,hbase,hgb,by simp[bv];omega,r2,r3,?_⟩⟩;rw[bv,List.map_take,<-r4,List.take_take]
   congr 1
   omega
theorem abj (w0 W:ae) (T n:Nat) (Y:Array au) (v:au) (l:List Int) (h:HpS w0 W T Y v l) (i:l.length=n+1) (hb:l.length<=400000000) (hp:xI (n+1) l.toArray) (x:Int) (hx:l[0]? =some x):
  aO pg 104 #[.iface 215 (.pointer (some ⟨T,5,none⟩))] W λe W'=>e= .returned (.iface 3 (.int .i64 x))/\∃M,HpS w0 W' T (Y.setIfInBounds 5 M) M ((wP l.toArray).toList.take n)/\M.ownBlock=v.ownBlock/\TSb (λb=>b=T\/v.ownBlock=some b) W W':=by
 obtain⟨g,c,rfl,J,a3,a2⟩:=h.slice (by intro e;rw[e] at i;cases i);obtain⟨z,O,p3,p4⟩:=Ob (d:=l.toArray) (n:=n) (by simpa using i) hp;have q:wP l.toArray=dT gtI n 0 0 (swp l.toArray 0 n):=by unfold wP;rw[show l.toArray.size-1=n by simp[i]]
 have z1:((n+1:Nat):Int)-1=(n:Int):=ω
 clear p3 p4 hp;have a0:(wP l.toArray).size=n+1:=z;obtain⟨H,a⟩:∃H,n+1=H:=⟨_,rfl⟩;rw[a] at i z z1;rw[i] at h;obtain⟨m1,m2,m3⟩:=qY W _ _ _ _ (h.tb.cell h.at5);obtain⟨R,S,_⟩:=h.own.holds (n:=H) i;have eP:=aeI;have eN:=ZV;have eS:=MO;replace h:=ac h;replace z:=ac z;replace O:=ac O;replace q:=ac q;replace S:=ac S;replace a:=ac a;go_enter func104,ntmps104
 go_wp2_with fail
 refine(Gx _ _ _ _).mono ?_;rintro e w2 ⟨rfl,rfl⟩
 go_wp2_with fail
 refine(uJ W g H c 0 n l.toArray W R S.out (by have:=a.out;omega) (by have:=a.out;omega)).mono ?_;rintro e w3 ⟨rfl,Z⟩;replace Z:=ac Z;clear m1 m2 m3
 go_wp2_with fail
 refine(Z9 W T 5 g H c 0 n (swp l.toArray 0 n) w3 R (h.out.tb.cell h.out.at5) (λe=>J e.symm) Z.out ω (by have:=a.out;omega) ω).mono ?_;rintro e w4 ⟨⟨bb,rfl⟩,K⟩;rw[<-q.out] at K;replace K:=ac K;obtain⟨m4,m5⟩:=Oo w4 (.pointer (some ⟨T,5,none⟩));have h4:=h.out.turned i J K.out;have f:(wP l.toArray).toList.length=H:=by simpa using z.out
 have I:l.toArray[0]! =x:=by
  have U:=(aq.1 hx).1;have Q:=(aq.1 hx).2;rw[getElem!_pos l.toArray 0 (by simpa using U)];simpa using Q
 have u:(wP l.toArray).toList[n]? =some x:=by
  have hs:=z.out;have a1:=a.out;rw[<-I,<-O.out,aP,dl ω,getElem!_pos _ n ω]
 rw[<-a.out] at h4 f;clear I;have hP:=ac (QF w0 w4 T g c n Y _ _ h4 f ω u)
 go_wp2_with fail
 refine hP.out.mono ?_;rintro e w5 ⟨rfl,X,N⟩;replace X:=ac X;replace N:=ac N
 go_wp2_with fail
 go_ret;exact⟨rfl,_,X.out,rfl,(xM K.out.ts (λj hj e=>iL (by rw[e];rfl))).trans N.out (λj hj e=>fU e)⟩
end
section
open Go.ChangeShapes Go.WideShapes Go.ChangeAt Go.RowKit Go.Sort Go.Maps
section
inductive Tg where
 |t|s|m|x|c|o|r
 |w (a:I2)
structure TkV where
 bS:Nat
 bW:Nat
 vX:au
 vC:au
 vo:au
 vr:au
 Wt:List (I2×au×List Int)
 tg:Nat->Tg
def Iu (A:Option Addr) (n cap:Nat) (g:TkV):Array au:= #[.slice A n cap,.map (some g.bS),g.vX,g.vC,g.vo,g.vr,.map (some g.bW)]
def mE (Wt:List (I2×au×List Int)):List (I2×au):=Wt.map λt=>(t.1,t.2.1)
structure TkS (w0 W:ae) (T:Nat) (A:Option Addr) (n cap:Nat) (V0 V:List I2) (Xs:List It) (bs:List Bool) (C:List It) (hs:List Int) (g:TkV):Prop where
 tb:TB W T (Iu A n cap g)
 vec:Vec w0 A V0
 kn:∃nn D,nn<=C.length/\MapU W g.bS nn D/\EW D V0 V
 its:jS w0 W g.vX Xs
 came:jQ 4 1 w0 W g.vC bs.length (bs.map Value.bool)
 come:jS w0 W g.vo C
 ready:kY w0 W g.vr hs
 wm:xq W g.bW (mE g.Wt)
 wl:∀t∈g.Wt,kY w0 W t.2.1 t.2.2
 keys:(g.Wt.map (·.1)).Nodup
 low:Ext w0 W
 gT:g.tg T= .t
 gS:g.tg g.bS= .s
 gM:g.tg g.bW= .m
 gX:∀b,g.vX.ownBlock=some b->g.tg b= .x
 gC:∀b,g.vC.ownBlock=some b->g.tg b= .c
 go:∀b,g.vo.ownBlock=some b->g.tg b= .o
 gr:∀b,g.vr.ownBlock=some b->g.tg b= .r
 gw:∀t∈g.Wt,∀b,t.2.1.ownBlock=some b->g.tg b= .w t.1
 bT:w0.heap.size<=T
 bbS:w0.heap.size<=g.bS
 bbW:w0.heap.size<=g.bW
theorem jQ.ts {t:TypeId} {s:Nat} {S:Nat->Prop} {w0 W W':ae} {v:au} {n:Nat} {xs:List au} (h:jQ t s w0 W v n xs) (j:TSb S W W') (hn:∀g,v.ownBlock=some g->¬S g):jQ t s w0 W' v n xs:=by
 refine⟨h.1,?_⟩;rcases h.2 with q|⟨g,cap,i,e,a,f,r⟩
 ·exact .inl q
 ·exact .inr ⟨g,cap,i,e,a,(j.block g (an.1 f).1 (hn g (by rw[e];rfl))).trans f,r⟩
theorem MapU.of {w w':ae} {b n:Nat} {D:DataW Unit} (h:MapU w b n D) (e:w'.heap[b]? =w.heap[b]?):MapU w' b n D:=by
 obtain⟨q,a,i,F,f,j⟩:=h;exact⟨q,a,e.trans i,F,f,j⟩
section
variable {w0 W W':ae} {T:Nat} {A:Option Addr} {n cap:Nat} {V0 V:List I2} {Xs:List It} {bs:List Bool} {C:List It} {hs:List Int} {g:TkV} {S:Nat->Prop}
theorem TkS.tbT (h:TkS w0 W T A n cap V0 V Xs bs C hs g) (a:TSb S W W') (hS:∀b,S b->g.tg b≠ .t):TB W' T (Iu A n cap g):=h.tb.ts a λe=>hS T e h.gT
theorem TkS.knT (h:TkS w0 W T A n cap V0 V Xs bs C hs g) (i:TSb S W W') (hS:∀b,S b->g.tg b≠ .s):∃a D,a<=C.length/\MapU W' g.bS a D/\EW D V0 V:=by
 obtain⟨a,D,q,f,j⟩:=h.kn;exact⟨a,D,q,f.of (i.block _ f.lt λe=>hS _ e h.gS),j⟩
theorem TkS.QY (h:TkS w0 W T A n cap V0 V Xs bs C hs g) (a:TSb S W W') (hS:∀b,S b->g.tg b≠ .x):jS w0 W' g.vX Xs:=jQ.ts h.its a λb f e=>hS b e (h.gX b f)
theorem TkS.Iw (h:TkS w0 W T A n cap V0 V Xs bs C hs g) (a:TSb S W W') (hS:∀b,S b->g.tg b≠ .c):jQ 4 1 w0 W' g.vC bs.length (bs.map Value.bool):=jQ.ts h.came a λb f e=>hS b e (h.gC b f)
theorem TkS.Ip (h:TkS w0 W T A n cap V0 V Xs bs C hs g) (a:TSb S W W') (hS:∀b,S b->g.tg b≠ .o):jS w0 W' g.vo C:=jQ.ts h.come a λb f e=>hS b e (h.go b f)
theorem TkS.zX (h:TkS w0 W T A n cap V0 V Xs bs C hs g) (a:TSb S W W') (hS:∀b,S b->g.tg b≠ .r):kY w0 W' g.vr hs:=jQ.ts h.ready a λb f e=>hS b e (h.gr b f)
theorem TkS.wmT (h:TkS w0 W T A n cap V0 V Xs bs C hs g) (a:TSb S W W') (hS:∀b,S b->g.tg b≠ .m):xq W' g.bW (mE g.Wt):=h.wm.of (a.block _ h.wm.lt λe=>hS _ e h.gM)
theorem TkS.wlT (h:TkS w0 W T A n cap V0 V Xs bs C hs g) (i:TSb S W W') (hS:∀b,S b->∀a,g.tg b≠ .w a):∀t∈g.Wt,kY w0 W' t.2.1 t.2.2:=λt f=>jQ.ts (h.wl t f) i λb j e=>hS b e _ (h.gw t f b j)
theorem TkS.QT (h:TkS w0 W T A n cap V0 V Xs bs C hs g) (a:TSb S W W') (hS:∀b,S b->w0.heap.size<=b):Ext w0 W':=a.down h.low hS
theorem TkS.ext (h:TkS w0 W T A n cap V0 V Xs bs C hs g) (f:Ext W W'):TkS w0 W' T A n cap V0 V Xs bs C hs g:=by
 have a:TSb (λ_=>False) W W':=TSb.ext f;exact{ h with
  tb:=h.tbT a (λ_ e=>e.elim),kn:=h.knT a (λ_ e=>e.elim),its:=h.QY a (λ_ e=>e.elim),came:=h.Iw a (λ_ e=>e.elim),come:=h.Ip a (λ_ e=>e.elim),
  ready:=h.zX a (λ_ e=>e.elim),wm:=h.wmT a (λ_ e=>e.elim),wl:=h.wlT a (λ_ e=>e.elim),low:=h.QT a (λ_ e=>e.elim) }
theorem TkS.knA (h:TkS w0 W T A n cap V0 V Xs bs C hs g) (hn:V0.length=n) (hm:jB 0 V0=true) (a:n<=400000):KnA W A n cap (some g.bS) V0 V:=by
 obtain⟨i,D,_,f,e⟩:=h.kn;exact⟨h.vec.ext h.low,hn,hm,a,.inr ⟨_,_,D,rfl,f,e⟩⟩
theorem TkS.hps (h:TkS w0 W T A n cap V0 V Xs bs C hs g):HpS w0 W T (Iu A n cap g) g.vr hs:=
 ⟨h.tb,rfl,h.ready,λe=>(by have a:=h.gr T e;rw[h.gT] at a;cases a),h.low.size⟩
end
end
section
def I8 (Wt:List (I2×au×List Int)) (a:I2) (v:au) (i:Int):List (I2×au×List Int):=
 if(lkp (mE Wt) a).isSome then Wt.map λt=>if t.1=a then(a,v,t.2.2++[i]) else t else Wt++[(a,v,[i])]
def plW (Wt:List (I2×au×List Int)):List (I2×List Int):=Wt.map λt=>(t.1,t.2.2)
def Bc (p:List (I2×List Int)) (a:I2) (i:Int):List (I2×List Int):=if a∈p.map (·.1) then p.map (λt=>if t.1=a then(a,t.2++[i]) else t) else p++[(a,[i])]
theorem DC {Wt:List (I2×au×List Int)} {a:I2} {v:au} (h:lkp (mE Wt) a=some v):∃l,(a,v,l)∈Wt:=by
 have f:=H9 (mE Wt) a;rw[h] at f;cases i:pO (mE Wt) a with
 |none=>rw[i] at f;cases f
 |some q=>
  obtain⟨k,u⟩:=q;rw[i] at f;have z:=List.mem_of_getElem? (Ce i);obtain⟨t,j,e⟩:=cG.1 z;simp at f;subst f;injection e with e1 e2;exact⟨t.2.2,by rw[<-e1,<-e2];exact j⟩
theorem zo {Wt:List (I2×au×List Int)} {a:I2} (h:lkp (mE Wt) a=none):∀t∈Wt,t.1≠a:=λt e=>GZ.1 h (t.1,t.2.1) (cG.2 ⟨t,e,rfl⟩)
theorem OB {Wt:List (I2×au×List Int)} {a:I2}:(lkp (mE Wt) a).isSome=true↔a∈(plW Wt).map (·.1):=by
 unfold plW;rw[du];constructor
 ·intro h
  cases f:lkp (mE Wt) a with
  |none=>rw[f] at h;cases h
  |some v=>
   obtain⟨l,j⟩:=DC f;exact cG.2 ⟨_,j,rfl⟩
 ·intro h
  obtain⟨t,i,e⟩:=cG.1 h;cases f:lkp (mE Wt) a with
  |none=>exact absurd e (zo f t i)
  |some v=>rfl
theorem abk (Wt:List (I2×au×List Int)) (a:I2) (v:au) (i:Int):plW (I8 Wt a v i)=Bc (plW Wt) a i:=by
 unfold I8 Bc;by_cases h:(lkp (mE Wt) a).isSome=true
 ·rw[if_pos h,if_pos (OB.1 h)]
  unfold plW;rw[du,du];refine bY λt _=>?_
  simp only[fv]
  split <;> rfl
 ·rw[if_neg h,if_neg (λe=>h (OB.2 e))]
  unfold plW;rw[dX];rfl
theorem Oy (Wt:List (I2×au×List Int)) (a:I2) (v:au) (i:Int):mE (I8 Wt a v i)=Qz (EP (mE Wt) a) a v:=by
 unfold I8 EP Qz;by_cases h:(lkp (mE Wt) a).isSome=true
 ·rw[if_pos h,if_pos h]
  unfold mE;rw[du,du];refine bY λt _=>?_
  simp only[fv]
  split <;> rfl
 ·rw[if_neg h,if_neg h,dX,bA,dt,if_pos rfl]
  have hn:lkp (mE Wt) a=none:=by
   cases f:lkp (mE Wt) a with
   |none=>rfl
   |some v=>rw[f] at h;exact absurd rfl h
  have:(mE Wt).map (λp=>if p.1=a then(a,v) else p)=mE Wt:=by
   have j:(mE Wt).map (λp=>if p.1=a then(a,v) else p)=(mE Wt).map id:=bY λp e=>if_neg (GZ.1 hn p e)
   rw[j,List.map_id]
  rw[this];unfold mE;rw[dX];rfl
theorem OE {Wt:List (I2×au×List Int)} {a:I2} {v:au} {i:Int} (hn:(Wt.map (·.1)).Nodup):((I8 Wt a v i).map (·.1)).Nodup:=by
 unfold I8;by_cases h:(lkp (mE Wt) a).isSome=true
 ·rw[if_pos h,du]
  have:Wt.map ((λt:I2×au×List Int=>t.1)∘λt=>if t.1=a then(a,v,t.2.2++[i]) else t)=Wt.map (·.1):=by
   refine bY λt _=>?_
   simp only[fv]
   split
   ·rename_i e;exact e.symm
   ·rfl
  rw[this];exact hn
 ·rw[if_neg h,dX]
  have f:lkp (mE Wt) a=none:=by
   cases z:lkp (mE Wt) a with
   |none=>rfl
   |some v=>rw[z] at h;exact absurd rfl h
  refine List.nodup_append.2 ⟨hn,ι,λx q y j=>?_⟩;obtain⟨t,u,rfl⟩:=cG.1 q;simp at j;subst j;exact zo f t u
theorem abB {Wt:List (I2×au×List Int)} (hn:(Wt.map (·.1)).Nodup) {s t:I2×au×List Int} (I:s∈Wt) (H:t∈Wt) (e:s.1=t.1):s=t:=by
 obtain⟨i,hi⟩:=ey I;obtain⟨j,f⟩:=ey H;have u:(Wt.map (·.1))[i]? =some t.1:=by rw[bF,hi,<-e];rfl
 have q:(Wt.map (·.1))[j]? =some t.1:=by rw[bF,f];rfl
 have l1:=(aq.1 u).1;have z:=(aq.1 q).1;rcases Nat.lt_trichotomy i j with a|a|a
 ·have:=cZ.1 hn i j l1 z a
  rw[(aq.1 u).2,(aq.1 q).2] at this;exact absurd rfl this
 ·subst a
  rw[hi] at f;injection f
 ·have:=cZ.1 hn j i z l1 a
  rw[(aq.1 u).2,(aq.1 q).2] at this;exact absurd rfl this
def nV (W:ae) (g:TkV) (W':ae) (a:TkV):Prop:=W.heap.size<=W'.heap.size/\∀b,b<W.heap.size->g.tg b= .x->W'.heap[b]? =W.heap[b]? /\a.tg b= .x
theorem nV.refl (W:ae) (g:TkV):nV W g W g:=⟨am _,λ_ _ h=>⟨rfl,h⟩⟩
theorem nV.trans {W q j:ae} {g i f:TkV} (h:nV W g q i) (k:nV q i j f):nV W g j f:=
 ⟨az h.1 k.1,λb a e=>by
  obtain⟨I,H⟩:=h.2 b a e;obtain⟨z,u⟩:=k.2 b (aV a h.1) H;exact⟨z.trans I,u⟩⟩
theorem nV.ext {W f:ae} (g:TkV) (a:Ext W f):nV W g f g:=⟨a.size,λb i e=>⟨av a b i,e⟩⟩
section
variable {w0 W:ae} {T:Nat} {A:Option Addr} {n cap:Nat} {V0 V:List I2} {Xs:List It} {bs:List Bool} {C:List It} {hs:List Int} {g:TkV}
theorem TkS.pushed (h:TkS w0 W T A n cap V0 V Xs bs C hs g) {W':ae} {u:au} {I:List Int} (hh:HpS w0 W' T ((Iu A n cap g).setIfInBounds 5 u) u I) (hn:ae8 W g.vr u)
  (i:TSb (λb=>b=T\/g.vr.ownBlock=some b) W W'):∃H,TkS w0 W' T A n cap V0 V Xs bs C I H/\H.Wt=g.Wt/\H.vr=u/\nV W g W' H:=by
 have hS:∀b,(b=T\/g.vr.ownBlock=some b)->g.tg b= .t\/g.tg b= .r:=λb f=>by
  rcases f with rfl|e
  ·exact .inl h.gT
  ·exact .inr (h.gr b e)
 have j:∀b,b<W.heap.size->(if u.ownBlock=some b then Tg.r else g.tg b)=g.tg b:=λb f=>by
  split
  ·rename_i e
   rcases hn with z|⟨q,z,M⟩
   ·rw[z] at e;exact(h.gr b e).symm
   ·rw[z] at e;injection e with e;omega
  ·rfl
 obtain⟨J,D,_,K,_⟩:=h.kn;refine⟨{ g with vr:=u,tg:=λb=>if u.ownBlock=some b then .r else g.tg b },{ tb:=hh.tb,vec:=h.vec,kn:=h.knT i (λb f e=>?_),its:=h.QY i (λb f e=>?_),came:=h.Iw i (λb f e=>?_),come:=h.Ip i (λb f e=>?_),ready:=hh.own,wm:=h.wmT i (λb f e=>?_),wl:=h.wlT i (λb f a e=>?_),keys:=h.keys,low:=h.QT i (λb f=>?_),gT:=(j T h.tb.lt).trans h.gT,gS:=(j _ K.lt).trans h.gS,gM:=(j _ h.wm.lt).trans h.gM,gX:=λb f=>(j b (jS.lt h.its b f).2).trans (h.gX b f),gC:=λb f=>(j b (bQ h.came b f).2).trans (h.gC b f),go:=λb f=>(j b (jS.lt h.come b f).2).trans (h.go b f),gr:=λb f=>if_pos f,gw:=λt i b f=>(j b (kY.lt (h.wl t i) b f).2).trans (h.gw t i b f),bT:=h.bT,bbS:=h.bbS,bbW:=h.bbW },rfl,rfl,i.size,λb f e=>⟨i.block b f (λz=>?_),(j b f).trans e⟩⟩
 case refine_7=>
  rcases f with rfl|e
  ·exact h.bT
  ·exact(kY.lt h.ready b e).1
 case refine_8=>rcases hS b z with k|k <;> rw[e] at k <;> cases k
 all_goals(rcases hS b f with k|k <;> rw[e] at k <;> cases k)
theorem TkS.await (h:TkS w0 W T A n cap V0 V Xs bs C hs g) (a:I2) (i:Int) (q:Nat) (hq:W.heap[q]? =some (.cells #[Vi i] 3 (0,0))) (a4:g.bW≠q) (hw:∀t∈g.Wt,t.2.2.length<=400000):
  ∃K st O J w3 Y g',(Instr.mapEntry 158 (.map (some g.bW)) (.agg #[.int .u32 a.1,.int .u32 a.2])).run pg W= .ok (.tuple #[K,.int .i64 (st:Nat)]) O/\
   (dg #[23,23] 23 #[K,.slice (some ⟨q,0,none⟩) 1 1]).run pg O= .ok J w3/\
   (Instr.entryStore 158 (.map (some g.bW)) (.int .i64 (st:Nat)) J).run pg w3= .ok () Y/\
   TkS w0 Y T A n cap V0 V Xs bs C hs g'/\plW g'.Wt=Bc (plW g.Wt) a i/\nV W g Y g':=by
 obtain⟨O,st,h2,hB,g2⟩:=h.wm.entry (T:=158) underlying158 κ a;have t2:=pU g2;have Z:∀b,some g.bW=some b->g.tg b= .m:=λb e=>by injection e with e;rw[<-e];exact h.gM
 have b7:(mE g.Wt).map (·.1)=g.Wt.map (·.1):=by unfold mE;rw[du];rfl
 obtain⟨K,M⟩:∃K,(lkp (mE g.Wt) a).getD (.slice none 0 0)=K:=⟨_,rfl⟩;rw[M] at h2;have b0:∃l0,kY w0 O K l0/\l0.length<=400000/\(∀b,K.ownBlock=some b->b<W.heap.size/\g.tg b= .w a)/\(((lkp (mE g.Wt) a).isSome=true->(a,K,l0)∈g.Wt)/\((lkp (mE g.Wt) a).isSome≠true->l0=[])):=by
  cases H:lkp (mE g.Wt) a with
  |none=>
   rw[H] at M;subst M;exact⟨[],kY.nil _ _,Nat.zero_le _,λb e=>(by cases e),λe=>(by cases e),λ_=>rfl⟩
  |some v=>
   rw[H] at M;obtain⟨l,hl⟩:=DC H;have e:v=K:=M;subst e;refine⟨l,kY.ts (h.wl _ hl) t2 (λb f e=>?_),hw _ hl,λb f=>⟨(kY.lt (h.wl _ hl) b f).2,h.gw _ hl b f⟩,λ_=>hl,λe=>absurd rfl e⟩;have z:=h.gw _ hl b f;rw[Z b e] at z;cases z
 obtain⟨l0,a2,b8,U,b2,b1⟩:=b0;have a3:w0.heap.size<=O.heap.size:=az h.low.size g2.size;have a5:q<W.heap.size:=(an.1 hq).1;have hz:ZS O (some ⟨q,0,none⟩) [i]:=λ_=>⟨q,0,rfl,λj u hu=>by
  have I:O.heap[q]? =some (.cells #[Vi i] 3 (0,0)):=(t2.block q a5 (λe=>a4 (by injection e))).trans hq;have hj:j=0:=by
   have:=(aq.1 hu).1;simp at this;omega
  subst hj;simp at hu;subst hu;simp[fV,I]⟩
 obtain⟨J,w3,h3,a7,g3,b3⟩:=agH w0 O 23 K l0 a2 a3 _ 1 1 [i] rfl hz (by simp only[List.length_cons,List.length_nil];omega);have t3:=pU g3;have b5:Na w3 g.bW (EP (mE g.Wt) a) a st:=hB.of (t3.block _ hB.lt λe=>by
  have z:=(U _ e).2;rw[h.gM] at z;cases z)
 have a8:((EP (mE g.Wt) a).map (·.1)).Nodup:=by
  have z:=OE (Wt:=g.Wt) (a:=a) (v:= .slice none 0 0) (i:=0) h.keys;have h4:mE (I8 g.Wt a (.slice none 0 0) 0)=Qz (EP (mE g.Wt) a) a (.slice none 0 0):=Oy _ _ _ _;have h5:(Qz (EP (mE g.Wt) a) a (.slice none 0 0)).map (·.1)=(EP (mE g.Wt) a).map (·.1):=by
   unfold Qz;rw[du];refine bY λt _=>?_
   simp only[fv]
   split
   ·rename_i e;exact e.symm
   ·rfl
  rw[<-h5,<-h4];unfold mE;rw[du];exact z
 obtain⟨Y,h4,b4,g4⟩:=b5.store a8 158 J;have t4:=pU g4;have Q:TSb (λb=>g.tg b= .m\/g.tg b= .w a) W Y:=TSb.trans (TSb.trans (xM t2 (λj _ e=>fU (Z j e))) t3 (λj _ e=>iL (U j e).2)) t4 (λj _ e=>fU (Z j e));have H:∀b,b<W.heap.size->(if J.ownBlock=some b then Tg.w a else g.tg b)=g.tg b:=λb f=>by
  split
  ·rename_i e
   rcases b3 with I|I
   ·rw[I] at e;exact(U b e).2.symm
   ·rw[I] at e;injection e with e;have:=g2.size;omega
  ·rfl
 have a6:kY w0 Y J (l0++[i]):=kY.ts a7 t4 (λb f e=>by
  injection e with e;subst e;rcases b3 with I|I
  ·rw[I] at f
   have z:=(U _ f).2;rw[h.gM] at z;cases z
  ·rw[I] at f
   injection f with f;have:=h.wm.lt;have:=g2.size;omega)
 obtain⟨b6,D,_,hD,_⟩:=h.kn;have a0:∀t∈I8 g.Wt a J i,(t=(a,J,l0++[i]))\/(t∈g.Wt/\t.1≠a):=by
  intro t X;unfold I8 at X
  split at X
  ·rename_i N
   obtain⟨s,a1,e⟩:=cG.1 X
   split at e
   ·rename_i e1
    have I:=abB h.keys a1 (b2 N) e1;rw[I] at e;exact .inl e.symm
   ·rename_i e1
    rw[<-e];exact .inr ⟨a1,e1⟩
  ·rename_i N
   rcases List.mem_append.1 X with z|z
   ·refine .inr ⟨z,?_⟩
    have a9:lkp (mE g.Wt) a=none:=by
     cases H:lkp (mE g.Wt) a with
     |none=>rfl
     |some v=>rw[H] at N;exact absurd rfl N
    exact zo a9 t z
   ·rw[b1 N]
    simp at z;exact .inl z
 refine⟨K,st,O,J,w3,Y,{ g with Wt:=I8 g.Wt a J i,tg:=λb=>if J.ownBlock=some b then .w a else g.tg b },h2,h3,h4,{ tb:=h.tbT Q (λb f e=>?_),vec:=h.vec,kn:=h.knT Q (λb f e=>?_),its:=h.QY Q (λb f e=>?_),came:=h.Iw Q (λb f e=>?_),come:=h.Ip Q (λb f e=>?_),ready:=h.zX Q (λb f e=>?_),wm:=(Oy g.Wt a J i)▸b4,wl:=?_,keys:=OE h.keys,low:=?_,gT:=(H T h.tb.lt).trans h.gT,gS:=(H _ hD.lt).trans h.gS,gM:=(H _ h.wm.lt).trans h.gM,gX:=λb f=>(H b (jS.lt h.its b f).2).trans (h.gX b f),gC:=λb f=>(H b (bQ h.came b f).2).trans (h.gC b f),go:=λb f=>(H b (jS.lt h.come b f).2).trans (h.go b f),gr:=λb f=>(H b (kY.lt h.ready b f).2).trans (h.gr b f),gw:=?_,bT:=h.bT,bbS:=h.bbS,bbW:=h.bbW },abk _ _ _ _,Q.size,λb f e=>⟨Q.block b f (λI=>?_),(H b f).trans e⟩⟩
 case refine_7=>
  intro t X;rcases a0 t X with rfl|⟨z,h5⟩
  ·exact a6
  ·refine kY.ts (h.wl t z) Q (λb f e=>?_)
   rw[h.gw t z b f] at e;rcases e with e|e
   ·cases e
   ·injection e with e;exact h5 e
 case refine_8=>
  have l3:=TSb.down t2 h.low (λb e=>by injection e with e;rw[<-e];exact h.bbW);have l4:=TSb.down t3 l3 (λb e=>(kY.lt a2 b e).1);exact TSb.down t4 l4 (λb e=>by injection e with e;rw[<-e];exact h.bbW)
 case refine_9=>
  intro t X b f;rcases a0 t X with rfl|⟨z,h5⟩
  ·exact if_pos f
  ·exact(H b (kY.lt (h.wl t z) b f).2).trans (h.gw t z b f)
 case refine_10=>rw[e] at I;rcases I with k|k <;> cases k
 all_goals(rw[e] at f;rcases f with k|k <;> cases k)
end
end
end
section
open Go.ChangeShapes Go.WideShapes Go.ChangeAt Go.RowKit Go.Sort Go.Maps
attribute [local go_sem] ah calm jL jH
def ug (W:ae) (q:Nat) (a b:Int):Prop:=W.heap[q]? =some (.cells #[Vu a,Vu b] 38 (0,0))
variable {W:ae} {a b:Int} {q:Nat}
theorem ug.ext {W':ae} (h:ug W q a b) (e:Ext W W'):ug W' q a b:=(av e q (an.1 h).1).trans h
theorem ug.lt (h:ug W q a b):q<W.heap.size:=(an.1 h).1
theorem ug.cells {W:ae} {q:Nat} {a b:Int} (h:ug W q a b):W.cell? ⟨q,0,none⟩=some (Vu a)/\W.cell? ⟨q,1,none⟩=some (Vu b)/\W.frozen? ⟨q,0,none⟩=false/\W.frozen? ⟨q,1,none⟩=false:=by
 have e:W.heap[q]? =some (.cells #[Vu a,Vu b] 38 (0,0)):=h;refine⟨?_,?_,?_,?_⟩ <;> simp[fV,iP,e]
theorem ug.put (h:ug W q a b) (c d:Int):ug ((W.setCell ⟨q,0,none⟩ (Vu c)).setCell ⟨q,1,none⟩ (Vu d)) q c d:=by
 have e:W.heap[q]? =some (.cells #[Vu a,Vu b] 38 (0,0)):=h;unfold ug;rw[setCell_eq,setCell_eq,mapBlock_mapBlock];simp[mapBlock,cL,e,onCells]
theorem X0 {e:Array Oper} {o:Oper} {a:Act} {w:ae} {K:Act->ae->Prop} {Q:Exit->Act->ae->Prop} {E:Prop} (J:o.guard=none) (s x:Operand)
  (i:o.op=Op.call { callee:=iz Builtin.append,args:= #[s,x],argTypes:= #[23,23] }) {v u j:au} {w':ae} (I:a.eval s=v) (z:a.eval x=u)
  (f:(dg #[23,23] o.type #[v,u]).run pg w= .ok j w') (M:K (a.put o.dst j) w'):
  if bD o (eU e a.tmps)=true then iv pg o a w K Q else E:=by
 have H:bD o (eU e a.tmps)=true:=by simp[bD,J]
 rw[if_pos H];unfold iv;simp only[execOp,i,resolve,invoke,builtin,dG,gW,dc,fc,bA,dt,I,z,f];exact M
def zG (V:List I2) (x:It) (i:Int) (p:List (I2×List Int)) (e:List Int):List (I2×List Int)×List Int:=
 match awI V x with
 |some a=>(Bc p a i,e)
 |none=>(p,(upA e.length (e++[i]).toArray).toList)
theorem Ul (w0 M:ae) (T:Nat) (A:Option Addr) (n cap:Nat) (V0 V:List I2) (Xs:List It) (bs:List Bool) (C:List It) (hs:List Int) (g:TkV) (i:Nat) (x:It)
  (h:TkS w0 M T A n cap V0 V Xs bs C hs g) (hn:V0.length=n) (hm:jB 0 V0=true) (hb:n<=400000) (hx:Xs[i]? =some x) (hN:Xs.length<=400000) (b7:wfI x) (hh:hs.length<=400000) (hw:∀t∈g.Wt,t.2.2.length<=400000):
  aO pg 103 #[.pointer (some ⟨T,0,none⟩),.int .i64 i] M λe W'=>e= .returned (.tuple #[])/\∃g' b1,TkS w0 W' T A n cap V0 V Xs bs C b1 g'/\nV M g W' g'/\(plW g'.Wt,b1)=zG V x i (plW g.Wt) hs:=by
 obtain⟨N,z⟩:∃N,Xs.length=N:=⟨_,rfl⟩;have b9:i<N:=by rw[<-z];exact(aq.1 hx).1
 obtain⟨gx,cX,Q,d1⟩:∃gx cX,g.vX= .slice (some ⟨gx,0,none⟩) N cX/\True:=by
  rcases h.its.2 with⟨_,h0⟩|⟨gx,cX,cur,e,_⟩
  ·rw[h0] at z;omega
  ·exact⟨gx,cX,by rw[e,z],trivial⟩
 have a6:=h.its;rw[Q] at a6;obtain⟨Ax,e7,e1,_,a7⟩:=a6.open;injection e1 with e1 _ _;rw[<-e1] at a7;obtain⟨b',o',x',e2,O,hC⟩:=a7.at (k:=i) (by rw[z];exact b9);injection e2 with e2;injection e2 with e2 e3 _;subst e2;subst e3;rw[hx] at O;injection O with O;subst O;obtain⟨c0,c1,c2,c3,c4,c5,c6⟩:=hC;simp only[aW] at c0 c1 c2 c3 c4 c5 c6;obtain⟨bS,X⟩:∃bS,g.bS=bS:=⟨_,rfl⟩;have t0:M.cell? ⟨T,0,none⟩=some (.slice A n cap):=h.tb.cell rfl;have t1:M.cell? ⟨T,1,none⟩=some (.map (some bS)):=by rw[<-X];exact h.tb.cell rfl
 have t2:M.cell? ⟨T,2,none⟩=some (.slice (some ⟨gx,0,none⟩) N cX):=by rw[<-Q];exact h.tb.cell rfl
 have Y:=ac (λ(W:ae) (hW:Ext M W)=>Qa A n cap (some bS) V0 V x W (X▸(h.ext hW).knA hn hm hb) b7);obtain⟨R,J⟩:∃R,awI V x=R:=⟨_,rfl⟩;rw[J] at Y;obtain⟨a1,a2,bb,Z,H⟩:∃a1 a2 bb,R.getD (0,0)=(a1,a2)/\R.isSome=bb:=⟨_,_,_,rfl,rfl⟩;rw[Z,H] at Y;have e4:(0:Int)<=(i:Int):=ω
 have e0:(i:Int)<(N:Int):=ω
 replace h:=ac h;replace J:=ac J;replace Z:=ac Z;replace H:=ac H;replace z:=ac z;replace X:=ac X;replace Q:=ac Q;clear a6 e1 a7 d1;generalize d6:T=pt at*;go_enter func103,ntmps103
 go_upto_region 0 with fail
 refine ou 17 16 [rwI 11 (.tuple #[idv a1 a2,.bool bb]),rwB 15 (λz9 W=>∃q,z9= .pointer (some ⟨q,0,none⟩)/\M.heap.size<=q/\ug W q 0 0),rw2 16 15 (λ_ v W=>∃q,v= .pointer (some ⟨q,0,none⟩)/\M.heap.size<=q/\ug W q a1 a2)] (Ext M) (λ_=>True) Ext (λ_ _=>True) ((Ext.refl _).drew) trivial (λ_ _=>Ext.trans) (λ_ _ _ _=>trivial) ⟨λ_ _ _ _ _ _=>trivial,λ_ _ _ _ _ _ _ _=>trivial,(by rintro _ _ _ _ ⟨q,h1,h2,h3⟩ e;exact⟨q,h1,h2,h3.ext e⟩),(λh=>by cases h),(by rintro _ _ _ _ ⟨q,h1,h2,h3⟩ e;exact⟨q,h1,h2,h3.ext e⟩),(λ_ h=>absurd rfl h),trivial⟩ λρ hI=>?_
 have d9:i<Xs.length:=ω
 refine .s1 11 false [] (λW I _ _=>by
  have p0:=I.keep t0;have p1:=I.keep t1;have p2:=I.keep t2;have q0:=I.keep c0;have q1:=I.keep c1;have q2:=I.keep c2;have q3:=I.keep c3;have q4:=I.keep c4;have q5:=I.keep c5;have q6:=I.keep c6;exact jD) ?_
 refine .kv1 hI 0 _ (λW hx=>(Y.out W hx).mono (by rintro e W2 ⟨rfl,h2⟩;exact⟨rfl,h2⟩)) ?_;refine .s1 3 false [] (λW I _ _=>jD) ?_;refine .o1 1 false [] (λW hx _ _ N hN=>?_) ?_
 ·go_simp
  exact hN _ _ (λ_ e=>by cases e) ⟨_,rfl,hx.size,aI W _⟩ ((Ext.refl W).alloc _)
 refine .o0 2 [1] (λW hx _ f N hN=>?_) ?_
 ·obtain⟨⟨qb,a8,a4,a9⟩,_⟩:=f
  have a8:ρ 15=_:=a8;obtain⟨d4,d3,e6,e5⟩:=a9.cells
  go_simp
  exact hN _ _ (λ_ e=>by cases e) ⟨qb,a8,a4,a9.put a1 a2⟩ ((hx.setCell a4 _).setCell a4 _) trivial
 refine .fin λW hR ⟨_,_,jV,_⟩=>?_
 replace jV:=jV rfl;obtain⟨qa,eq,d5,d2⟩:=jV;rw[show ρ 15=_ from eq];have b6:Ext M W:=hR;clear Y;have qh:=ac (h.out.ext b6);have qr:=ac (nV.ext g b6);have u5:W.cell? ⟨pt,5,none⟩=some g.vr:=qh.out.tb.cell rfl;have u6:W.cell? ⟨pt,6,none⟩=some (.map (some g.bW)):=qh.out.tb.cell rfl;have d7:pt≠qa:=by have:=h.out.tb.lt;omega
 obtain⟨ka,kb,kf,kg⟩:=d2.cells;cases bb
 ·have hp:∀l',zG V x i (plW g.Wt) l'=(plW g.Wt,(upA l'.length (l'++[(i:Int)]).toArray).toList):=λl'=>by
   have h1:=H.out;unfold zG;rw[J.out];cases R with
   |none=>rfl
   |some _=>cases h1
  replace hp:=ac hp
  go_wp2_with fail
  refine(Yv w0 W pt _ g.vr hs (i:Int) qh.out.hps ω).mono ?_;rintro e W2 ⟨rfl,v',b4,b3,b0⟩;obtain⟨g',u,e1,e2,j⟩:=qh.out.pushed b4 b3 b0;replace u:=ac u;replace j:=ac (qr.out.trans j);clear b4 b3 b0
  go_wp2_with fail
  go_end0
  exact⟨rfl,g',_,u.out,j.out,by rw[hp.out,e1]⟩
 ·have hp:∀l',zG V x i (plW g.Wt) l'=(Bc (plW g.Wt) (a1,a2) (i:Int),l'):=λl'=>by
   have h1:=H.out;have h2:=Z.out;unfold zG;rw[J.out];cases R with
   |none=>cases h1
   |some y=>rw[<-h2];rfl
  replace hp:=ac hp;obtain⟨bW,U⟩:∃bW,g.bW=bW:=⟨_,rfl⟩;rw[U] at u6;have a3:Ext W (W.alloc (.cells #[Vi (i:Int)] 3)).drew:=((Ext.refl W).alloc _).drew;have qd:=ac (qh.out.ext a3);have qe:=ac (qr.out.trans (nV.ext g a3));have b2:(W.alloc (.cells #[Vi (i:Int)] 3)).drew.heap[W.heap.size]? =some (.cells #[Vi (i:Int)] 3 (0,0)):=aI W _;obtain⟨v0,st,w2,v3,w3,w4,g',a0,b5,b8,u,a5,j⟩:=qd.out.await (a1,a2) (i:Int) W.heap.size b2 (by have:=qh.out.wm.lt;omega) hw;rw[U] at a0 b8
  dsimp only at a0
  replace u:=ac u;replace j:=ac (qe.out.trans j);replace a5:=ac a5;replace U:=ac U;clear b2 a3 qd qe
  go_upto_region 2 with fail
  go_region_law (refine X0 rfl (.tmp 27) (.tmp 29) rfl (by simp[Act.eval,Act.put]) (by simp[Act.eval,Act.put]) b5 ?_)
  all_goals(go_wp2_with fail;exact bodyPost_ret (v:= .tuple #[]) (by simp[results,results103,go_sem]) rfl ⟨rfl,g',_,u.out,j.out,by rw[hp.out,a5.out]⟩)
end
section
open Go.ChangeShapes Go.WideShapes Go.ChangeAt Go.RowKit Go.Sort Go.Maps
attribute [local go_sem] ah
theorem YS {D:DataW Unit} {j V:List I2} (h:EW D j V) (u:IsMap D) (hv:jB 0 V=true) {c k:Int} (J:0<c) (z:c<=4294967295) (I:0<k) (H:jq V c<=k):
  EW (D.put (.int .u32 c) (.lit (.int .u32 k))) j (setOf V c k):=by
 constructor
 ·intro d d0 i
  by_cases e:d=c
  ·subst e
   rw[if_pos (has_put_same u (afs d0 i) _),atKey_put_same u (afs d0 i),oG _ _ _ hv,if_pos rfl]
  ·have a:(Lit.int .u32 d:Lit)≠ .int .u32 c:=λf=>e (by injection f)
   have:=h.1 d d0 i;rw[has_put_other a,atKey_put_other a,oG _ _ _ hv,if_neg e];exact this
 ·intro d q
  by_cases e:d=c
  ·subst e
   rw[oG _ _ _ hv,if_pos rfl];have K:jq j d<=jq V d:=by
        rcases hh:has D (.int .u32 d) with _|_
        ·have:=h.1 d ω z
         rw[if_neg (by rw[hh];simp)] at this;omega
        ·exact(h.2 d hh).2.2.2
   exact⟨J,z,I,ω⟩
  ·have a:(Lit.int .u32 d:Lit)≠ .int .u32 c:=λf=>e (by injection f)
   rw[has_put_other a] at q;rw[oG _ _ _ hv,if_neg e];exact h.2 d q
theorem ZG (A:Option Addr) (n cap bS M:Nat) (D:DataW Unit) (W V:List I2) (c k:Int) (w:ae) (K:MapU w bS M D) (O:EW D W V) (hv:jB 0 V=true) (hn:M<400000)
  (Z:0<c) (U:c<=4294967295) (h2:0<=k) (h3:k<=4294967294) (Y:jq V c<=k):
  aO pg 137 #[knv A n cap (some bS),idv c k] w λe W'=>e= .returned (.tuple #[])/\TSb (λb=>b=bS) w W'/\∃X,MapU W' bS (M+1) X/\EW X W (setOf V c (k+1)):=by
 have x1:Ext w ((w.alloc (.cells #[.slice A n cap,.map (some bS)] 155)).alloc (.cells #[Vu c,Vu k] 38)):=((Ext.refl _).alloc _).alloc _;have c0:((w.alloc (.cells #[.slice A n cap,.map (some bS)] 155)).alloc (.cells #[Vu c,Vu k] 38)).cell? ⟨w.heap.size,1,none⟩=some (.map (some bS)):=ι
 have c1:((w.alloc (.cells #[.slice A n cap,.map (some bS)] 155)).alloc (.cells #[Vu c,Vu k] 38)).cell? ⟨w.heap.size+1,0,none⟩=some (Vu c):=ι
 have c2:((w.alloc (.cells #[.slice A n cap,.map (some bS)] 155)).alloc (.cells #[Vu c,Vu k] 38)).cell? ⟨w.heap.size+1,1,none⟩=some (Vu k):=ι
 replace K:=ac K;replace O:=ac O;go_enter func137,ntmps137
 go_upto_region 1 with fail
 go_cut [5,4] (λs t I=>s= .nilIface/\∃q,t= .pointer (some ⟨q,0,none⟩)/\Hid (Ext w I)/\Hid (ug I q c (k+1))/\I.cell? ⟨w.heap.size,1,none⟩=some (.map (some bS))/\I.cell? ⟨w.heap.size+1,0,none⟩=some (Vu c))
 case first=>
  go_wp2_with fail
  refine(zC (x:=c) (y:=k+1) _ (by unfold om;rw[if_neg ω,if_neg ω]) ω ω ω ω ω ω).mono ?_;rintro e J ⟨rfl,x2⟩
  go_wp2_with fail
  go_meet;exact⟨rfl,J.heap.size,rfl,ac ((x1.trans x2).alloc _),ac (aI J _),(Ext.refl J).alloc _|>.keep (x2.keep c0),(Ext.refl J).alloc _|>.keep (x2.keep c1)⟩
 case rest=>
  obtain⟨rfl,q,rfl,u,N,y0,y1⟩:=hcut;have i:=u.out;obtain⟨k0,k1,_,_⟩:=N.out.cells;have z:=K.out.ext i;obtain⟨w9,Q,f,a⟩:=z.store Am underlying153 (aV hn (by unfold maxLen;omega)) (Y7 ω U) (plainElem_int (H:=Unit) underlying30 (wfU (c:=k+1) ω ω));replace f:=ac f;replace a:=ac a;clear z i;generalize w.heap.size=pk at*
  go_wp2_with fail
  go_end0
  exact⟨rfl,TSb.trans (TSb.ext u.out) (xM (pU a.out.grown) (λj _ e=>by injection e with e;exact e.symm)) (λj _ e=>e),_,f.out,YS O.out K.out.isMap hv Z U ω ω⟩
end
section
open Go.ChangeShapes Go.WideShapes Go.ChangeAt Go.RowKit Go.Sort Go.Maps
section
def lkP:List (I2×List Int)->I2->List Int
 |[],_=>[]
 |t::r,a=>if t.1=a then t.2 else lkP r a
def qc (p:List (I2×List Int)) (a:I2):List (I2×List Int):=p.filter λt=>decide (t.1≠a)
theorem YX {Wt:List (I2×au×List Int)} {a:I2} {v:au} {l:List Int} (hn:(Wt.map (·.1)).Nodup) (h:(a,v,l)∈Wt):lkP (plW Wt) a=l:=by
 induction Wt with
 |nil=>cases h
 |cons t r ih=>
  have f:=dZ.1 hn;show(if t.1=a then t.2.2 else lkP (plW r) a)=l;rcases aE.1 h with e|e
  ·rw[<-e,if_pos rfl]
  ·rw[if_neg (λi=>f.1 (by show t.1∈r.map (·.1);rw[i];exact cG.2 ⟨_,e,rfl⟩))]
   exact ih f.2 e
theorem YZ {Wt:List (I2×au×List Int)} {a:I2} (h:∀t∈Wt,t.1≠a):lkP (plW Wt) a=[]:=by
 induction Wt with
 |nil=>rfl
 |cons t r ih=>
  show(if t.1=a then t.2.2 else lkP (plW r) a)=[];rw[if_neg (h t ι)];exact ih λs e=>h s (by simp[e])
theorem Vk (Wt:List (I2×au×List Int)) (a:I2):mE (Wt.filter λt=>decide (t.1≠a))=PK (mE Wt) a:=by
 unfold mE PK;rw[List.filter_map];rfl
theorem Yy (Wt:List (I2×au×List Int)) (a:I2):plW (Wt.filter λt=>decide (t.1≠a))=qc (plW Wt) a:=by
 unfold plW qc;rw[List.filter_map];rfl
section
variable {w0 W:ae} {T:Nat} {A:Option Addr} {n cap:Nat} {V0 V:List I2} {Xs:List It} {bs:List Bool} {C:List It} {hs:List Int} {g:TkV}
theorem TkS.acp (h:TkS w0 W T A n cap V0 V Xs bs C hs g) {q H:Nat} (i:Nat) (e:g.vC= .slice (some ⟨q,0,none⟩) bs.length H):
  TkS w0 (W.setCell ⟨q,i,none⟩ (.bool true)) T A n cap V0 V Xs (bs.set i true) C hs g/\nV W g (W.setCell ⟨q,i,none⟩ (.bool true)) g:=by
 have j:TSb (λb=>b=q) W (W.setCell ⟨q,i,none⟩ (.bool true)):=y7 W q i _;have f:g.tg q= .c:=h.gC q (by rw[e];rfl);have hS:∀b,b=q->g.tg b= .c:=λb u=>by rw[u];exact f
 have z:=h.came;refine⟨{ h with tb:=h.tbT j (λb f e=>?_),kn:=h.knT j (λb f e=>?_),its:=h.QY j (λb f e=>?_),came:=?_,come:=h.Ip j (λb f e=>?_),ready:=h.zX j (λb f e=>?_),wm:=h.wmT j (λb f e=>?_),wl:=h.wlT j (λb f a e=>?_),low:=h.QT j (λb f=>?_) },j.size,λb f e=>⟨j.block b f (λu=>?_),e⟩⟩
 case refine_4=>
  rw[e] at z⊢;have:=(World.ownsRow.stored z i (.bool true)).1;unfold jQ;rw[List.length_set,List.map_set];exact this
 case refine_9=>
  rw[f];exact(bQ h.came q (by rw[e];rfl)).1
 case refine_10=>rw[hS b u] at e;cases e
 all_goals(rw[hS b f] at e;cases e)
theorem TkS.ach (h:TkS w0 W T A n cap V0 V Xs bs C hs g) {z:ae} {i:au} {x:It} (ho:jS w0 z i (C++[x])) (hg:W.grownBy z g.vo.ownBlock) (f:i.ownBlock=g.vo.ownBlock\/i.ownBlock=some W.heap.size):
  ∃M,TkS w0 (z.setCell ⟨T,4,none⟩ i) T A n cap V0 V Xs bs (C++[x]) hs M/\M.bS=g.bS/\M.Wt=g.Wt/\nV W g (z.setCell ⟨T,4,none⟩ i) M/\∀I D,MapU W g.bS I D->MapU (z.setCell ⟨T,4,none⟩ i) g.bS I D:=by
 have Y:=pU hg;have X:=y7 z T 4 i;have q:TSb (λb=>b=T\/g.vo.ownBlock=some b) W (z.setCell ⟨T,4,none⟩ i):=TSb.trans (xM Y (λj _ e=>iL e)) X (λj _ e=>fU e);have hS:∀b,(b=T\/g.vo.ownBlock=some b)->g.tg b= .t\/g.tg b= .o:=λb f=>by
  rcases f with rfl|e
  ·exact .inl h.gT
  ·exact .inr (h.go b e)
 have H:∀b,b<W.heap.size->(if i.ownBlock=some b then Tg.o else g.tg b)=g.tg b:=λb a1=>by
  split
  ·rename_i e
   rcases f with u|u
   ·rw[u] at e;exact(h.go b e).symm
   ·rw[u] at e;injection e with e;omega
  ·rfl
 have Q:TB z T (Iu A n cap g):=h.tb.of (Y.block T h.tb.lt (λe=>by have K:=h.go T e;rw[h.gT] at K;cases K));have O:i.ownBlock≠some T:=λe=>by
  rcases f with u|u
  ·rw[u] at e;have K:=h.go T e;rw[h.gT] at K;cases K
  ·rw[u] at e;injection e with e;have:=h.tb.lt;omega
 obtain⟨N,D,a0,hD,U⟩:=h.kn;have J:∀I D,MapU W g.bS I D->MapU (z.setCell ⟨T,4,none⟩ i) g.bS I D:=λI D Z=>Z.of (q.block _ Z.lt (λe=>by rcases hS _ e with k|k <;> rw[h.gS] at k <;> cases k))
 refine⟨{ g with vo:=i,tg:=λb=>if i.ownBlock=some b then .o else g.tg b },{ tb:=Q.set 4 i,vec:=h.vec,kn:=⟨N,D,by rw[ag];omega,J _ _ hD,U⟩,its:=h.QY q (λb f e=>?_),came:=h.Iw q (λb f e=>?_),come:=jQ.ts ho X (λb f e=>O (by rw[f,e])),ready:=h.zX q (λb f e=>?_),wm:=h.wmT q (λb f e=>?_),wl:=h.wlT q (λb f a e=>?_),keys:=h.keys,low:=h.QT q (λb f=>?_),gT:=(H T h.tb.lt).trans h.gT,gS:=(H _ hD.lt).trans h.gS,gM:=(H _ h.wm.lt).trans h.gM,gX:=λb f=>(H b (jS.lt h.its b f).2).trans (h.gX b f),gC:=λb f=>(H b (bQ h.came b f).2).trans (h.gC b f),go:=λb f=>if_pos f,gr:=λb f=>(H b (kY.lt h.ready b f).2).trans (h.gr b f),gw:=λt q b f=>(H b (kY.lt (h.wl t q) b f).2).trans (h.gw t q b f),bT:=h.bT,bbS:=h.bbS,bbW:=h.bbW },rfl,rfl,⟨q.size,λb f e=>⟨q.block b f (λu=>?_),(H b f).trans e⟩⟩,J⟩
 case refine_6=>
  rcases f with rfl|e
  ·exact h.bT
  ·exact(jS.lt h.come b e).1
 case refine_7=>rcases hS b u with k|k <;> rw[e] at k <;> cases k
 all_goals(rcases hS b f with k|k <;> rw[e] at k <;> cases k)
theorem TkS.gone (h:TkS w0 W T A n cap V0 V Xs bs C hs g) {W':ae} {j:Nat} {D:DataW Unit} {q:List I2} (i:TSb (λb=>b=g.bS) W W') (z:MapU W' g.bS j D) (u:EW D V0 q) (hn:j<=C.length):
  TkS w0 W' T A n cap V0 q Xs bs C hs g/\nV W g W' g:=by
 have hS:∀b,b=g.bS->g.tg b= .s:=λb e=>by rw[e];exact h.gS
 refine⟨{ h with tb:=h.tbT i (λb f e=>?_),kn:=⟨j,D,hn,z,u⟩,its:=h.QY i (λb f e=>?_),came:=h.Iw i (λb f e=>?_),come:=h.Ip i (λb f e=>?_),ready:=h.zX i (λb f e=>?_),wm:=h.wmT i (λb f e=>?_),wl:=h.wlT i (λb f a e=>?_),low:=h.QT i (λb f=>by rw[f];exact h.bbS) },i.size,λb f e=>⟨i.block b f (λH=>?_),e⟩⟩
 case refine_8=>rw[hS b H] at e;cases e
 all_goals(rw[hS b f] at e;cases e)
theorem TkS.waits (h:TkS w0 W T A n cap V0 V Xs bs C hs g) (a:I2):∃v,(lkp (mE g.Wt) a).getD (.slice none 0 0)=v/\kY w0 W v (lkP (plW g.Wt) a)/\∀b,v.ownBlock=some b->g.tg b= .w a:=by
 cases i:lkp (mE g.Wt) a with
 |none=>
  rw[YZ (zo i)];exact⟨_,rfl,kY.nil _ _,λb e=>(by cases e)⟩
 |some v=>
  obtain⟨l,f⟩:=DC i;rw[YX h.keys f];exact⟨v,rfl,h.wl _ f,λb j=>h.gw _ f b j⟩
theorem TkS.dropped (h:TkS w0 W T A n cap V0 V Xs bs C hs g) {W':ae} (a:I2) (J:xq W' g.bW (PK (mE g.Wt) a)) (I:W.grownBy W' (some g.bW)):
  ∃z,TkS w0 W' T A n cap V0 V Xs bs C hs z/\plW z.Wt=qc (plW g.Wt) a/\nV W g W' z/\(∀b,g.tg b= .w a->z.tg b= .x)/\∀b,b<W.heap.size->g.tg b= .w a->W'.heap[b]? =W.heap[b]? :=by
 have j:=pU I;have hS:∀b,some g.bW=some b->g.tg b= .m:=λb e=>by injection e with e;rw[<-e];exact h.gM
 let i:Tg->Tg:=λu=>match u with
  | .w c=>if c=a then .x else .w c
  |u=>u
 refine⟨{ g with Wt:=g.Wt.filter λt=>decide (t.1≠a),tg:=λb=>i (g.tg b) },{ tb:=h.tbT j (λb f e=>?_),vec:=h.vec,kn:=h.knT j (λb f e=>?_),its:=h.QY j (λb f e=>?_),came:=h.Iw j (λb f e=>?_),come:=h.Ip j (λb f e=>?_),ready:=h.zX j (λb f e=>?_),wm:=(Vk g.Wt a).symm▸J,wl:=λt q=>h.wlT j (λb f a e=>?_) t (dY.1 q).1,keys:=h.keys.sublist ((List.filter_sublist).map _),low:=h.QT j (λb f=>by injection f with f;rw[<-f];exact h.bbW),gT:=?_,gS:=?_,gM:=?_,gX:=?_,gC:=?_,go:=?_,gr:=?_,gw:=?_,bT:=h.bT,bbS:=h.bbS,bbW:=h.bbW },Yy _ _,⟨j.size,λb f e=>⟨j.block b f (λH=>?_),?_⟩⟩,λb e=>?_,λb f e=>j.block b f (λH=>?_)⟩
 case refine_8=>show i (g.tg T)= .t;rw[h.gT]
 case refine_9=>show i (g.tg g.bS)= .s;rw[h.gS]
 case refine_10=>show i (g.tg g.bW)= .m;rw[h.gM]
 case refine_11=>intro b f;show i (g.tg b)= .x;rw[h.gX b f]
 case refine_12=>intro b f;show i (g.tg b)= .c;rw[h.gC b f]
 case refine_13=>intro b f;show i (g.tg b)= .o;rw[h.go b f]
 case refine_14=>intro b f;show i (g.tg b)= .r;rw[h.gr b f]
 case refine_15=>
  intro t q b f;obtain⟨M,K⟩:=dY.1 q;show i (g.tg b)= .w t.1;rw[h.gw t M b f];show(if t.1=a then Tg.x else .w t.1)= .w t.1;rw[if_neg (by simpa using K)]
 case refine_16=>rw[hS b H] at e;cases e
 case refine_17=>show i (g.tg b)= .x;rw[e]
 case refine_18=>show i (g.tg b)= .x;rw[e];exact if_pos rfl
 case refine_19=>rw[hS b H] at e;cases e
 all_goals(rw[hS b f] at e;cases e)
end
end
section
def nW:List (I2×List Int)->Nat
 |[]=>0
 |t::r=>t.2.length+nW r
theorem Nu {p:List (I2×List Int)} {t:I2×List Int} (h:t∈p):t.2.length<=nW p:=by
 induction p with
 |nil=>cases h
 |cons s r ih=>
  rw[nW];rcases aE.1 h with rfl|h
  ·omega
  ·have:=ih h;omega
theorem XW (p q:List (I2×List Int)):nW (p++q)=nW p+nW q:=by
 induction p with
 |nil=>simp[nW]
 |cons s r ih=>rw[aJ,nW,nW,ih];omega
theorem XV {p:List (I2×List Int)} {a:I2} (i:Int) (hn:(p.map (·.1)).Nodup) (h:a∈p.map (·.1)):nW (p.map λt=>if t.1=a then(a,t.2++[i]) else t)=nW p+1:=by
 induction p with
 |nil=>cases h
 |cons s r ih=>
  have f:s.1∉r.map (·.1)/\(r.map (·.1)).Nodup:=dZ.1 hn;rw[bA,nW,nW];by_cases e:s.1=a
  ·rw[if_pos e]
   have:r.map (λt=>if t.1=a then(a,t.2++[i]) else t)=r:=by
        have j:r.map (λt=>if t.1=a then(a,t.2++[i]) else t)=r.map id:=bY λt q=>if_neg λu=>f.1 (by rw[e,<-u];exact cG.2 ⟨t,q,rfl⟩)
        rw[j,List.map_id]
   rw[this];simp;omega
  ·rw[if_neg e,ih f.2 (by
        rcases aE.1 h with j|j
        ·exact absurd j.symm e
        ·exact j)]
   omega
theorem XY {p:List (I2×List Int)} (a:I2) (i:Int) (hn:(p.map (·.1)).Nodup):nW (Bc p a i)=nW p+1:=by
 unfold Bc
 split
 ·rename_i h
  exact XV i hn h
 ·rw[XW];rfl
theorem UC {p:List (I2×List Int)} (a:I2) (hn:(p.map (·.1)).Nodup):nW (qc p a)+(lkP p a).length=nW p:=by
 induction p with
 |nil=>rfl
 |cons s r ih=>
  have f:s.1∉r.map (·.1)/\(r.map (·.1)).Nodup:=dZ.1 hn;by_cases e:s.1=a
  ·have j:qc (s::r) a=r:=by
        unfold qc;rw[List.filter_cons_of_neg (by simp[e])];refine List.filter_eq_self.2 λt q=>?_
        simp only[decide_eq_true_eq];intro u;exact f.1 (by rw[e,<-u];exact cG.2 ⟨t,q,rfl⟩)
   have i:lkP (s::r) a=s.2:=if_pos e;rw[j,i,nW];omega
  ·have j:qc (s::r) a=s::qc r a:=List.filter_cons_of_pos (by simp[e])
   have i:lkP (s::r) a=lkP r a:=if_neg e;have:=ih f.2;rw[j,i,nW,nW];omega
theorem Xz (a:List Int) (i:Int):(upA a.length (a++[i]).toArray).toList.length=a.length+1:=by
 have:=XB a.length (a++[i]).toArray;simpa using this
theorem Uk (V:List I2) (x:It) (i:Int) {p:List (I2×List Int)} (e:List Int) (hn:(p.map (·.1)).Nodup):(zG V x i p e).2.length+nW (zG V x i p e).1=e.length+nW p+1:=by
 unfold zG;cases awI V x with
 |none=>show(upA e.length (e++[i]).toArray).toList.length+nW p=_;rw[Xz];omega
 |some a=>show e.length+nW (Bc p a i)=_;rw[XY a i hn];omega
def nL (V:List I2) (Xs:List It):List Int->List (I2×List Int)×List Int->List (I2×List Int)×List Int
 |[],s=>s
 |m::r,s=>nL V Xs r (match Xs[m.toNat]? with
  |some x=>zG V x m s.1 s.2
  |none=>s)
theorem yQ (V:List I2) (Xs:List It):∀(l:List Int) (m:Int) (s:List (I2×List Int)×List Int) (x:It),Xs[m.toNat]? =some x->nL V Xs (l++[m]) s=zG V x m (nL V Xs l s).1 (nL V Xs l s).2
 |[],m,s,x,h=>by simp[nL,h]
 |k::l,m,s,x,h=>by
  rw[aJ,nL,nL,yQ V Xs l m _ x h]
theorem Gj (Wt:List (I2×au×List Int)):(plW Wt).map (·.1)=Wt.map (·.1):=by
 unfold plW;rw[du];rfl
section
variable {w0 W:ae} {T:Nat} {A:Option Addr} {n cap:Nat} {V0 V:List I2} {Xs:List It} {bs:List Bool} {C:List It} {hs:List Int} {g:TkV}
theorem TkS.box (h:TkS w0 W T A n cap V0 V Xs bs C hs g) (o:Obj):∃j,TkS w0 (W.alloc o) T A n cap V0 V Xs bs C hs j/\j.tg W.heap.size= .x/\j.Wt=g.Wt/\j.vX=g.vX/\j.vC=g.vC/\j.vo=g.vo/\j.bS=g.bS/\j.bW=g.bW/\nV W g (W.alloc o) j:=by
 have q:Ext W (W.alloc o):=(Ext.refl W).alloc o;have f:=h.ext q;have i:∀b,b<W.heap.size->(if b=W.heap.size then Tg.x else g.tg b)=g.tg b:=λb a=>if_neg ω
 obtain⟨z,D,_,H,_⟩:=h.kn;refine⟨{ g with tg:=λb=>if b=W.heap.size then .x else g.tg b },{ tb:=f.tb,vec:=f.vec,kn:=f.kn,its:=f.its,came:=f.came,come:=f.come,ready:=f.ready,wm:=f.wm,wl:=f.wl,keys:=f.keys,low:=f.low,gT:=(i T h.tb.lt).trans h.gT,gS:=(i _ H.lt).trans h.gS,gM:=(i _ h.wm.lt).trans h.gM,gX:=λb a=>(i b (jS.lt h.its b a).2).trans (h.gX b a),gC:=λb a=>(i b (bQ h.came b a).2).trans (h.gC b a),go:=λb a=>(i b (jS.lt h.come b a).2).trans (h.go b a),gr:=λb a=>(i b (kY.lt h.ready b a).2).trans (h.gr b a),gw:=λt u b a=>(i b (kY.lt (h.wl t u) b a).2).trans (h.gw t u b a),bT:=h.bT,bbS:=h.bbS,bbW:=h.bbW },if_pos rfl,rfl,rfl,rfl,rfl,rfl,rfl,q.size,λb a e=>⟨av q b a,(i b a).trans e⟩⟩
end
theorem ug.of {W W':ae} {q:Nat} {a b:Int} (h:ug W q a b) (e:W'.heap[q]? =W.heap[q]?):ug W' q a b:=e.trans h
theorem ug.ask {W W':ae} {g i:TkV} {q:Nat} {a b:Int} (h:ug W q a b) (f:nV W g W' i) (e:g.tg q= .x):ug W' q a b/\i.tg q= .x:=⟨h.of (f.2 q h.lt e).1,(f.2 q h.lt e).2⟩
theorem kY.ask {w0 W W':ae} {g I:TkV} {v:au} {l:List Int} (h:kY w0 W v l) (z:nV W g W' I) (e:∀b,v.ownBlock=some b->g.tg b= .x):kY w0 W' v l:=by
 refine⟨h.1,?_⟩;have u:=kY.lt h;rcases h.2 with H|⟨q,cap,i,j,a,f,r⟩
 ·exact .inl H
 ·exact .inr ⟨q,cap,i,j,a,(z.2 q (an.1 f).1 (e q (by rw[j];rfl))).1.trans f,r⟩
theorem agJ (w0 w:ae) (z:TypeId) (v:au) (l:List It) (f:jS w0 w v l) (H:w0.heap.size<=w.heap.size) (A:Option Addr) (m c:Nat) (r:List It) (hm:r.length=m) (I:ItS w A r) (N:l.length+r.length<=40000000):
  ∃a w',(dg #[67,67] z #[v,.slice A m c]).run pg w= .ok a w'/\jS w0 w' a (l++r)/\w.grownBy w' v.ownBlock/\(a.ownBlock=v.ownBlock\/a.ownBlock=some w.heap.size):=by
 obtain⟨i,hi,u,q,j⟩:=dK OO;subst hm;obtain⟨a,w',e,M,K,J⟩:=kL (P:=pg) w w0.heap.size 67 z 106 i _ 7 28 underlying67 hi u q j rfl ω v l.length _ f A r.length c _ (jR nU r) I (lI Ii r)
  (by unfold maxLen;omega) ω H
 refine⟨a,w',e,?_,K,J⟩;unfold jS jQ;rw[kQ,ag];exact M
theorem UD {e:Array Oper} {o:Oper} {a:Act} {w:ae} {K:Act->ae->Prop} {Q:Exit->Act->ae->Prop} {E:Prop} (H:o.guard=none) (s x:Operand)
  (i:o.op=Op.call { callee:=iz Builtin.append,args:= #[s,x],argTypes:= #[67,67] }) {v u j:au} {w':ae} (hs:a.eval s=v) (q:a.eval x=u)
  (f:(dg #[67,67] o.type #[v,u]).run pg w= .ok j w') (I:K (a.put o.dst j) w'):
  if bD o (eU e a.tmps)=true then iv pg o a w K Q else E:=by
 have z:bD o (eU e a.tmps)=true:=by simp[bD,H]
 rw[if_pos z];unfold iv;simp only[execOp,i,resolve,invoke,builtin,dG,gW,dc,fc,bA,dt,hs,q,f];exact I
theorem XZ {e:Array Oper} {o:Oper} {a:Act} {w:ae} {K:Act->ae->Prop} {Q:Exit->Act->ae->Prop} {E:Prop} (H:o.guard=none) (s x:Operand)
  (i:o.op=Op.call { callee:=iz Builtin.delete,args:= #[s,x],argTypes:= #[158,38] }) {v u j:au} {w':ae} (hs:a.eval s=v) (q:a.eval x=u)
  (f:(Builtin.delete_ #[158,38] o.type #[v,u]).run pg w= .ok j w') (I:K (a.put o.dst j) w'):
  if bD o (eU e a.tmps)=true then iv pg o a w K Q else E:=by
 have z:bD o (eU e a.tmps)=true:=by simp[bD,H]
 rw[if_pos z];unfold iv;simp only[execOp,i,resolve,invoke,builtin,dG,gW,dc,fc,bA,dt,hs,q,f];exact I
end
end
end Go.Proofs.YtncfhbpejchbfaaGreatDoor

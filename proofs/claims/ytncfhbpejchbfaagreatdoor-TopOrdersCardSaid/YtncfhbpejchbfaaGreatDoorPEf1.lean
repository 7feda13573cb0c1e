/-
  What opens a slice of structs that came in, of any kind; no claim stands here.
-/
import Derived.Deep.SlicePairs
import Derived.Lay
import Derived.Test.YtncfhbpejchbfaaGreatDoorPAf1
set_option linter.unusedVariables false
set_option linter.unusedSimpArgs false
set_option maxRecDepth 100000
open Go renaming MemPlace→io,TypeId→fb,Value→au
open Go.DataW renaming trod_int→gK,trod→gJ
open List renaming getElem?_eq_none→cU,mem_map→cG,mem_range→fP,range→fQ
open Nat renaming lt_or_ge→bL,mul_comm→gE
open Go.Proofs.Tryz
open Go.Proofs.Tryz renaming prog→pg
namespace Go.Proofs.YtncfhbpejchbfaaGreatDoor
open Go.ChangeShapes Go.WideShapes Go.ChangeAt Go.RowKit Go.Sort
variable {E T:fb} {s:Nat} {α:Type}
theorem xO [Inhabited α] {en:α->List au} (N:∀x,(en x).length=s) (h0:0<s) (hT:pg.underlying T=some (.slice E)) (ce:pg.cellsOf E=s) {good:α->Prop}
  {H:Type} {enc:fb×au->H} {W:World} {base:Nat} {sp:Nat->Bool} {hd:Bool} {v:au} {d:DataW H} {p:List io} (Pd:DataW H->Prop) (a4:∀es ss,d= .slice es ss->∀y∈es,Pd y)
  (a3:∀(fuel:Nat) (cs:List au) (x:DataW H×List io),cs.length=s->gJ enc pg W base sp hd fuel E cs=some x->Pd x.1->∃q,good q/\en q=cs)
  {fuel:Nat} (a2:gJ enc pg W base sp hd fuel T [v]=some (d,p)):
  ∃(A:Option Addr) (n cap:Nat) (l:List α),v= .slice A n cap/\l.length=n/\n<=cap/\n<=maxLen/\Row W A (flat en l)/\∀x∈l,good x:=by
 rcases Go.Deep.open_slice hT a2 with⟨e,_⟩|⟨a',len,cap,m,n,D,Pl,e,_,hl,hm,hmm,X,hi⟩
 ·injection e with e
  subst e;exact⟨_,_,_,[],rfl,rfl,Nat.le_refl _,ω,Row.nil _ _,ι⟩
 ·injection e with e
  subst e;have a5:len<=m:=by rw[hmm];split <;> omega
  have K:∀i,i<len->∃q:α,good q/\∀j u,(en q)[j]? =some u->W.cell? (a'.add (i*s+j))=some u:=by
   intro i a0;obtain⟨a6,h1,h2⟩:=hi i ω;rw[ce] at h1;obtain⟨_,a,hc⟩:=World.cells?_some h1;obtain⟨q,O,Z⟩:=a3 _ _ _ a h2 (a4 _ _ (Prod.mk.inj X).1 _ (cG.2 ⟨i,fP.2 a0,rfl⟩));refine⟨q,O,λj u f=>?_⟩;have hj:j<s:=by
        rcases bL j s with g|g
        ·exact g
        ·rw[cU (by rw[N];exact g)] at f;cases f
   have e0:=hc j hj;rw[Go.Deep.add_add] at e0;rw[e0,<-Z];exact f
  obtain⟨q,O⟩:=Go.Deep.choose_lt K;refine⟨some a',len,cap,(fQ len).map q,rfl,ι,hl,ω,?_,?_⟩
  ·intro U
   have a:0<len:=by
        rw[jR N] at U;simp at U;rcases Nat.eq_zero_or_pos len with z|z
        ·rw[z] at U;simp at U
        ·exact z
   obtain⟨u0,Y⟩:∃u,(en (q 0))[0]? =some u:=⟨_,List.getElem?_eq_getElem (by rw[N];exact h0)⟩;have g0:=(O 0 a).2 0 u0 Y;obtain⟨b,o,M⟩:=a';have J:M=none:=by simpa[Addr.add] using World.cell?_spot g0
   subst J;refine⟨b,o,rfl,λj u f=>?_⟩;have hj:j<len*s:=by
        rcases bL j (len*s) with k|k
        ·exact k
        ·rw[cU (by rw[jR N];simpa using k)] at f;cases f
   have I:j/s<len:=Nat.div_lt_of_lt_mul (by rw[gE];exact hj);have Q:((fQ len).map q)[j/s]? =some (q (j/s)):=by
        rw[List.getElem?_map,List.getElem?_range I];rfl
   have ej:j=j/s*s+j%s:=by rw[gE];exact(Nat.div_add_mod j s).symm
   rw[ej,Fp N Q (Nat.mod_lt _ h0)] at f;have:=(O (j/s) I).2 (j%s) u f;rw[tX] at this;rw[ej];exact this
  ·intro x X
   obtain⟨i,a1,rfl⟩:=cG.1 X;exact(O i (fP.1 a1)).1
theorem IV [Inhabited α] {en:α->List au} (M:∀x,(en x).length=s) (O:0<s) (I:pg.underlying T=some (.slice E)) (Q:pg.cellsOf E=s) {good:α->Prop}
  {H:Type} {enc:fb×au->H} {W:World} {base U:Nat} {u:Nat->Bool} {z:Bool} {r:Reach} {v:au} {d:DataW H} {p:List io} (j:DataW H->Prop) (f:∀J K,d= .slice J K->∀y∈J,j y)
  (e:∀(fuel:Nat) (i:List au) (x:DataW H×List io),i.length=s->gJ enc pg W base u z fuel E i=some x->j x.1->∃q,good q/\en q=i)
  (hv:Value.okWide pg W r U T v) (h:DataW.Trod enc pg W base u z T v d p):
  ∃(A:Option Addr) (n cap:Nat) (l:List α),v= .slice A n cap/\l.length=n/\n<=cap/\n<=maxLen/\Row W A (flat en l)/\∀x∈l,good x:=by
 obtain⟨a,len,cap,rfl⟩:=okWide_slice I hv;obtain⟨fuel,N⟩:=h;exact xO M O I Q j f e (v:= .slice a len cap) (fuel:=fuel) N
theorem Bl [Inhabited α] {en:α->List au} (u:∀x,(en x).length=s) (K:0<s) (z:pg.underlying T=some (.slice E)) (M:pg.cellsOf E=s) {good:α->Prop}
  {H:Type} {enc:fb×au->H} {W:World} {base N:Nat} {i:Nat->Bool} {j:Bool} {r:Reach} {v:au} {d:DataW H} {p:List io}
  (e:∀(fuel:Nat) (a:List au) (x:DataW H×List io),a.length=s->gJ enc pg W base i j fuel E a=some x->∃q,good q/\en q=a)
  (hv:Value.okWide pg W r N T v) (h:DataW.Trod enc pg W base i j T v d p):
  ∃(A:Option Addr) (n cap:Nat) (l:List α),v= .slice A n cap/\l.length=n/\n<=cap/\n<=maxLen/\Row W A (flat en l)/\∀x∈l,good x:=
 IV u K z M (λ_=>True) (λ_ _ _ _ _=>trivial) (λf a x J I _=>e f a x J I) hv h
theorem Hl {H:Type} {enc:fb×au->H} {W:World} {base:Nat} {O:Nat->Bool} {U:Bool} {fuel:Nat} {j i:au} {x:DataW H×List io} (h:gJ enc pg W base O U fuel 38 [j,i]=some x):
  ∃a b:Int,j=Vu a/\i=Vu b/\0<=a/\a<=4294967295/\0<=b/\b<=4294967295:=by
 obtain⟨xs,k,Y,Q,_,f,e⟩:=DataW.trod_struct underlying38 h
 match xs,f with
 |[y0,y1],_=>
  have I:=e 0 _ rfl;have z:=e 1 _ rfl;have X:pg.cellsOf 30=1:=κ
  simp[X] at I z;obtain⟨a,u,_,N⟩:=gK underlying30 I;obtain⟨b,q,_,M⟩:=gK underlying30 z;simp at u q;have K:=bounds_u32 N;have J:=bounds_u32 M;exact⟨a,b,u,q,K.1,K.2,J.1,J.2⟩
end Go.Proofs.YtncfhbpejchbfaaGreatDoor

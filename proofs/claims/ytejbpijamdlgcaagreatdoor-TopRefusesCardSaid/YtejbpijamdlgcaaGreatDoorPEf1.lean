/-
  What opens a slice of structs that came in, of any kind; no claim stands here.
-/
import Derived.Deep.SlicePairs
import Derived.Lay
import Derived.Test.YtejbpijamdlgcaaGreatDoorPAf1
set_option linter.unusedVariables false
set_option linter.unusedSimpArgs false
set_option maxRecDepth 100000
open Go renaming Value→aI
open Go.DataW renaming trod→mo
open Go.Value renaming okWide→lM
open List renaming getElem?_eq_none→eF,mem_map→dH,mem_range→jT,range→jm
open Nat renaming lt_or_ge→dD
namespace Go.Proofs.YtejbpijamdlgcaaGreatDoor
open Go.ChangeShapes Go.WideShapes Go.ChangeAt Go.RowKit Go.Sort
theorem Lc {Q:Type} [Inhabited Q] {en:Q->List aI} {s:Nat} (X:∀x,(en x).length=s) (h0:0<s) {T E:TypeId} (hT:Tryz.prog.underlying T=some (.slice E)) (ce:Tryz.prog.cellsOf E=s) {I:Q->Prop}
  {H:Type} {enc:TypeId×aI->H} {W:World} {base b0:Nat} {sp:Nat->Bool} {hd:Bool} {r:Reach} {v:aI} {d:DataW H} {p:List MemPlace} (Pd:DataW H->Prop) (a6:∀es ss,d= .slice es ss->∀y∈es,Pd y)
  (a5:∀(J:Nat) (cs:List aI) (x:DataW H×List MemPlace),cs.length=s->mo enc Tryz.prog W base sp hd J E cs=some x->Pd x.1->∃q,I q/\en q=cs)
  (hv:lM Tryz.prog W r b0 T v) (h:DataW.Trod enc Tryz.prog W base sp hd T v d p):
  ∃(A:Option Addr) (n cap:Nat) (l:List Q),v= .slice A n cap/\l.length=n/\n<=cap/\n<=maxLen/\Row W A (flat en l)/\∀x∈l,I x:=by
 obtain⟨a,len,cap,rfl⟩:=okWide_slice hT hv;obtain⟨J,hf⟩:=h;have a4:mo enc Tryz.prog W base sp hd J T [.slice a len cap]=some (d,p):=hf;rcases Go.Deep.open_slice hT a4 with⟨e,_⟩|⟨a',len',cap',m,n,D,Pl,e,_,hl,hm,hmm,hx,hi⟩
 ·injection e with e
  injection e with e1 e2 e3;subst e1;subst e2;subst e3;exact⟨_,_,_,[],rfl,rfl,Nat.le_refl _,ω,Row.nil _ _,ι⟩
 ·injection e with e
  injection e with e1 e2 e3;subst e1;subst e2;subst e3;have a7:len<=m:=by rw[hmm];split <;> omega
  have O:∀i,i<len->∃q:Q,I q/\∀j u,(en q)[j]? =some u->W.cell? (a'.add (i*s+j))=some u:=by
   intro i a2;obtain⟨a8,h1,h2⟩:=hi i ω;rw[ce] at h1;obtain⟨_,f,hc⟩:=World.cells?_some h1;obtain⟨q,Y,a1⟩:=a5 _ _ _ f h2 (a6 _ _ (Prod.mk.inj hx).1 _ (dH.2 ⟨i,jT.2 a2,rfl⟩));refine⟨q,Y,λj u K=>?_⟩;have hj:j<s:=by
        rcases dD j s with g|g
        ·exact g
        ·rw[eF (by rw[X];exact g)] at K;cases K
   have e0:=hc j hj;rw[Go.Deep.add_add] at e0;rw[e0,<-a1];exact K
  obtain⟨q,Y⟩:=Go.Deep.choose_lt O;refine⟨some a',len,cap,(jm len).map q,rfl,ι,hl,ω,?_,?_⟩
  ·intro hp
   have f:0<len:=by
        rw[oV X] at hp;simp at hp;rcases Nat.eq_zero_or_pos len with z|z
        ·rw[z] at hp;simp at hp
        ·exact z
   obtain⟨u0,a0⟩:∃u,(en (q 0))[0]? =some u:=⟨_,List.getElem?_eq_getElem (by rw[X];exact h0)⟩;have g0:=(Y 0 f).2 0 u0 a0;obtain⟨b,o,U⟩:=a';have N:U=none:=by simpa[Addr.add] using World.cell?_spot g0
   subst N;refine⟨b,o,rfl,λj u K=>?_⟩;have hj:j<len*s:=by
        rcases dD j (len*s) with k|k
        ·exact k
        ·rw[eF (by rw[oV X];simpa using k)] at K;cases K
   have M:j/s<len:=Nat.div_lt_of_lt_mul (by rw[Nat.mul_comm];exact hj);have Z:((jm len).map q)[j/s]? =some (q (j/s)):=by
        rw[List.getElem?_map,List.getElem?_range M];rfl
   have ej:j=j/s*s+j%s:=by rw[Nat.mul_comm];exact(Nat.div_add_mod j s).symm
   rw[ej,E5 X Z (Nat.mod_lt _ h0)] at K;have:=(Y (j/s) M).2 (j%s) u K;rw[wU] at this;rw[ej];exact this
  ·intro x hx
   obtain⟨i,a3,rfl⟩:=dH.1 hx;exact(Y i (jT.1 a3)).1
theorem NU {j:Type} [Inhabited j] {z:j->List aI} {s:Nat} (K:∀x,(z x).length=s) (Q:0<s) {T E:TypeId} (M:Tryz.prog.underlying T=some (.slice E)) (U:Tryz.prog.cellsOf E=s) {a:j->Prop}
  {H:Type} {enc:TypeId×aI->H} {W:World} {base X:Nat} {I:Nat->Bool} {J:Bool} {r:Reach} {v:aI} {d:DataW H} {p:List MemPlace}
  (u:∀(e:Nat) (i:List aI) (x:DataW H×List MemPlace),i.length=s->mo enc Tryz.prog W base I J e E i=some x->∃q,a q/\z q=i)
  (hv:lM Tryz.prog W r X T v) (h:DataW.Trod enc Tryz.prog W base I J T v d p):
  ∃(A:Option Addr) (n cap:Nat) (l:List j),v= .slice A n cap/\l.length=n/\n<=cap/\n<=maxLen/\Row W A (flat z l)/\∀x∈l,a x:=
 Lc K Q M U (λ_=>True) (λ_ _ _ _ _=>trivial) (λf i x O N _=>u f i x O N) hv h
end Go.Proofs.YtejbpijamdlgcaaGreatDoor

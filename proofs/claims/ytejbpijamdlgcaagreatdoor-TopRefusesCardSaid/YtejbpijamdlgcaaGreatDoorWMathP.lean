/-
  Numbers and texts as bytes, in plain lists: no memory; no claim stands here.
-/
import Derived.Test.YtejbpijamdlgcaaGreatDoorClnP
import Derived.Lib.ValidLaws
import Derived.Lib.BitFns
set_option linter.unusedVariables false
set_option linter.unusedSimpArgs false
open List renaming getElem?_eq_getElem→aO,length_cons→aH,take_of_length_le→bI
open UInt8 renaming ofNat→dW
namespace Go.Proofs.YtejbpijamdlgcaaGreatDoor
open Go.Lib
def be (v:Nat):Nat->List UInt8
 |0=>[]
 |k+1=>dW (v/256^k)::be v k
def Ib (v:Nat):Nat:=if v=0 then 0 else if v<256 then 1 else if v<65536 then 2 else if v<16777216 then 3 else 4
def vT (v:Nat):List UInt8:=dW (Ib v)::be v (Ib v)
def Bd (l:List UInt8):Nat:=l.foldl (λv x=>256*v+x.toNat) 0
def uJ (l:List UInt8) (p:Int):Option (Nat×Nat):=
 if p<0\/(l.length:Int)<=p then none
 else if 4<(l.getD p.toNat 0).toNat\/(l.drop (p.toNat+1)).length<(l.getD p.toNat 0).toNat\/(0<(l.getD p.toNat 0).toNat/\((l.drop (p.toNat+1)).getD 0 0).toNat=0) then none
 else some (Bd ((l.drop (p.toNat+1)).take (l.getD p.toNat 0).toNat),(l.getD p.toNat 0).toNat+1)
def FV (s:List UInt8):List UInt8:=vT s.length++s
def Dp (l:List UInt8) (p:Int):Option (List UInt8×Nat):=
 match uJ l p with
 |none=>none
 |some (z,n)=>if(l.drop (p.toNat+n)).length<z then none else if validD ((l.drop (p.toNat+n)).take z) then some ((l.drop (p.toNat+n)).take z,n+z) else none
theorem ab6 (v:Nat):∀k,(be v k).length=k
 |0=>rfl
 |k+1=>by rw[be,aH,ab6 v k]
theorem OA (v:Nat):Ib v<=4:=by unfold Ib;(repeat' split) <;> omega
theorem CZ (n:Nat):(dW n).toNat=n%256:=ι
theorem QB (v:Nat):(vT v).length=Ib v+1:=by rw[vT,aH,ab6]
theorem Sd (v:Nat) (h:v<4294967296):(bitLen v+7)/8=Ib v:=by
 have key:∀x,x<256->0<x->1<=bitLen x/\bitLen x<=8:=λx f a=>⟨by rw[bitLen_half x ω ω];omega,bitLen_le8 ⟨x,f⟩⟩
 unfold Ib
 split
 ·next e=>subst e;decide
 split
 ·next a h1=>have:=key v h1 ω;omega
 split
 ·next a h1 h2=>rw[bitLen_shift8 v ω ω];have:=key (v/256) ω ω;omega
 split
 ·next a h1 h2 h3=>rw[bitLen_shift16 v ω ω];have:=key (v/65536) ω ω;omega
 ·next a h1 h2 h3=>rw[bitLen_shift24 v ω ω];have:=key (v/16777216) ω ω;omega
theorem agz (v k:Nat):be (v/256) k++[dW v]=be v (k+1):=by
 induction k with
 |zero=>simp[be]
 |succ k ih=>
  rw[be,List.cons_append,ih,Nat.div_div_eq_div_mul,<-Nat.pow_succ'];rfl
theorem GR (l:List UInt8) (x:UInt8):Bd (l++[x])=256*Bd l+x.toNat:=by simp[Bd]
theorem LG {l:List UInt8} {k:Nat} (h:k<l.length):Bd (l.take (k+1))=256*Bd (l.take k)+(l.getD k 0).toNat:=by
 rw[List.take_add_one,aO h];simp only[Option.toList_some,List.getD,aO h,Option.getD_some];exact GR _ _
theorem Ik:∀(k:Nat) (l:List UInt8),Bd (l.take k)<256^k
 |0,l=>by simp[Bd]
 |k+1,l=>by
  rcases Nat.lt_or_ge k l.length with h|h
  ·have:=Ik k l
   have a:=(l.getD k 0).toNat_lt;rw[LG h,Nat.pow_succ];omega
  ·have:=Ik k l
   rw[bI ω];rw[bI h] at this;rw[Nat.pow_succ];omega
theorem Nr:∀(k:Nat) (l:List UInt8),l.length=k->be (Bd l) k=l:=by
 intro k
 induction k with
 |zero=>intro l h;rw[List.eq_nil_of_length_eq_zero h];rfl
 |succ k ih=>
  intro l h;obtain⟨m,x,rfl⟩:∃m x,l=m++[x]:=⟨l.dropLast,l.getLast (by intro e;rw[e] at h;cases h),(List.dropLast_concat_getLast _).symm⟩;have a:m.length=k:=by simpa using h
  have f:=x.toNat_lt;rw[<-agz,GR,show(256*Bd m+x.toNat)/256=Bd m by omega,ih m a]
  congr 2
  apply UInt8.toNat_inj.1;rw[CZ];omega
theorem ade {v k:Nat} (f:k<=4) (e:v<256^k) (a:0<k->256^(k-1)<=v):Ib v=k:=by
 have:k=0\/k=1\/k=2\/k=3\/k=4:=ω
 unfold Ib;rcases this with rfl|rfl|rfl|rfl|rfl <;> simp at e a <;> repeat' split
 all_goals omega
theorem xB {l:List UInt8} {p:Nat} {v n:Nat} (h:uJ l p=some (v,n)):vT v=(l.drop p).take n/\p+n<=l.length/\0<n/\n<=5/\v<4294967296:=by
 unfold uJ at h;rw[Int.toNat_natCast] at h
 split at h
 ·cases h
 next h1=>
 split at h
 ·cases h
 next h2=>
 injection h with h;injection h with hv hn;obtain⟨f,z⟩:∃f,(l.getD p 0).toNat=f:=⟨_,rfl⟩;rw[z] at h2 hv hn;have H:p<l.length:=ω
 have i:f<=4/\f<=(l.drop (p+1)).length:=ω
 have a:((l.drop (p+1)).take f).length=f:=by rw[List.length_take];omega
 have j:v<256^f:=by rw[<-hv];have:=Ik f (l.drop (p+1));exact this
 have u:0<f->256^(f-1)<=v:=by
  intro K;have q:((l.drop (p+1)).getD 0 0).toNat≠0:=λe=>h2 (.inr (.inr ⟨K,e⟩))
  obtain⟨k,rfl⟩:∃k,f=k+1:=⟨f-1,ω⟩;have I:=Nr (k+1) _ a;rw[hv,be] at I;have hh:dW (v/256^k)=(l.drop (p+1)).getD 0 0:=by
   have:=congrArg (λm=>m.getD 0 0) I;simp only[List.getD_cons_zero] at this;rw[this,List.getD,List.getD,List.getElem?_take,if_pos ω]
  rw[<-hh,CZ] at q;rw[Nat.add_sub_cancel];have:0<v/256^k:=by
   rcases Nat.eq_zero_or_pos (v/256^k) with e|e
   ·rw[e] at q;exact absurd rfl q
   ·exact e
  exact(Nat.div_pos_iff.1 this).2
 have J:=ade i.1 j u;have M:f+1<=5:=ω
 refine⟨?_,?_,ω,ω,Nat.lt_of_lt_of_le j (by calc 256^f<=256^4:=Nat.pow_le_pow_right ω i.1
   _=4294967296:=by rfl)⟩
 ·rw[vT,J,<-hv,Nr f _ a,<-hn,List.drop_eq_getElem_cons H,List.take_succ_cons]
  congr 1
  have:l.getD p 0=l[p]:=by simp[List.getD,H]
  rw[this] at z;apply UInt8.toNat_inj.1;rw[CZ,z];omega
 ·rw[List.length_drop] at i;omega
end Go.Proofs.YtejbpijamdlgcaaGreatDoor

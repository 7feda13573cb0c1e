/-
  Numbers and texts as bytes, in plain lists: no memory; no claim stands here.
-/
import Derived.Test.YtncfhbpejchbfaaGreatDoorClnP
import Derived.Lib.ValidLaws
import Derived.Lib.BitFns
set_option linter.unusedVariables false
set_option linter.unusedSimpArgs false
open Int renaming toNat_natCast→bJ
open List renaming append_assoc→aK,getD_cons_zero→cP,getD→gD,getElem?_eq_getElem→ay,length_append→ag,length_cons→ar,take_of_length_le→aU
open Nat renaming mul_comm→gE,pow_succ→fY,zero_add→aW
open UInt8 renaming ofNat→bR
namespace Go.Proofs.YtncfhbpejchbfaaGreatDoor
open Go.Lib
def be (v:Nat):Nat->List UInt8
 |0=>[]
 |k+1=>bR (v/256^k)::be v k
def rG (v:Nat):Nat:=if v=0 then 0 else if v<256 then 1 else if v<65536 then 2 else if v<16777216 then 3 else 4
def jX (v:Nat):List UInt8:=bR (rG v)::be v (rG v)
def sP (l:List UInt8):Nat:=l.foldl (λv x=>256*v+x.toNat) 0
def oQ (l:List UInt8) (p:Int):Option (Nat×Nat):=
 if p<0\/(l.length:Int)<=p then none
 else if 4<(l.getD p.toNat 0).toNat\/(l.drop (p.toNat+1)).length<(l.getD p.toNat 0).toNat\/(0<(l.getD p.toNat 0).toNat/\((l.drop (p.toNat+1)).getD 0 0).toNat=0) then none
 else some (sP ((l.drop (p.toNat+1)).take (l.getD p.toNat 0).toNat),(l.getD p.toNat 0).toNat+1)
def sF (s:List UInt8):List UInt8:=jX s.length++s
def xK (l:List UInt8) (p:Int):Option (List UInt8×Nat):=
 match oQ l p with
 |none=>none
 |some (z,n)=>if(l.drop (p.toNat+n)).length<z then none else if validD ((l.drop (p.toNat+n)).take z) then some ((l.drop (p.toNat+n)).take z,n+z) else none
theorem D7 (v:Nat):∀k,(be v k).length=k
 |0=>rfl
 |k+1=>by rw[be,ar,D7 v k]
variable {v:Nat}
theorem zu (v:Nat):rG v<=4:=by unfold rG;(repeat' split) <;> omega
theorem sK (n:Nat):(bR n).toNat=n%256:=ι
theorem yh (v:Nat):(jX v).length=rG v+1:=by rw[jX,ar,D7]
theorem Tn (h:v<4294967296):v<256^rG v:=by unfold rG;(repeat' split) <;> (simp;try omega)
theorem abA (h:0<rG v):256^(rG v-1)<=v:=by
 unfold rG at h⊢
 (repeat' split) <;> simp_all <;> omega
theorem PZ (v:Nat) (h:v<4294967296):(bitLen v+7)/8=rG v:=by
 have key:∀x,x<256->0<x->1<=bitLen x/\bitLen x<=8:=λx f a=>⟨by rw[bitLen_half x ω ω];omega,bitLen_le8 ⟨x,f⟩⟩
 unfold rG
 split
 ·next e=>subst e;decide
 split
 ·next a h1=>have:=key v h1 ω;omega
 split
 ·next a h1 h2=>rw[bitLen_shift8 v ω ω];have:=key (v/256) ω ω;omega
 split
 ·next a h1 h2 h3=>rw[bitLen_shift16 v ω ω];have:=key (v/65536) ω ω;omega
 ·next a h1 h2 h3=>rw[bitLen_shift24 v ω ω];have:=key (v/16777216) ω ω;omega
theorem aeR (v k:Nat):be (v/256) k++[bR v]=be v (k+1):=by
 induction k with
 |zero=>simp[be]
 |succ k ih=>
  rw[be,List.cons_append,ih,Nat.div_div_eq_div_mul,<-Nat.pow_succ'];rfl
theorem Ee (l:List UInt8) (x:UInt8):sP (l++[x])=256*sP l+x.toNat:=by simp[sP]
theorem Jc {l:List UInt8} {k:Nat} (h:k<l.length):sP (l.take (k+1))=256*sP (l.take k)+(l.getD k 0).toNat:=by
 rw[List.take_add_one,ay h];simp only[Option.toList_some,gD,ay h,Option.getD_some];exact Ee _ _
theorem EX:∀(k:Nat) (l:List UInt8),sP (l.take k)<256^k
 |0,l=>by simp[sP]
 |k+1,l=>by
  rcases Nat.lt_or_ge k l.length with h|h
  ·have:=EX k l
   have a:=(l.getD k 0).toNat_lt;rw[Jc h,fY];omega
  ·have:=EX k l
   rw[aU ω];rw[aU h] at this;rw[fY];omega
theorem acz (v k:Nat):sP (be v k)=v%256^k:=by
 have key:∀(l:List UInt8) (a:Nat),l.foldl (λv x=>256*v+x.toNat) a=a*256^l.length+sP l:=by
  intro l
  induction l with
  |nil=>intro a;simp[sP]
  |cons x l ih=>
   intro a;simp only[List.foldl_cons,ar];rw[ih,show sP (x::l)=(256*0+x.toNat)*256^l.length+sP l from ih _];rw[fY,Nat.mul_zero,aW,Nat.add_mul,Nat.add_assoc]
   congr 1
   rw[gE 256 a,Nat.mul_assoc,gE 256]
 induction k with
 |zero=>simp[be,sP,Nat.mod_one]
 |succ k ih=>
  rw[be];show(be v k).foldl _ (256*0+(bR (v/256^k)).toNat)=_;rw[key,D7,ih,sK,Nat.mul_zero,aW,fY,Nat.mod_mul,gE,Nat.add_comm]
theorem acB (i:0<rG v) (h:v<4294967296):((be v (rG v)).getD 0 0).toNat≠0:=by
 obtain⟨k,f⟩:∃k,rG v=k+1:=⟨rG v-1,ω⟩;have e:=Tn h;have a:=abA i;rw[f] at e a⊢;rw[be];simp only[cP];rw[sK];simp only[Nat.add_sub_cancel] at a;have q:v/256^k<256:=by rw[Nat.div_lt_iff_lt_mul (Nat.pow_pos ω),gE,<-fY];exact e
 have j:0<v/256^k:=Nat.div_pos a (Nat.pow_pos ω);omega
theorem BX (a b:List UInt8) (h:v<4294967296):oQ (a++jX v++b) a.length=some (v,(jX v).length):=by
 have j:(a++jX v++b).drop (a.length+1)=be v (rG v)++b:=by
  rw[aK,<-List.drop_drop,List.drop_left];rfl
 have i:((a++jX v++b).getD a.length 0).toNat=rG v:=by
  have:(a++jX v++b).getD a.length 0=bR (rG v):=by
   rw[aK,gD,List.getElem?_append_right (Nat.le_refl _),Nat.sub_self];rfl
  rw[this,sK];have:=zu v;omega
 have q:=zu v;unfold oQ;rw[bJ,j,i,if_neg (by rw[ag,ag,yh];omega),if_neg,yh]
 ·rw[List.take_left' (D7 v _),acz,Nat.mod_eq_of_lt (Tn h)]
 ·rw[ag,D7]
  rintro(e|e|⟨e,f⟩)
  ·omega
  ·omega
  ·refine acB e h ?_
   have:((be v (rG v)++b).getD 0 0)=(be v (rG v)).getD 0 0:=by
     rw[gD,List.getElem?_append_left (by rw[D7];exact e)];rfl
   rw[this] at f;exact f
theorem Kr:∀(k:Nat) (l:List UInt8),l.length=k->be (sP l) k=l:=by
 intro k
 induction k with
 |zero=>intro l h;rw[List.eq_nil_of_length_eq_zero h];rfl
 |succ k ih=>
  intro l h;obtain⟨m,x,rfl⟩:∃m x,l=m++[x]:=⟨l.dropLast,l.getLast (by intro e;rw[e] at h;cases h),(List.dropLast_concat_getLast _).symm⟩;have hm:m.length=k:=by simpa using h
  have a:=x.toNat_lt;rw[<-aeR,Ee,show(256*sP m+x.toNat)/256=sP m by omega,ih m hm]
  congr 2
  apply UInt8.toNat_inj.1;rw[sK];omega
theorem abz {k:Nat} (f:k<=4) (e:v<256^k) (a:0<k->256^(k-1)<=v):rG v=k:=by
 have:k=0\/k=1\/k=2\/k=3\/k=4:=ω
 unfold rG;rcases this with rfl|rfl|rfl|rfl|rfl <;> simp at e a <;> repeat' split
 all_goals omega
theorem sM {l:List UInt8} {p:Nat} {n:Nat} (h:oQ l p=some (v,n)):jX v=(l.drop p).take n/\p+n<=l.length/\0<n/\n<=5/\v<4294967296:=by
 unfold oQ at h;rw[bJ] at h
 split at h
 ·cases h
 next h1=>
 split at h
 ·cases h
 next h2=>
 injection h with h;injection h with hv hn;obtain⟨f,z⟩:∃f,(l.getD p 0).toNat=f:=⟨_,rfl⟩;rw[z] at h2 hv hn;have H:p<l.length:=ω
 have i:f<=4/\f<=(l.drop (p+1)).length:=ω
 have a:((l.drop (p+1)).take f).length=f:=by rw[List.length_take];omega
 have j:v<256^f:=by rw[<-hv];have:=EX f (l.drop (p+1));exact this
 have u:0<f->256^(f-1)<=v:=by
  intro K;have q:((l.drop (p+1)).getD 0 0).toNat≠0:=λe=>h2 (.inr (.inr ⟨K,e⟩))
  obtain⟨k,rfl⟩:∃k,f=k+1:=⟨f-1,ω⟩;have I:=Kr (k+1) _ a;rw[hv,be] at I;have hh:bR (v/256^k)=(l.drop (p+1)).getD 0 0:=by
   have:=congrArg (λm=>m.getD 0 0) I;simp only[cP] at this;rw[this,gD,gD,List.getElem?_take,if_pos ω]
  rw[<-hh,sK] at q;rw[Nat.add_sub_cancel];have:0<v/256^k:=by
   rcases Nat.eq_zero_or_pos (v/256^k) with e|e
   ·rw[e] at q;exact absurd rfl q
   ·exact e
  exact(Nat.div_pos_iff.1 this).2
 have J:=abz i.1 j u;have M:f+1<=5:=ω
 refine⟨?_,?_,ω,ω,Nat.lt_of_lt_of_le j (by calc 256^f<=256^4:=Nat.pow_le_pow_right ω i.1
   _=4294967296:=by rfl)⟩
 ·rw[jX,J,<-hv,Kr f _ a,<-hn,List.drop_eq_getElem_cons H,List.take_succ_cons]
  congr 1
  have:l.getD p 0=l[p]:=by simp[gD,H]
  rw[this] at z;apply UInt8.toNat_inj.1;rw[sK,z];omega
 ·rw[List.length_drop] at i;omega
theorem ZJ (a b:List UInt8) {s:List UInt8} (e:s.length<4294967296) (hv:validD s=true):xK (a++sF s++b) a.length=some (s,(sF s).length):=by
 unfold xK;rw[show a++sF s++b=a++jX s.length++(s++b) by rw[sF];simp,BX _ _ e];simp only[bJ];have f:(a++jX s.length++(s++b)).drop (a.length+(jX s.length).length)=s++b:=by
  rw[<-ag,List.drop_left]
 rw[f,List.take_left,hv,if_neg (by rw[ag];omega),if_pos rfl,sF,ag]
end Go.Proofs.YtncfhbpejchbfaaGreatDoor

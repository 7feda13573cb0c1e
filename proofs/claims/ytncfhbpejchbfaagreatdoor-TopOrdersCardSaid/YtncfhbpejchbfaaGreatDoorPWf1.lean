/-
  Lemmas of this seat; no claim.
-/
import Derived.Test.YtncfhbpejchbfaaGreatDoorPAf1
import Derived.Test.YtncfhbpejchbfaaGreatDoorPMn1
set_option linter.unusedVariables false
set_option linter.unusedSimpArgs false
set_option maxHeartbeats 1000000
open Go renaming bodyPost_ret→aB,results→cg
open Go.Lib renaming hid→ac
open List renaming length_drop→bk
open Option renaming map_some→gF
open Go.Proofs.Tryz
open Go.Proofs.Tryz renaming prog→pg
namespace Go.Proofs.YtncfhbpejchbfaaGreatDoor
open Go.ChangeShapes Go.WideShapes Go.ChangeAt Go.RowKit Go.Sort
abbrev Ie:Value:= .iface 56 (.int .i64 2)
theorem abZ {l:List UInt8} {p:Nat} (e:p<l.length) {f:Nat} (a:(l.getD p 0).toNat=f):
  oQ l p=if 4<f\/(l.drop (p+1)).length<f\/(0<f/\((l.drop (p+1)).getD 0 0).toNat=0) then none else some (sP ((l.drop (p+1)).take f),f+1):=by
 unfold oQ;rw[Int.toNat_natCast,a,if_neg ω]
theorem Pq {l:List UInt8} {p:Int} (a:p<0\/(l.length:Int)<=p):oQ l p=none:=by
 unfold oQ;rw[if_pos a]
theorem abo {V x:Nat} (e:V<16777216) (a:x<256):bits .or .u32 ((V:Int)*256) x=((V*256+x:Nat):Int):=by
 have:=u32_or_nat (V*256) x ω ω;rw[Int.natCast_mul] at this;refine Eq.trans this ?_;have h:=Nat.two_pow_add_eq_or_of_lt (i:=8) (b:=x) a V;rw[show 2^8=256 from rfl,Nat.mul_comm] at h;rw[h]
theorem abX (A:Option Addr) (n c:Nat) (p:Int) (w:World) (hn:n<=12000000) (a:p<0\/(n:Int)<=p):
  Calls pg 128 #[.slice A n c,Vi p] w λe w'=>e= .returned (.tuple #[Vu 0,Vi 0,Ie])/\Ext w w':=by
 by_cases i:p<0
 ·go_enter func128,ntmps128
  go_wp2;exact aB (v:= .tuple #[Vu 0,Vi 0,Ie]) (by simp[cg,results128,go_sem]) rfl ⟨rfl,Ext.refl _⟩
 ·have f:(n:Int)<=p:=ω
  go_enter func128,ntmps128;go_wp2;exact aB (v:= .tuple #[Vu 0,Vi 0,Ie]) (by simp[cg,results128,go_sem]) rfl ⟨rfl,Ext.refl _⟩
theorem abY (A:Option Addr) (n c p f:Nat) (l:List UInt8) (w:World) (u:Bys w A l) (z:l.length=n) (K:n<=c) (hn:n<=12000000) (J:p<n) (i:(l.getD p 0).toNat=f)
  (q:4<f\/n-(p+1)<f):Calls pg 128 #[.slice A n c,Vi p] w λe w'=>e= .returned (.tuple #[Vu 0,Vi 0,Ie])/\Ext w w':=by
 obtain⟨b,o,rfl,a⟩:=u.at (k:=p) ω;have H:=JV (some ⟨b,o,none⟩) n c (p+1) ω ((p:Int)+1) ω;have I:f<256:=by rw[<-i];exact(l.getD p 0).toNat_lt
 rw[Vb,i] at a;clear u i z;go_enter func128,ntmps128;go_wp2
 go_quiet(fail)
 by_cases M:4<f
 ·go_wp2
  exact aB (v:= .tuple #[Vu 0,Vi 0,Ie]) (by simp[cg,results128,go_sem]) rfl ⟨rfl,(Ext.refl _).drewN _⟩
 ·have j:n-(p+1)<f:=ω
  go_wp2;exact aB (v:= .tuple #[Vu 0,Vi 0,Ie]) (by simp[cg,results128,go_sem]) rfl ⟨rfl,(Ext.refl _).drewN _⟩
theorem ZH (A:Option Addr) (n c p f:Nat) (l:List UInt8) (w:World) (q:Bys w A l) (I:l.length=n) (K:n<=c) (hn:n<=12000000) (J:p+1<n) (H:(l.getD p 0).toNat=f)
  (N:0<f) (M:f<=4) (z:f<=n-(p+1)) (u:(l.getD (p+1) 0).toNat=0):Calls pg 128 #[.slice A n c,Vi p] w λe w'=>e= .returned (.tuple #[Vu 0,Vi 0,Ie])/\Ext w w':=by
 obtain⟨b,o,rfl,i⟩:=q.at (k:=p) ω;have a:=q.all (p+1) ω;have j:=JV (some ⟨b,o,none⟩) n c (p+1) ω ((p:Int)+1) ω;have hcut:oq (some ⟨b,o,none⟩) c (p+1) 1=some ⟨b,o+(p+1),none⟩:=by unfold oq;rw[if_neg ω,gF,tX,Nat.mul_one]
 rw[hcut] at j;rw[Vb,H] at i;rw[Vb,u] at a;clear q H I u hcut;go_enter func128,ntmps128;go_wp2
 go_quiet(fail)
 go_wp2;exact aB (v:= .tuple #[Vu 0,Vi 0,Ie]) (by simp[cg,results128,go_sem]) rfl ⟨rfl,(Ext.refl _).drewN _⟩
theorem HZ (A:Option Addr) (n c p:Nat) (l:List UInt8) (w:World) (z:Bys w A l) (I:l.length=n) (K:n<=c) (hn:n<=12000000) (J:p<n) (u:(l.getD p 0).toNat=0):
  Calls pg 128 #[.slice A n c,Vi p] w λe w'=>e= .returned (.tuple #[Vu 0,Vi 1,.nilIface])/\Ext w w':=by
 obtain⟨b,o,rfl,a⟩:=z.at (k:=p) ω;have j:=JV (some ⟨b,o,none⟩) n c (p+1) ω ((p:Int)+1) ω;obtain⟨q,f⟩:∃q,oq (some ⟨b,o,none⟩) c (p+1) 1=q:=⟨_,rfl⟩;rw[f] at j;have H:=acU q (n-(p+1)) (c-(p+1)) 0 ω 0 rfl;rw[Vb,u] at a;clear z u I f;go_enter func128,ntmps128;go_wp2
 go_quiet(fail)
 go_wp2
 go_loop [9,53] (λv i=>v=Vu 0/\i=Vi 0) (λ_ _=>0)
 case atStart=>exact⟨rfl,rfl⟩
 case round=>
  obtain⟨rfl,rfl⟩:=hrel;go_wp2;exact aB (v:= .tuple #[Vu 0,Vi 1,.nilIface]) (by simp[cg,results128,go_sem]) rfl ⟨rfl,(Ext.refl _).drewN _⟩
theorem Wi (A:Option Addr) (n c p f:Nat) (l:List UInt8) (w:World) (I:Bys w A l) (U:l.length=n) (hc:n<=c) (hn:n<=12000000) (hp:p+1<n) (W:(l.getD p 0).toNat=f)
  (h0:0<f) (h4:f<=4) (Q:f<=n-(p+1)) (X:(l.getD (p+1) 0).toNat≠0):Calls pg 128 #[.slice A n c,Vi p] w λe w'=>e= .returned (.tuple #[Vu (sP ((l.drop (p+1)).take f)),Vi ((f+1:Nat):Int),.nilIface])/\Ext w w':=by
 obtain⟨b,o,rfl,q⟩:=I.at (k:=p) ω;have j:=I.all (p+1) ω;have K:=JV (some ⟨b,o,none⟩) n c (p+1) ω ((p:Int)+1) ω;have hcut:oq (some ⟨b,o,none⟩) c (p+1) 1=some ⟨b,o+(p+1),none⟩:=by unfold oq;rw[if_neg ω,gF,tX,Nat.mul_one]
 rw[hcut] at K;have Y:=acU (some ⟨b,o+(p+1),none⟩) (n-(p+1)) (c-(p+1)) f ω f rfl;have J:((((l.getD (p+1) 0).toNat:Nat):Int)==0)=false:=by rw[beq_eq_false_iff_ne];omega
 have M:=ac I;have u:=ac U;rw[Vb,W] at q;rw[Vb] at j;generalize(l.getD (p+1) 0).toNat=z1 at J j;clear I W U X hcut;go_enter func128,ntmps128;go_wp2
 go_quiet(fail)
 go_wp2
 go_loop [9,53] (λv i=>∃k:Nat,k<=f/\v=Vu (sP ((l.drop (p+1)).take k))/\i=Vi k) (λ_ i=>f-(intOf i).toNat)
 case atStart=>exact⟨0,ω,rfl,rfl⟩
 case round=>
  obtain⟨k,hk,rfl,rfl⟩:=hrel;by_cases a0:k<f
  ·have z:=M.out.all (p+1+k) (by rw[u.out];omega)
   rw[<-Nat.add_assoc,Vb] at z;have N:=EX k (l.drop (p+1));have H:sP ((l.drop (p+1)).take k)<16777216:=Nat.lt_of_lt_of_le N (by
        calc 256^k<=256^3:=Nat.pow_le_pow_right ω ω
         _=16777216:=by rfl)
   have a:=ac (Jc (l:=l.drop (p+1)) (k:=k) (by rw[bk,u.out];omega));rw[Lib.getD_dropU] at a;have O:=(l.getD (p+1+k) 0).toNat_lt;generalize(l.getD (p+1+k) 0).toNat=x at z a O;generalize sP ((l.drop (p+1)).take k)=V at H a N⊢;clear N;have Z:=abo H O;go_wp2
   go_round
   case rel=>exact⟨k+1,ω,congrArg (Value.int .u32) (by rw[a.out];omega),ν⟩
   case measure=>simp[intOf];omega
  ·obtain rfl:k=f:=ω
   go_wp2;exact aB (v:= .tuple #[Vu (sP ((l.drop (p+1)).take k)),Vi ((k+1:Nat):Int),.nilIface]) (by simp[cg,results128,go_sem];omega) rfl ⟨rfl,(Ext.refl _).drewN _⟩
def H6 (r:Option (Nat×Nat)):Value:=match r with
 |none=> .tuple #[Vu 0,Vi 0,Ie]
 |some (v,n)=> .tuple #[Vu v,Vi n,.nilIface]
theorem MH (A:Option Addr) (n c:Nat) (l:List UInt8) (p:Int) (w:World) (H:Bys w A l) (i:l.length=n) (z:n<=c) (hn:n<=12000000):
  Calls pg 128 #[.slice A n c,Vi p] w λe w'=>e= .returned (H6 (oQ l p))/\Ext w w':=by
 by_cases a:p<0\/(n:Int)<=p
 ·rw[Pq (by rw[i];exact a)]
  exact abX A n c p w hn a
 obtain⟨q,rfl⟩:∃q:Nat,p=q:=⟨p.toNat,ω⟩;have K:q<n:=ω
 obtain⟨f,j⟩:∃f,(l.getD q 0).toNat=f:=⟨_,rfl⟩;rw[abZ ω j,bk,i,Lib.getD_dropU,Nat.add_zero];by_cases u:4<f\/n-(q+1)<f
 ·rw[if_pos ω]
  exact abY A n c q f l w H i z hn K j u
 rcases Nat.eq_zero_or_pos f with I|I
 ·subst I
  rw[if_neg ω];exact HZ A n c q l w H i z hn K j
 by_cases J:(l.getD (q+1) 0).toNat=0
 ·rw[if_pos ω]
  exact ZH A n c q f l w H i z hn ω j I ω ω J
 ·rw[if_neg ω]
  exact Wi A n c q f l w H i z hn ω j I ω ω J
end Go.Proofs.YtncfhbpejchbfaaGreatDoor

/-
  Lemmas of this seat; no claim.
-/
import Derived.Test.YtejbpijamdlgcaaGreatDoorClnP
import Derived.Lib.ValidLaws
import Derived.Lib.RuneCount
set_option linter.unusedVariables false
set_option linter.unusedSimpArgs false
set_option maxRecDepth 100000
set_option maxHeartbeats 4000000
open Go.Lib renaming decodeL→kJ,decodeN→mE,encodeRune→bK,validD→iJ
open Int renaming toNat_natCast→dx,toNat_of_nonneg→gP
open List renaming cons_append→aV,drop_eq_nil_of_le→gW,eq_nil_of_length_eq_zero→dF,getD_cons_succ→fO,getD_cons_zero→fM,length_append→ay,length_cons→aH,length_drop→bP,length_nil→aR,length_pos_iff→jC,length→jI,map_cons→bU,map_nil→fH,mem_cons_of_mem→aU,mem_cons_self→aW,mem_cons→aS,nil_append→bB
open Nat renaming le_refl→aD
open Prod renaming ext→jQ
namespace Go.Proofs.YtejbpijamdlgcaaGreatDoor
open Go.Lib
def wh:Nat->List UInt8->List Nat
 |0,_=>[]
 |n+1,l=>if l=[] then [] else(kJ l).1::wh n (l.drop (kJ l).2)
def oJ (l:List UInt8):List Nat:=wh l.length l
theorem yF:∀n,wh n []=[]
 |0=>rfl
 |_+1=>by simp[wh]
theorem EC:∀(n m:Nat) (l:List UInt8),l.length<=n->l.length<=m->wh n l=wh m l
 |0,m,l,hn,_=>by
  obtain rfl:l=[]:=dF ω;rw[yF,yF]
 |n+1,0,l,_,hm=>by
  obtain rfl:l=[]:=dF ω;rw[yF,yF]
 |n+1,m+1,l,hn,hm=>by
  unfold wh;by_cases a:l=[]
  ·simp[a]
  ·have e:=decodeL_width l
   have f:0<l.length:=jC.2 a;rw[if_neg a,if_neg a,EC n m (l.drop (kJ l).2) (by rw[bP];omega) (by rw[bP];omega)]
theorem vQ:oJ []=[]:=rfl
theorem uh (l:List UInt8) (a:l≠[]):oJ l=(kJ l).1::oJ (l.drop (kJ l).2):=by
 have i:0<l.length:=jC.2 a;have f:=decodeL_width l;obtain⟨n,e⟩:∃n,l.length=n+1:=⟨l.length-1,ω⟩;unfold oJ;rw[e];show(if l=[] then [] else _)=_;rw[if_neg a,EC n (l.drop (kJ l).2).length _ (by rw[bP];omega) (aD _)]
theorem ajp (m e a i f:Nat) (h:192<=e) (q:e<224) (j:a<256):
  mE m e a i f=if m<2\/a<128\/191<a\/64*(e-192)+a-128<128 then(65533,1) else(64*(e-192)+a-128,2):=by
 unfold mE
 repeat' split
 all_goals first|rfl|(exfalso;omega)|(apply jQ <;> simp only <;> omega)
theorem ajo (m f e a i:Nat) (h:224<=f) (u:f<240) (q:e<256) (j:a<256):
  mE m f e a i=if m<3\/e<128\/191<e\/a<128\/191<a\/64*(64*(f-224)+e-128)+a-128<2048\/(55296<=64*(64*(f-224)+e-128)+a-128/\64*(64*(f-224)+e-128)+a-128<=57343)
   then(65533,1) else(64*(64*(f-224)+e-128)+a-128,3):=by
 unfold mE
 repeat' split
 all_goals first|rfl|(exfalso;omega)|(apply jQ <;> simp only <;> omega)
theorem ajn (m i f e a:Nat) (h:240<=i) (z:i<248) (u:f<256) (q:e<256) (j:a<256):
  mE m i f e a=if m<4\/f<128\/191<f\/e<128\/191<e\/a<128\/191<a\/64*(64*(64*(i-240)+f-128)+e-128)+a-128<65536\/1114111<64*(64*(64*(i-240)+f-128)+e-128)+a-128
   then(65533,1) else(64*(64*(64*(i-240)+f-128)+e-128)+a-128,4):=by
 unfold mE
 repeat' split
 all_goals first|rfl|(exfalso;omega)|(apply jQ <;> simp only <;> omega)
theorem ajq (m a i f e:Nat) (h:a<128):mE m a i f e=(a,1):=by unfold mE;rw[if_pos h]
theorem Wh {l:List UInt8} {i:Nat} (hi:i<l.length):l.drop i≠[]:=by
 intro e;have:=congrArg jI e;rw[bP] at this;simp at this;omega
structure It where
 c:Int
 k:Int
 lc:Int
 lk:Int
 rc:Int
 rk:Int
 ch:Int
structure Rn where
 c:Int
 k:Int
 lc:Int
 lk:Int
 rc:Int
 rk:Int
 t:List UInt8
def wfI (x:It):Prop:=0<=x.c/\x.c<=4294967295/\0<=x.k/\x.k<=4294967295/\0<=x.lc/\x.lc<=4294967295/\0<=x.lk/\x.lk<=4294967295/\0<=x.rc/\x.rc<=4294967295/\0<=x.rk/\x.rk<=4294967295/\ -2147483648<=x.ch/\x.ch<=2147483647
def wfR (x:Rn):Prop:=0<=x.c/\x.c<=4294967295/\0<=x.k/\x.k<=4294967295/\0<=x.lc/\x.lc<=4294967295/\0<=x.lk/\x.lk<=4294967295/\0<=x.rc/\x.rc<=4294967295/\0<=x.rk/\x.rk<=4294967295
def onI (x y:It):Bool:=decide (x.c≠0/\x.k+1<=4294967294/\y.c=x.c/\y.k=x.k+1/\y.lc=x.c/\y.lk=x.k/\y.rc=x.rc/\y.rk=x.rk)
def vU (x:It):List It->Bool
 |[]=>false
 |y::_=>onI x y
def tog:List It->Nat
 |[]=>0
 |x::l=>if vU x l then tog l+1 else 1
def sK (l:List It):List UInt8:=l.flatMap λx=>bK x.ch
def one (x:It):Rn:=⟨x.c,x.k,x.lc,x.lk,x.rc,x.rk,bK x.ch⟩
def glue (x:It) (r:Rn):Rn:=⟨x.c,x.k,x.lc,x.lk,x.rc,x.rk,bK x.ch++r.t⟩
def KG (b:Bool) (x:It):List Rn->List Rn
 |[]=>[one x]
 |r::rs=>if b then glue x r::rs else one x::r::rs
def pO:List It->List Rn
 |[]=>[]
 |x::l=>KG (vU x l) x (pO l)
def MR:List It->Rn
 |[]=>⟨0,0,0,0,0,0,[]⟩
 |x::l=>⟨x.c,x.k,x.lc,x.lk,x.rc,x.rk,sK (x::l)⟩
theorem RU (x:It) (l:List It):sK (x::l)=bK x.ch++sK l:=by simp[sK]
theorem Lp (l m:List It):sK (l++m)=sK l++sK m:=by simp[sK]
theorem V9 (n:Int):1<=(bK n).length/\(bK n).length<=4:=by
 have:=encodeRuneZ_length n;simpa[bK] using this
theorem Ec:∀l:List It,(sK l).length<=4*l.length
 |[]=>by simp[sK]
 |x::l=>by
  have:=Ec l;have:=V9 x.ch;rw[RU,ay,aH];omega
theorem Ze:∀l:List It,tog l<=l.length
 |[]=>aD _
 |x::l=>by
  have:=Ze l;unfold tog
  split <;> simp only[aH] <;> omega
theorem U8:∀{l:List It},l≠[]->1<=tog l
 |[],h=>absurd rfl h
 |x::l,_=>by unfold tog;split <;> omega
theorem vP (x:It) (l:List It):pO (x::l)=KG (vU x l) x (pO l):=rfl
theorem xU (b:Bool) (x:It) (r:Rn) (rs:List Rn):KG b x (r::rs)=if b then glue x r::rs else one x::r::rs:=rfl
theorem Oc:∀{l:List It},l≠[]->pO l≠[]
 |[],h=>absurd rfl h
 |x::l,_=>by
  rw[vP];cases pO l with
  |nil=>simp[KG]
  |cons r rs=>rw[xU];split <;> simp
theorem Hy (x:It) (rs:List Rn):KG false x rs=one x::rs:=by cases rs <;> simp[KG]
theorem Vv:∀{l:List It},l≠[]->pO l=MR (l.take (tog l))::pO (l.drop (tog l))
 |[],h=>absurd rfl h
 |x::l,_=>by
  rw[vP,tog];cases a:vU x l with
  |false=>
   rw[Hy];simp[MR,one,sK]
  |true=>
   have f:l≠[]:=by intro e;subst e;simp[vU] at a
   have ih:=Vv f;rw[ih,xU,if_pos rfl,if_pos rfl,List.take_succ_cons,List.drop_succ_cons];cases l with
   |nil=>exact absurd rfl f
   |cons y l=>
    obtain⟨n,a⟩:∃n,tog (y::l)=n+1:=⟨tog (y::l)-1,by have:=U8 f;omega⟩;rw[a];simp[MR,glue,sK]
def pF (c k lc lk rc rk:Int):List Nat->List It
 |[]=>[]
 |n::ns=>⟨c,k,lc,lk,rc,rk,n⟩::pF c (k+1) c k rc rk ns
def rX (r:Rn):List It:=pF r.c r.k r.lc r.lk r.rc r.rk (oJ r.t)
def nY (l:List Rn):List It:=l.flatMap rX
def rW (r:Rn):Bool:=decide (iJ r.t=true/\0<(oJ r.t).length/\r.c≠0/\r.k+(oJ r.t).length-1<=4294967294)
theorem um (r:Rn) (l:List Rn):nY (r::l)=rX r++nY l:=by simp[nY]
theorem EK (l m:List Rn):nY (l++m)=nY l++nY m:=by simp[nY]
theorem MV (r:Rn):nY [r]=rX r:=by simp[nY]
theorem wF (a:List Nat):∀(c k lc lk rc rk:Int),(pF c k lc lk rc rk a).length=a.length:=by
 induction a with
 |nil=>intros;rfl
 |cons n a ih=>intros;simp[pF,ih]
theorem JW (r:Rn):(rX r).length=(oJ r.t).length:=wF _ _ _ _ _ _ _
theorem G5:∀(n:Nat) (l:List UInt8),(wh n l).length<=n
 |0,_=>by simp[wh]
 |n+1,l=>by
  unfold wh
  split
  ·simp
  ·have:=G5 n (l.drop (kJ l).2)
   simp only[aH];omega
theorem xI (l:List UInt8):(oJ l).length<=l.length:=G5 _ _
theorem Bj (s:ByteArray):runeCount s=(oJ s.data.toList).length:=by
 have key:∀(e a:Nat),s.size<=a+e->runeCountFrom s e a=(oJ (s.data.toList.drop a)).length:=by
  intro e
  induction e with
  |zero=>
   intro a h;rw[gW (by have:s.data.toList.length=s.size:=(size_eq s).symm;omega),vQ];rfl
  |succ f ih=>
   intro a h;have j:s.data.toList.length=s.size:=(size_eq s).symm;unfold runeCountFrom;by_cases i:a<s.size
   ·have q:=decode_width_pos s a i
    rw[if_pos i,ih _ ω,uh (s.data.toList.drop a) (Wh ω),decodeL_drop,aH,List.drop_drop];omega
   ·rw[if_neg i,gW ω,vQ]
    rfl
 have:=key s.size 0 ω;rwa[List.drop_zero] at this
section
def Qx (c:Int):Prop:=0<=c/\c<=1114111/\(c<55296\/57343<c)
variable {x:It}
theorem uG (n:Nat) (h:n<256):(n.toUInt8).toNat=n:=by simp[Nat.toUInt8];omega
theorem adU (n:Nat):bK (n:Int)=(encodeRuneZ (n:Int)).map λx=>x.toNat.toUInt8:=rfl
theorem ad3 (n:Nat) (h:Qx (n:Int)) (t:List UInt8):kJ (bK (n:Int)++t)=(n,(bK (n:Int)).length):=by
 unfold Qx at h;by_cases f:n<=127
 ·rw[adU,encodeRuneZ_one ω ω]
  rw[decodeL_N];simp only[bU,fH,aV,bB,fM,fO,dx,aH,aR];rw[uG n ω,ajq _ _ _ _ _ ω]
 ·by_cases e:n<=2047
  ·rw[adU,encodeRuneZ_two ω ω]
   rw[decodeL_N];simp only[bU,fH,aV,bB,fM,fO,aH,aR];rw[show((192:Int)+(n:Int)/64).toNat=192+n/64 by omega,show((128:Int)+(n:Int)%64).toNat=128+n%64 by omega];rw[uG (192+n/64) ω,uG (128+n%64) ω,ajp _ _ _ _ _ ω ω ω,if_neg ω];apply jQ <;> simp only <;> omega
  ·by_cases a:n<=65535
   ·rw[adU,encodeRuneZ_three ω]
    rw[decodeL_N];simp only[bU,fH,aV,bB,fM,fO,aH,aR];rw[show((224:Int)+(n:Int)/4096).toNat=224+n/4096 by omega,show((128:Int)+(n:Int)/64%64).toNat=128+n/64%64 by omega,show((128:Int)+(n:Int)%64).toNat=128+n%64 by omega];rw[uG (224+n/4096) ω,uG (128+n/64%64) ω,uG (128+n%64) ω,ajo _ _ _ _ _ ω ω ω ω,if_neg ω];apply jQ <;> simp only <;> omega
   ·rw[adU,encodeRuneZ_four ω ω]
    rw[decodeL_N];simp only[bU,fH,aV,bB,fM,fO,aH,aR];rw[show((240:Int)+(n:Int)/262144).toNat=240+n/262144 by omega,show((128:Int)+(n:Int)/4096%64).toNat=128+n/4096%64 by omega,show((128:Int)+(n:Int)/64%64).toNat=128+n/64%64 by omega,show((128:Int)+(n:Int)%64).toNat=128+n%64 by omega];rw[uG (240+n/262144) ω,uG (128+n/4096%64) ω,uG (128+n/64%64) ω,uG (128+n%64) ω,ajn _ _ _ _ _ ω ω ω ω ω,if_neg ω];apply jQ <;> simp only <;> omega
theorem O9 {c:Int} (h:Qx c) (t:List UInt8):iJ (bK c++t)=iJ t/\oJ (bK c++t)=c.toNat::oJ t:=by
 obtain⟨n,rfl⟩:∃n:Nat,c=n:=⟨c.toNat,by have:=h.1;omega⟩;have f:=ad3 n h t;have u:=V9 (n:Int);have a:bK (n:Int)++t≠[]:=by
  intro e;have:=congrArg jI e;rw[ay,aR] at this;omega
 have j:(kJ (bK (n:Int)++t)).1=n:=by rw[f]
 have i:(kJ (bK (n:Int)++t)).2=(bK (n:Int)).length:=by rw[f]
 have hv:¬(n=65533/\(bK (n:Int)).length=1):=by
  rintro⟨e,q⟩;subst e
  revert q
  decide
 constructor
 ·rw[validD_step _ a,j,i,if_neg hv,List.drop_left]
 ·rw[uh _ a,j,i,List.drop_left,dx]
theorem O8 {c:Int} (h:Qx c):iJ (bK c)=true/\oJ (bK c)=[c.toNat]:=by
 have:=O9 h [];rw[List.append_nil] at this;exact⟨this.1.trans validD_nil,this.2⟩
def okI (x:It):Prop:=x.c≠0/\x.k<=4294967294/\Qx x.ch
theorem aa0:∀(y:It) (l:List It),∃r rs,pO (y::l)=r::rs/\r.c=y.c/\r.k=y.k/\r.lc=y.lc/\r.lk=y.lk/\r.rc=y.rc/\r.rk=y.rk:=by
 intro y l;rw[vP];cases pO l with
 |nil=>exact⟨one y,[],rfl,rfl,rfl,rfl,rfl,rfl,rfl⟩
 |cons r rs=>
  rw[xU]
  split
  ·exact⟨_,_,rfl,rfl,rfl,rfl,rfl,rfl,rfl⟩
  ·exact⟨_,_,rfl,rfl,rfl,rfl,rfl,rfl,rfl⟩
theorem OE (h:okI x):rX (one x)=[x]:=by
 have a:=h.2.2.1;unfold rX;show pF x.c x.k x.lc x.lk x.rc x.rk (oJ (bK x.ch))=_;rw[(O8 h.2.2).2];show [(⟨x.c,x.k,x.lc,x.lk,x.rc,x.rk,((x.ch.toNat:Nat):Int)⟩:It)]=_;rw[gP a]
theorem ac7 (h:okI x):rW (one x)=true:=by
 unfold rW one;rw[decide_eq_true_eq];simp only;rw[(O8 h.2.2).1,(O8 h.2.2).2];have a:=h.1;have e:=h.2.1;refine⟨rfl,ι,a,?_⟩;simp only[aH,aR];omega
theorem aft {y:It}:onI x y=true↔x.c≠0/\x.k+1<=4294967294/\y.c=x.c/\y.k=x.k+1/\y.lc=x.c/\y.lk=x.k/\y.rc=x.rc/\y.rk=x.rk:=by unfold onI;rw[decide_eq_true_eq]
theorem back:∀{l:List It},(∀x∈l,okI x)->nY (pO l)=l/\∀r∈pO l,rW r=true
 |[],_=>⟨rfl,λr h=>by cases h⟩
 |x::l,h=>by
  have a:=h x (aW ..);obtain⟨j,i⟩:=back (l:=l) λy hy=>h y (aU _ hy)
  rw[vP];cases J:vU x l with
  |false=>
   rw[Hy,um,OE a,j];refine⟨rfl,λr f=>?_⟩;rcases aS.1 f with e|e
   ·rw[e];exact ac7 a
   ·exact i r e
  |true=>
   cases l with
   |nil=>simp[vU] at J
   |cons y l=>
    have u:onI x y=true:=J;obtain⟨o1,o2,Z,I,Y,X,W,U⟩:=aft.1 u;obtain⟨r,rs,e,Q,H,O,N,M,K⟩:=aa0 y l;rw[e] at j i⊢;rw[xU,if_pos rfl];have hi:rX (glue x r)=x::rX r:=by
      unfold rX;show pF x.c x.k x.lc x.lk x.rc x.rk (oJ (bK x.ch++r.t))=_;rw[(O9 a.2.2 r.t).2,Q,H,O,N,M,K,Z,I,Y,X,W,U];show(⟨x.c,x.k,x.lc,x.lk,x.rc,x.rk,((x.ch.toNat:Nat):Int)⟩:It)::_=_;rw[gP a.2.2.1]
    refine⟨by rw[um,hi,aV,<-um,j],λq hq=>?_⟩;rcases aS.1 hq with z|z
    ·rw[z]
     have f:=i r (aW ..);unfold rW at f⊢;rw[decide_eq_true_eq] at f⊢;obtain⟨m1,m2,m3,m4⟩:=f;show iJ (bK x.ch++r.t)=true/\0<(oJ (bK x.ch++r.t)).length/\x.c≠0/\x.k+(oJ (bK x.ch++r.t)).length-1<=4294967294;rw[(O9 a.2.2 r.t).1,(O9 a.2.2 r.t).2,aH];refine⟨m1,ω,a.1,?_⟩;rw[H,I] at m4;omega
    ·exact i q (aU _ z)
end
end Go.Proofs.YtejbpijamdlgcaaGreatDoor

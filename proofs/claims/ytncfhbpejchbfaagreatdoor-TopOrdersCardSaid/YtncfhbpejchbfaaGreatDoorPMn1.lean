/-
  Lemmas of this seat; no claim.
-/
import Derived.Test.YtncfhbpejchbfaaGreatDoorClnP
import Derived.Lib.ValidLaws
import Derived.Lib.RuneCount
set_option linter.unusedVariables false
set_option linter.unusedSimpArgs false
set_option maxRecDepth 100000
set_option maxHeartbeats 4000000
open Go.Lib renaming decodeL→gu,decodeN→iB,encodeRune→aY,validD→ew
open Int renaming toNat_natCast→bJ,toNat_of_nonneg→dO
open List renaming cons_append→aJ,drop_eq_nil_of_le→eu,eq_nil_of_length_eq_zero→bM,getD_cons_succ→cY,getD_cons_zero→cP,length_append→ag,length_cons→ar,length_drop→bk,length_nil→aG,length_pos_iff→ft,length→fC,map_cons→bA,map_nil→dt,mem_cons_of_mem→aF,mem_cons_self→aH,mem_cons→aE,nil_append→aR
open Nat renaming le_refl→am
open Prod renaming ext→fN
namespace Go.Proofs.YtncfhbpejchbfaaGreatDoor
open Go.Lib
def qX:Nat->List UInt8->List Nat
 |0,_=>[]
 |n+1,l=>if l=[] then [] else(gu l).1::qX n (l.drop (gu l).2)
def jK (l:List UInt8):List Nat:=qX l.length l
theorem uF:∀n,qX n []=[]
 |0=>rfl
 |_+1=>by simp[qX]
theorem Bz:∀(n m:Nat) (l:List UInt8),l.length<=n->l.length<=m->qX n l=qX m l
 |0,m,l,hn,_=>by
  obtain rfl:l=[]:=bM ω;rw[uF,uF]
 |n+1,0,l,_,hm=>by
  obtain rfl:l=[]:=bM ω;rw[uF,uF]
 |n+1,m+1,l,hn,hm=>by
  unfold qX;by_cases a:l=[]
  ·simp[a]
  ·have e:=decodeL_width l
   have f:0<l.length:=ft.2 a;rw[if_neg a,if_neg a,Bz n m (l.drop (gu l).2) (by rw[bk];omega) (by rw[bk];omega)]
theorem qK:jK []=[]:=rfl
theorem oH (l:List UInt8) (a:l≠[]):jK l=(gu l).1::jK (l.drop (gu l).2):=by
 have f:0<l.length:=ft.2 a;have e:=decodeL_width l;obtain⟨n,hn⟩:∃n,l.length=n+1:=⟨l.length-1,ω⟩;unfold jK;rw[hn];show(if l=[] then [] else _)=_;rw[if_neg a,Bz n (l.drop (gu l).2).length _ (by rw[bk];omega) (am _)]
def bt (l:List UInt8) (i k:Nat):Nat:=(l.getD (i+k) 0).toNat
theorem ahQ (m e a i f:Nat) (h:192<=e) (q:e<224) (j:a<256):
  iB m e a i f=if m<2\/a<128\/191<a\/64*(e-192)+a-128<128 then(65533,1) else(64*(e-192)+a-128,2):=by
 unfold iB
 repeat' split
 all_goals first|rfl|(exfalso;omega)|(apply fN <;> simp only <;> omega)
theorem ahP (m f e a i:Nat) (h:224<=f) (u:f<240) (q:e<256) (j:a<256):
  iB m f e a i=if m<3\/e<128\/191<e\/a<128\/191<a\/64*(64*(f-224)+e-128)+a-128<2048\/(55296<=64*(64*(f-224)+e-128)+a-128/\64*(64*(f-224)+e-128)+a-128<=57343)
   then(65533,1) else(64*(64*(f-224)+e-128)+a-128,3):=by
 unfold iB
 repeat' split
 all_goals first|rfl|(exfalso;omega)|(apply fN <;> simp only <;> omega)
theorem ahO (m i f e a:Nat) (h:240<=i) (z:i<248) (u:f<256) (q:e<256) (j:a<256):
  iB m i f e a=if m<4\/f<128\/191<f\/e<128\/191<e\/a<128\/191<a\/64*(64*(64*(i-240)+f-128)+e-128)+a-128<65536\/1114111<64*(64*(64*(i-240)+f-128)+e-128)+a-128
   then(65533,1) else(64*(64*(64*(i-240)+f-128)+e-128)+a-128,4):=by
 unfold iB
 repeat' split
 all_goals first|rfl|(exfalso;omega)|(apply fN <;> simp only <;> omega)
theorem ahR (m a i f e:Nat) (h:a<128):iB m a i f e=(a,1):=by unfold iB;rw[if_pos h]
theorem TV {l:List UInt8} {i:Nat} (hi:i<l.length):l.drop i≠[]:=by
 intro e;have:=congrArg fC e;rw[bk] at this;simp at this;omega
structure It where
 c:Int
 k:Int
 lc:Int
 lk:Int
 rc:Int
 rk:Int
 ch:Int
structure Rn where
 c:Int
 k:Int
 lc:Int
 lk:Int
 rc:Int
 rk:Int
 t:List UInt8
def wfI (x:It):Prop:=0<=x.c/\x.c<=4294967295/\0<=x.k/\x.k<=4294967295/\0<=x.lc/\x.lc<=4294967295/\0<=x.lk/\x.lk<=4294967295/\0<=x.rc/\x.rc<=4294967295/\0<=x.rk/\x.rk<=4294967295/\ -2147483648<=x.ch/\x.ch<=2147483647
def wfR (x:Rn):Prop:=0<=x.c/\x.c<=4294967295/\0<=x.k/\x.k<=4294967295/\0<=x.lc/\x.lc<=4294967295/\0<=x.lk/\x.lk<=4294967295/\0<=x.rc/\x.rc<=4294967295/\0<=x.rk/\x.rk<=4294967295
def onI (x y:It):Bool:=decide (x.c≠0/\x.k+1<=4294967294/\y.c=x.c/\y.k=x.k+1/\y.lc=x.c/\y.lk=x.k/\y.rc=x.rc/\y.rk=x.rk)
def qO (x:It):List It->Bool
 |[]=>false
 |y::_=>onI x y
def tog:List It->Nat
 |[]=>0
 |x::l=>if qO x l then tog l+1 else 1
def nK (l:List It):List UInt8:=l.flatMap λx=>aY x.ch
def one (x:It):Rn:=⟨x.c,x.k,x.lc,x.lk,x.rc,x.rk,aY x.ch⟩
def glue (x:It) (r:Rn):Rn:=⟨x.c,x.k,x.lc,x.lk,x.rc,x.rk,aY x.ch++r.t⟩
def Il (b:Bool) (x:It):List Rn->List Rn
 |[]=>[one x]
 |r::rs=>if b then glue x r::rs else one x::r::rs
def ko:List It->List Rn
 |[]=>[]
 |x::l=>Il (qO x l) x (ko l)
def JK:List It->Rn
 |[]=>⟨0,0,0,0,0,0,[]⟩
 |x::l=>⟨x.c,x.k,x.lc,x.lk,x.rc,x.rk,nK (x::l)⟩
theorem PI (x:It) (l:List It):nK (x::l)=aY x.ch++nK l:=by simp[nK]
theorem I5 (l m:List It):nK (l++m)=nK l++nK m:=by simp[nK]
theorem TU (n:Int):1<=(aY n).length/\(aY n).length<=4:=by
 have:=encodeRuneZ_length n;simpa[aY] using this
theorem AP:∀l:List It,(nK l).length<=4*l.length
 |[]=>by simp[nK]
 |x::l=>by
  have:=AP l;have:=TU x.ch;rw[PI,ag,ar];omega
theorem XJ:∀l:List It,tog l<=l.length
 |[]=>am _
 |x::l=>by
  have:=XJ l;unfold tog
  split <;> simp only[ar] <;> omega
theorem SC:∀{l:List It},l≠[]->1<=tog l
 |[],h=>absurd rfl h
 |x::l,_=>by unfold tog;split <;> omega
theorem qJ (x:It) (l:List It):ko (x::l)=Il (qO x l) x (ko l):=rfl
theorem tK (b:Bool) (x:It) (r:Rn) (rs:List Rn):Il b x (r::rs)=if b then glue x r::rs else one x::r::rs:=rfl
theorem KZ:∀{l:List It},l≠[]->ko l≠[]
 |[],h=>absurd rfl h
 |x::l,_=>by
  rw[qJ];cases ko l with
  |nil=>simp[Il]
  |cons r rs=>rw[tK];split <;> simp
theorem EF (x:It) (rs:List Rn):Il false x rs=one x::rs:=by cases rs <;> simp[Il]
theorem SX:∀{l:List It},l≠[]->ko l=JK (l.take (tog l))::ko (l.drop (tog l))
 |[],h=>absurd rfl h
 |x::l,_=>by
  rw[qJ,tog];cases hn:qO x l with
  |false=>
   rw[EF];simp[JK,one,nK]
  |true=>
   have a:l≠[]:=by intro e;subst e;simp[qO] at hn
   have ih:=SX a;rw[ih,tK,if_pos rfl,if_pos rfl,List.take_succ_cons,List.drop_succ_cons];cases l with
   |nil=>exact absurd rfl a
   |cons y l=>
    obtain⟨n,hn⟩:∃n,tog (y::l)=n+1:=⟨tog (y::l)-1,by have:=SC a;omega⟩;rw[hn];simp[JK,glue,nK]
def jT (c k lc lk rc rk:Int):List Nat->List It
 |[]=>[]
 |n::ns=>⟨c,k,lc,lk,rc,rk,n⟩::jT c (k+1) c k rc rk ns
def mF (r:Rn):List It:=jT r.c r.k r.lc r.lk r.rc r.rk (jK r.t)
def jr (l:List Rn):List It:=l.flatMap mF
def mZ (r:Rn):Bool:=decide (ew r.t=true/\0<(jK r.t).length/\r.c≠0/\r.k+(jK r.t).length-1<=4294967294)
theorem ni (r:Rn) (l:List Rn):jr (r::l)=mF r++jr l:=by simp[jr]
theorem BM (l m:List Rn):jr (l++m)=jr l++jr m:=by simp[jr]
theorem JN (r:Rn):jr [r]=mF r:=by simp[jr]
theorem pX (a:List Nat):∀(c k lc lk rc rk:Int),(jT c k lc lk rc rk a).length=a.length:=by
 induction a with
 |nil=>intros;rfl
 |cons n a ih=>intros;simp[jT,ih]
theorem He (r:Rn):(mF r).length=(jK r.t).length:=pX _ _ _ _ _ _ _
theorem Em:∀(n:Nat) (l:List UInt8),(qX n l).length<=n
 |0,_=>by simp[qX]
 |n+1,l=>by
  unfold qX
  split
  ·simp
  ·have:=Em n (l.drop (gu l).2)
   simp only[ar];omega
theorem qL (l:List UInt8):(jK l).length<=l.length:=Em _ _
theorem xR (s:ByteArray):runeCount s=(jK s.data.toList).length:=by
 have key:∀(fuel a:Nat),s.size<=a+fuel->runeCountFrom s fuel a=(jK (s.data.toList.drop a)).length:=by
  intro fuel
  induction fuel with
  |zero=>
   intro a h;rw[eu (by have:s.data.toList.length=s.size:=(size_eq s).symm;omega),qK];rfl
  |succ f ih=>
   intro a h;have i:s.data.toList.length=s.size:=(size_eq s).symm;unfold runeCountFrom;by_cases e:a<s.size
   ·have j:=decode_width_pos s a e
    rw[if_pos e,ih _ ω,oH (s.data.toList.drop a) (TV ω),decodeL_drop,ar,List.drop_drop];omega
   ·rw[if_neg e,eu ω,qK]
    rfl
 have:=key s.size 0 ω;rwa[List.drop_zero] at this
section
def Oe (c:Int):Prop:=0<=c/\c<=1114111/\(c<55296\/57343<c)
variable {x:It}
theorem pq (n:Nat) (h:n<256):(n.toUInt8).toNat=n:=by simp[Nat.toUInt8];omega
theorem acd (n:Nat):aY (n:Int)=(encodeRuneZ (n:Int)).map λx=>x.toNat.toUInt8:=rfl
theorem acg (n:Nat) (h:Oe (n:Int)) (t:List UInt8):gu (aY (n:Int)++t)=(n,(aY (n:Int)).length):=by
 unfold Oe at h;by_cases f:n<=127
 ·rw[acd,encodeRuneZ_one ω ω]
  rw[decodeL_N];simp only[bA,dt,aJ,aR,cP,cY,bJ,ar,aG];rw[pq n ω,ahR _ _ _ _ _ ω]
 ·by_cases e:n<=2047
  ·rw[acd,encodeRuneZ_two ω ω]
   rw[decodeL_N];simp only[bA,dt,aJ,aR,cP,cY,ar,aG];rw[show((192:Int)+(n:Int)/64).toNat=192+n/64 by omega,show((128:Int)+(n:Int)%64).toNat=128+n%64 by omega];rw[pq (192+n/64) ω,pq (128+n%64) ω,ahQ _ _ _ _ _ ω ω ω,if_neg ω];apply fN <;> simp only <;> omega
  ·by_cases a:n<=65535
   ·rw[acd,encodeRuneZ_three ω]
    rw[decodeL_N];simp only[bA,dt,aJ,aR,cP,cY,ar,aG];rw[show((224:Int)+(n:Int)/4096).toNat=224+n/4096 by omega,show((128:Int)+(n:Int)/64%64).toNat=128+n/64%64 by omega,show((128:Int)+(n:Int)%64).toNat=128+n%64 by omega];rw[pq (224+n/4096) ω,pq (128+n/64%64) ω,pq (128+n%64) ω,ahP _ _ _ _ _ ω ω ω ω,if_neg ω];apply fN <;> simp only <;> omega
   ·rw[acd,encodeRuneZ_four ω ω]
    rw[decodeL_N];simp only[bA,dt,aJ,aR,cP,cY,ar,aG];rw[show((240:Int)+(n:Int)/262144).toNat=240+n/262144 by omega,show((128:Int)+(n:Int)/4096%64).toNat=128+n/4096%64 by omega,show((128:Int)+(n:Int)/64%64).toNat=128+n/64%64 by omega,show((128:Int)+(n:Int)%64).toNat=128+n%64 by omega];rw[pq (240+n/262144) ω,pq (128+n/4096%64) ω,pq (128+n/64%64) ω,pq (128+n%64) ω,ahO _ _ _ _ _ ω ω ω ω ω,if_neg ω];apply fN <;> simp only <;> omega
theorem MQ {c:Int} (h:Oe c) (t:List UInt8):ew (aY c++t)=ew t/\jK (aY c++t)=c.toNat::jK t:=by
 obtain⟨n,rfl⟩:∃n:Nat,c=n:=⟨c.toNat,by have:=h.1;omega⟩;have f:=acg n h t;have u:=TU (n:Int);have a:aY (n:Int)++t≠[]:=by
  intro e;have:=congrArg fC e;rw[ag,aG] at this;omega
 have j:(gu (aY (n:Int)++t)).1=n:=by rw[f]
 have i:(gu (aY (n:Int)++t)).2=(aY (n:Int)).length:=by rw[f]
 have hv:¬(n=65533/\(aY (n:Int)).length=1):=by
  rintro⟨e,q⟩;subst e
  revert q
  decide
 constructor
 ·rw[validD_step _ a,j,i,if_neg hv,List.drop_left]
 ·rw[oH _ a,j,i,List.drop_left,bJ]
theorem MP {c:Int} (h:Oe c):ew (aY c)=true/\jK (aY c)=[c.toNat]:=by
 have:=MQ h [];rw[List.append_nil] at this;exact⟨this.1.trans validD_nil,this.2⟩
def okI (x:It):Prop:=x.c≠0/\x.k<=4294967294/\Oe x.ch
theorem Zu:∀(y:It) (l:List It),∃r rs,ko (y::l)=r::rs/\r.c=y.c/\r.k=y.k/\r.lc=y.lc/\r.lk=y.lk/\r.rc=y.rc/\r.rk=y.rk:=by
 intro y l;rw[qJ];cases ko l with
 |nil=>exact⟨one y,[],rfl,rfl,rfl,rfl,rfl,rfl,rfl⟩
 |cons r rs=>
  rw[tK]
  split
  ·exact⟨_,_,rfl,rfl,rfl,rfl,rfl,rfl,rfl⟩
  ·exact⟨_,_,rfl,rfl,rfl,rfl,rfl,rfl,rfl⟩
theorem LP (h:okI x):mF (one x)=[x]:=by
 have a:=h.2.2.1;unfold mF;show jT x.c x.k x.lc x.lk x.rc x.rk (jK (aY x.ch))=_;rw[(MP h.2.2).2];show [(⟨x.c,x.k,x.lc,x.lk,x.rc,x.rk,((x.ch.toNat:Nat):Int)⟩:It)]=_;rw[dO a]
theorem abu (h:okI x):mZ (one x)=true:=by
 unfold mZ one;rw[decide_eq_true_eq];simp only;rw[(MP h.2.2).1,(MP h.2.2).2];have a:=h.1;have e:=h.2.1;refine⟨rfl,ι,a,?_⟩;simp only[ar,aG];omega
theorem adL {y:It}:onI x y=true↔x.c≠0/\x.k+1<=4294967294/\y.c=x.c/\y.k=x.k+1/\y.lc=x.c/\y.lk=x.k/\y.rc=x.rc/\y.rk=x.rk:=by unfold onI;rw[decide_eq_true_eq]
theorem back:∀{l:List It},(∀x∈l,okI x)->jr (ko l)=l/\∀r∈ko l,mZ r=true
 |[],_=>⟨rfl,λr h=>by cases h⟩
 |x::l,h=>by
  have a:=h x (aH ..);obtain⟨j,i⟩:=back (l:=l) λy hy=>h y (aF _ hy)
  rw[qJ];cases hn:qO x l with
  |false=>
   rw[EF,ni,LP a,j];refine⟨rfl,λr f=>?_⟩;rcases aE.1 f with e|e
   ·rw[e];exact abu a
   ·exact i r e
  |true=>
   cases l with
   |nil=>simp[qO] at hn
   |cons y l=>
    have u:onI x y=true:=hn;obtain⟨o1,o2,Y,I,X,W,U,Q⟩:=adL.1 u;obtain⟨r,rs,e,O,H,N,M,K,J⟩:=Zu y l;rw[e] at j i⊢;rw[tK,if_pos rfl];have hi:mF (glue x r)=x::mF r:=by
      unfold mF;show jT x.c x.k x.lc x.lk x.rc x.rk (jK (aY x.ch++r.t))=_;rw[(MQ a.2.2 r.t).2,O,H,N,M,K,J,Y,I,X,W,U,Q];show(⟨x.c,x.k,x.lc,x.lk,x.rc,x.rk,((x.ch.toNat:Nat):Int)⟩:It)::_=_;rw[dO a.2.2.1]
    refine⟨by rw[ni,hi,aJ,<-ni,j],λq hq=>?_⟩;rcases aE.1 hq with z|z
    ·rw[z]
     have f:=i r (aH ..);unfold mZ at f⊢;rw[decide_eq_true_eq] at f⊢;obtain⟨m1,m2,m3,Z⟩:=f;show ew (aY x.ch++r.t)=true/\0<(jK (aY x.ch++r.t)).length/\x.c≠0/\x.k+(jK (aY x.ch++r.t)).length-1<=4294967294;rw[(MQ a.2.2 r.t).1,(MQ a.2.2 r.t).2,ar];refine⟨m1,ω,a.1,?_⟩;rw[H,I] at Z;omega
    ·exact i q (aF _ z)
end
end Go.Proofs.YtncfhbpejchbfaaGreatDoor

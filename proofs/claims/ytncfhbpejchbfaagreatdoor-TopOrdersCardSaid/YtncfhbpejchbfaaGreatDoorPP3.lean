/-
  Lemmas of this seat; no claim.
-/
import Derived.Test.YtncfhbpejchbfaaGreatDoorLayXo
import Derived.Test.YtncfhbpejchbfaaGreatDoorPP2
set_option linter.unusedVariables false
set_option linter.unusedSimpArgs false
set_option maxRecDepth 100000
set_option maxHeartbeats 16000000
open And renaming intro→aS
open Go renaming Calls→aO,World→ae,bodyPost_ret→aB,results_none→gR,results→cg
open Go.Addr.mk renaming injEq→jb
open Go.Exit renaming inBlock→fM
open Go.Lib renaming hid→ac
open Go.Maps renaming size→fu
open Go.RowKit.Below renaming block→av,os→ef,output→dI,tape→dS
open Go.Sort renaming PermIn→iJ,ltInt→aZ,partialInsertionSort→fe,partitionEqual→ib,permIn_refl→jg,scanSorted→fm,shiftDown→gB,shiftUp→jn,swo_ltInt→jo
open Go.Value renaming int→ao
open Go.World renaming cell?_alloc_some→ah,cell?_setCell_other→fG,cell?_setCell_same→fS,frozen?_setCell→eG
open List renaming getElem?_eq_some_iff→aq,getElem?_map→bF,length_map→fs,pairwise_iff_getElem→cZ
open List.Pairwise renaming nil→eR
open Nat renaming le_refl→am,le_trans→az,zero_le→bN
open Or renaming inl→fU,inr→iL
open Go.Proofs.Tryz
open Go.Proofs.Tryz renaming prog→pg
namespace Go.Proofs.YtncfhbpejchbfaaGreatDoor
section
open Go.ChangeShapes Go.WideShapes Go.ChangeAt Go.RowKit Go.Sort
theorem Dm (w0:ae) (blk off cap a b f N:Nat) (d:Array Int) (w:ae) (R:RoU w0 blk off N) (S:SWu w0 blk off N d w) (b7:a<=f) (b5:f<b) (hb:b<=N) (b4:N<=400000000):
  aO pg 203 #[.slice (some ⟨blk,off,none⟩) N cap,.int .i64 a,.int .i64 b,.int .i64 f] w λe w'=>e= .returned (.int .i64 ((ib aZ d a b f).1:Nat))/\SWu w0 blk off N (ib aZ d a b f).2 w':=by
 replace S:=ac S;obtain⟨Y,a7⟩:∃Y:Nat,Y=a+1:=⟨_,rfl⟩;obtain⟨X,a6⟩:∃X:Nat,X=b-1:=⟨_,rfl⟩;have b1:(a:Int)+1=(Y:Int):=ω
 have b0:(b:Int)-1=(X:Int):=ω
 have a9:a<Y:=ω
 have U:Y<=X+1:=ω
 have a8:X<b:=ω
 obtain⟨d1,M⟩:∃d1,d1=swp d a f:=⟨_,rfl⟩;obtain⟨T,hT⟩:∃T,T=ib aZ d a b f:=⟨_,rfl⟩;rw[<-hT];have HT:=ac (show partEqLoop aZ a Y X d1=T by rw[hT,a7,a6,M];rfl);replace M:=ac M;clear hT a7 a6;go_enter func203,ntmps203
 go_wp2_with fail
 obtain⟨G,I,O,Q⟩:=R.fam S.out;obtain⟨u,b3⟩:=DV O a f (.int .u32 (G f)) ω ω
 go_region
 have S1:Hid (SWu w0 blk off N d1 ((w.setCell ⟨blk,off+a,none⟩ (.int .u32 (G f))).setCell ⟨blk,off+f,none⟩ (.int .u32 (G a))).drew):=ac (by rw[M.out];exact SWu.xC R S.out I a f ω ω);clear S O Q b3 I M;generalize((w.setCell ⟨blk,off+a,none⟩ (.int .u32 (G f))).setCell ⟨blk,off+f,none⟩ (.int .u32 (G a))).drew=w1 at*
 go_wp2_with fail
 go_loopw [9,10] (λJ vj wl=>∃(i j:Nat) (z:Array Int),J= .int .i64 i/\vj= .int .i64 j/\a<i/\i<=j+1/\j<b/\Hid (SWu w0 blk off N z wl)/\Hid (partEqLoop aZ a i j z=T)) (λJ vj _=>(intOf vj).toNat+1-(intOf J).toNat)
 case atStart=>exact⟨Y,X,d1,rfl,rfl,a9,U,a8,S1,HT⟩
 case round=>
  clear S1 HT b1 b0 a9 U a8;obtain⟨i,j,z,rfl,rfl,bi,U,bj,S5,HL⟩:=hrel;generalize wr=w5 at*
  go_upto_block 2 with fail
  go_cut [9] (λs wx=>∃p:Nat,s= .int .i64 p/\Hid (p=scanUp (λx=> !ltInt z[a]! x) z j i)/\i<=p/\p<=j+1/\Hid (SWu w0 blk off N z wx))
  case first=>
   go_wp2_with fail
   go_loopw [9] (λJ wl=>∃p:Nat,J= .int .i64 p/\i<=p/\p<=j+1/\Hid (SWu w0 blk off N z wl)/\Hid (scanUp (λx=> !ltInt z[a]! x) z j p=scanUp (λx=> !ltInt z[a]! x) z j i)) (λJ _=>j+1-(intOf J).toNat)
   case atStart=>exact⟨i,rfl,am _,U,S5,ac rfl⟩
   case round=>
        clear S5;obtain⟨p,rfl,a5,a4,SP,HP⟩:=hrel;obtain⟨G,I,O,Q⟩:=R.fam SP.out;by_cases K:p<=j
        ·have hd:decide ((p:Int)<=(j:Int))=true:=decide_eq_true ω
         have hz:(p:Int)<=(j:Int):=ω
         cases hl:aZ (G a) (G p) with
         |false=>
          go_wp2_with fail
          go_big_quiet(first|(go_at_call 202;refine kR _ _ _ _))
          go_wp2_with fail
          go_roundw
          case rel=>exact⟨p+1,ν,ω,ω,ac (SP.out.drewN _),ac (by rw[<-HP.out,<-scanUp_go _ _ _ _ K (by rw[<-I.out,<-I.out,hl];rfl)])⟩
          case measure=>simp[intOf];omega
         |true=>
          go_wp2_with fail
          go_big_quiet(first|(go_at_call 202;refine kR _ _ _ _))
          go_wp2_with fail
          go_meet;exact⟨p,rfl,ac (by rw[<-HP.out,scanUp_end _ _ _ _ (iL (by rw[<-I.out,<-I.out,hl];rfl))]),a5,a4,ac (SP.out.drewN _)⟩
        ·have hd:decide ((p:Int)<=(j:Int))=false:=decide_eq_false ω
         have hz:¬(p:Int)<=(j:Int):=ω
         go_wp2_with fail
         go_big_quiet(first|(go_at_call 202;refine kR _ _ _ _))
         go_wp2_with fail
         go_meet;exact⟨p,rfl,ac (by rw[<-HP.out,scanUp_end _ _ _ _ (fU K)]),a5,a4,ac (SP.out.drewN _)⟩
  case rest=>
   obtain⟨H,rfl,a0,b9,WV,S2⟩:=hcut;clear S5
   go_upto_block 4 with fail
   go_cut [10] (λs wx=>∃q:Nat,s= .int .i64 q/\Hid (q=scanDown (λx=>aZ z[a]! x) z H j)/\q<=j/\H<=q+1/\Hid (SWu w0 blk off N z wx))
   case first=>
        go_wp2_with fail
        go_loopw [10] (λJ wl=>∃q:Nat,J= .int .i64 q/\q<=j/\H<=q+1/\Hid (SWu w0 blk off N z wl)/\Hid (scanDown (λx=>aZ z[a]! x) z H q=scanDown (λx=>aZ z[a]! x) z H j)) (λJ _=>(intOf J).toNat)
        case atStart=>exact⟨j,rfl,am _,WV,S2,ac rfl⟩
        case round=>
         clear S2;obtain⟨q,rfl,a3,a2,SQ,HQ⟩:=hrel;obtain⟨G,I,O,Q⟩:=R.fam SQ.out;by_cases K:H<=q
         ·have hd:decide ((H:Int)<=(q:Int))=true:=decide_eq_true ω
          have hz:(H:Int)<=(q:Int):=ω
          cases hl:aZ (G a) (G q) with
          |true=>
           go_wp2_with fail
           go_big_quiet(first|(go_at_call 202;refine kR _ _ _ _))
           go_wp2_with fail
           go_roundw
           case rel=>exact⟨q-1,by congr 1;omega,ω,ω,ac (SQ.out.drewN _),ac (by rw[<-HQ.out,<-scanDown_go _ _ _ _ K ω (by rw[<-I.out,<-I.out,hl])])⟩
           case measure=>simp[intOf];omega
          |false=>
           go_wp2_with fail
           go_big_quiet(first|(go_at_call 202;refine kR _ _ _ _))
           go_wp2_with fail
           go_meet;exact⟨q,rfl,ac (by rw[<-HQ.out,scanDown_end _ _ _ _ (iL (by rw[<-I.out,<-I.out,hl]))]),a3,a2,ac (SQ.out.drewN _)⟩
         ·have hd:decide ((H:Int)<=(q:Int))=false:=decide_eq_false ω
          have hz:¬(H:Int)<=(q:Int):=ω
          go_wp2_with fail
          go_big_quiet(first|(go_at_call 202;refine kR _ _ _ _))
          go_wp2_with fail
          go_meet;exact⟨q,rfl,ac (by rw[<-HQ.out,scanDown_end _ _ _ _ (fU K)]),a3,a2,ac (SQ.out.drewN _)⟩
   case rest=>
        obtain⟨W,rfl,Z,b8,d2,S3⟩:=hcut;clear S2;by_cases b2:W<H
        ·have hz:(W:Int)<(H:Int):=ω
         have a1:=ac (show(H,z)=T by rw[<-HL.out];exact(partEq_break aZ a i j z a0.out Z.out b2).symm)
         go_wp2_with fail
         go_ret;rw[<-a1.out];exact⟨rfl,S3.out⟩
        ·have hz:¬(W:Int)<(H:Int):=ω
         have b6:=scans_lt aZ a i j z ω a0.out Z.out ω;have a1:=ac (show partEqLoop aZ a (H+1) (W-1) (swp z H W)=T by rw[<-HL.out];exact(partEq_go aZ a i j z a0.out Z.out ω).symm);obtain⟨G,I,O,Q⟩:=R.fam S3.out
         go_wp2_with fail
         go_region
         all_goals go_wp2_with fail
         go_roundw
         case rel=>exact⟨H+1,W-1,swp z H W,ν,by congr 1;omega,ω,ω,ω,ac (SWu.xC R S3.out I H W ω ω),a1⟩
         case measure=>simp[intOf];omega
section
variable {b:Nat}
theorem Yh (d:Array Int) {i:Nat} (h:i<b) (a:aZ d[i]! d[i-1]! =false):fm aZ d b i=fm aZ d b (i+1):=by rw[fm,if_pos (by simp[h,a])]
theorem Jj (d:Array Int) {i:Nat} (h:¬i<b\/aZ d[i]! d[i-1]! =true):fm aZ d b i=i:=by rw[fm,if_neg (by rcases h with h|h <;> simp[h])]
theorem adz (d:Array Int) {j:Nat} (h:j<b) (a:aZ d[j]! d[j-1]! =true):jn aZ b j d=jn aZ b (j+1) (swp d j (j-1)):=by rw[jn,if_pos h,a];rfl
theorem SG (d:Array Int) {j:Nat} (h:¬j<b\/aZ d[j]! d[j-1]! =false):jn aZ b j d=d:=by
 rw[jn];rcases h with h|h
 ·rw[if_neg h]
 ·rw[h];split <;> rfl
theorem adA (d:Array Int) {k:Nat} (a:aZ d[k+1]! d[k]! =true):gB aZ (k+1) d=gB aZ k (swp d (k+1) k):=by rw[gB,a];rfl
theorem aa3 (d:Array Int) {k:Nat} (a:aZ d[k+1]! d[k]! =false):gB aZ (k+1) d=d:=by rw[gB,a];rfl
theorem Lm (w0:ae) (blk off cap a b N:Nat) (d:Array Int) (w:ae) (R:RoU w0 blk off N) (S:SWu w0 blk off N d w) (b5:a<b) (hb:b<=N) (b4:N<=400000000):
  aO pg 201 #[.slice (some ⟨blk,off,none⟩) N cap,.int .i64 a,.int .i64 b] w λe w'=>e= .returned (.bool (fe aZ d a b).2)/\SWu w0 blk off N (fe aZ d a b).1 w':=by
 replace S:=ac S;unfold fe;generalize hT:partialIns aZ a b 5 (a+1) d=T;replace hT:=ac hT;go_enter func201,ntmps201
 go_wp2_with fail
 go_loopw [7,8,9,10] (λY vs _ _ wl=>∃(i s:Nat) (H:Array Int),Y= .int .i64 i/\vs= .int .i64 ((5:Int)-(s:Int))/\s<=5/\a<i/\i<=b/\Hid (SWu w0 blk off N H wl)/\Hid (partialIns aZ a b s i H=T)) (λ_ vs _ _ _=>(5-intOf vs).toNat)
 case atStart=>exact⟨a+1,5,d,ν,by rfl,ω,ω,ω,S,hT⟩
 case round=>
  clear S hT;obtain⟨i,s,H,rfl,rfl,bs,bi,b1,S1,HT⟩:=hrel;generalize wr=w1 at*;cases s with
  |zero=>
   have hz:¬((5:Int)-((0:Nat):Int)<5):=ω
   have f:=ac (show(H,false)=T by rw[<-HT.out];rfl)
   go_wp2_with fail
   go_ret;rw[<-f.out];exact⟨rfl,S1.out⟩
  |succ s=>
   have hz:(5:Int)-((s+1:Nat):Int)<5:=ω
   have b3:(5:Int)-((s+1:Nat):Int)+1=5-(s:Int):=ω
   generalize hV:(5:Int)-((s+1:Nat):Int)=V at*;have b7:(5-V).toNat=s+1:=ω
   have b6:0<=V/\V<=4:=ω
   clear hV
   go_upto_block 2 with fail
   go_cut [7] (λY wx=>∃p:Nat,Y= .int .i64 p/\Hid (p=fm aZ H b i)/\a<p/\p<=b/\Hid (SWu w0 blk off N H wx))
   case first=>
        go_wp2_with fail
        go_loopw [7] (λY wl=>∃p:Nat,Y= .int .i64 p/\a<p/\p<=b/\Hid (SWu w0 blk off N H wl)/\Hid (fm aZ H b p=fm aZ H b i)) (λY _=>b-(intOf Y).toNat)
        case atStart=>exact⟨i,rfl,bi,b1,S1,ac rfl⟩
        case round=>
         clear S1;obtain⟨p,rfl,a4,a3,SP,HP⟩:=hrel;obtain⟨G,u,M,K⟩:=R.fam SP.out;by_cases a5:p<b
         ·have hd:decide ((p:Int)<(b:Int))=true:=decide_eq_true ω
          have b0:(p:Int)<(b:Int):=ω
          cases U:aZ (G p) (G (p-1)) with
          |false=>
           go_wp2_with fail
           go_big_quiet(first|(go_at_call 202;refine kR _ _ _ _))
           go_wp2_with fail
           go_roundw
           case rel=>exact⟨p+1,ν,ω,ω,ac (SP.out.drewN _),ac (by rw[<-HP.out,<-Yh _ a5 (by rw[<-u.out,<-u.out,U])])⟩
           case measure=>simp[intOf];omega
          |true=>
           go_wp2_with fail
           go_big_quiet(first|(go_at_call 202;refine kR _ _ _ _))
           go_wp2_with fail
           go_meet;exact⟨p,rfl,ac (by rw[<-HP.out,Jj _ (iL (by rw[<-u.out,<-u.out,U]))]),a4,a3,ac (SP.out.drewN _)⟩
         ·have hd:decide ((p:Int)<(b:Int))=false:=decide_eq_false ω
          have b0:¬(p:Int)<(b:Int):=ω
          go_wp2_with fail
          go_big_quiet(first|(go_at_call 202;refine kR _ _ _ _))
          go_wp2_with fail
          go_meet;exact⟨p,rfl,ac (by rw[<-HP.out,Jj _ (fU a5)]),a4,a3,ac (SP.out.drewN _)⟩
   case rest=>
        obtain⟨p,rfl,hp,b9,b8,S2⟩:=hcut;clear S1;have I:=ac ((partialIns_succ a b s i H (lt:=aZ)).symm.trans HT.out);rw[<-hp.out] at I;by_cases a1:p=b
        ·have a2:(p:Int)=(b:Int):=ω
         have f:=ac (show(H,true)=T by rw[<-I.out,if_pos a1])
         go_wp2_with fail
         go_ret;rw[<-f.out];exact⟨rfl,S2.out⟩
        ·have a2:¬(p:Int)=(b:Int):=ω
         have d2:((p:Int)==(b:Int))=false:=by simpa using a2
         by_cases a8:b-a<50
         ·have a9:(b:Int)-(a:Int)<50:=ω
          have f:=ac (show(H,false)=T by rw[<-I.out,if_neg a1,if_pos a8])
          go_wp2_with fail
          go_ret;rw[<-f.out];exact⟨rfl,S2.out⟩
         ·have a9:¬(b:Int)-(a:Int)<50:=ω
          have f:=ac (I.out);rw[if_neg a1,if_neg a8] at f;obtain⟨G,u,M,K⟩:=R.fam S2.out
          go_wp2_with fail
          go_region
          have S3:=ac (SWu.xC R S2.out u p (p-1) ω ω);obtain⟨d3,a7⟩:∃d3,d3=swp H p (p-1):=⟨_,rfl⟩;rw[<-a7] at S3 f;clear S2 M K u a7 hp HT I;generalize((wc.setCell ⟨blk,off+p,none⟩ (.int .u32 (G (p-1)))).setCell ⟨blk,off+(p-1),none⟩ (.int .u32 (G p))).drew=w3 at*;obtain⟨J,q⟩:∃J,Hid (J=fixDown aZ a p d3):=⟨_,ac rfl⟩;rw[<-q.out] at f
          go_upto_if 61 with fail
          go_cut [9] (λ_ wx=>Hid (SWu w0 blk off N J wx))
          case first=>
           by_cases h2:p-a≥2
           ·have a0:(2:Int)<=(p:Int)-(a:Int):=ω
            have z:Hid (gB aZ (p-1) d3=J):=ac (by rw[q.out];unfold fixDown;rw[if_pos h2]);clear q
            go_wp2_with fail
            go_loopw [9] (λX wl=>∃(j:Nat) (O:Array Int),X= .int .i64 j/\j<b/\Hid (SWu w0 blk off N O wl)/\Hid (gB aZ j O=J)) (λX _=>(intOf X).toNat)
            case atStart=>exact⟨p-1,d3,by congr 1;omega,ω,S3,z⟩
            case round=>
             clear S3;obtain⟨j,O,rfl,bj,Q,HJ⟩:=hrel;cases j with
             |zero=>
              have Z:¬(1:Int)<=((0:Nat):Int):=ω
              go_wp2_with fail
              go_meet;exact ac (by rw[<-HJ.out];exact Q.out)
             |succ j=>
              obtain⟨G,u,M,K⟩:=R.fam Q.out;have Z:(1:Int)<=((j+1:Nat):Int):=ω
              have b2:((j+1:Nat):Int)-1=(j:Int):=ω
              cases U:aZ (G (j+1)) (G j) with
              |true=>
               go_wp2_with fail
               go_big_quiet(first|(go_at_call 202;refine kR _ _ _ _))
               go_wp2_with fail
               go_region
               all_goals go_wp2_with fail
               go_roundw
               case rel=>exact⟨j,swp O (j+1) j,by congr 1,ω,ac (SWu.FM R Q.out u _ (j+1) j ω ω),ac (by rw[<-HJ.out,adA _ (by rw[<-u.out,<-u.out];exact U)])⟩
               case measure=>simp[intOf]
              |false=>
               go_wp2_with fail
               go_big_quiet(first|(go_at_call 202;refine kR _ _ _ _))
               go_wp2_with fail
               go_meet;exact ac (by rw[<-HJ.out,aa3 _ (by rw[<-u.out,<-u.out];exact U)];exact Q.out.drewN _)
           ·have a0:¬(2:Int)<=(p:Int)-(a:Int):=ω
            have z:Hid (d3=J):=ac (by rw[q.out];unfold fixDown;rw[if_neg h2])
            go_wp2_with fail
            go_meet;rw[<-z.out];exact S3
          case rest=>
           replace hcut:=ac hcut;clear S3;have S4:=ac hcut.out.out;clear hcut q;obtain⟨W,q⟩:∃W,Hid (W=fixUp aZ b p J):=⟨_,ac rfl⟩;rw[<-q.out] at f
           go_upto_if 98 with fail
           by_cases h2:b-p≥2
           ·have a0:(2:Int)<=(b:Int)-(p:Int):=ω
            have z:Hid (jn aZ b (p+1) J=W):=ac (by rw[q.out];unfold fixUp;rw[if_pos h2]);clear q
            go_wp2_with fail
            go_loopw [10] (λX wl=>∃(j:Nat) (O:Array Int),X= .int .i64 j/\p<j/\j<=b/\Hid (SWu w0 blk off N O wl)/\Hid (jn aZ b j O=W)) (λX _=>b-(intOf X).toNat)
            case atStart=>exact⟨p+1,J,ν,ω,ω,S4,z⟩
            case round=>
             clear S4;obtain⟨j,O,rfl,d1,bj,Q,HJ⟩:=hrel;by_cases a6:j<b
             ·obtain⟨G,u,M,K⟩:=R.fam Q.out
              have Z:(j:Int)<(b:Int):=ω
              cases U:aZ (G j) (G (j-1)) with
              |true=>
               go_wp2_with fail
               go_big_quiet(first|(go_at_call 202;refine kR _ _ _ _))
               go_wp2_with fail
               go_region
               all_goals go_wp2_with fail
               go_roundw
               case rel=>exact⟨j+1,swp O j (j-1),ν,ω,ω,ac (SWu.FM R Q.out u _ j (j-1) ω ω),ac (by rw[<-HJ.out,adz _ a6 (by rw[<-u.out,<-u.out];exact U)])⟩
               case measure=>simp[intOf];omega
              |false=>
               go_wp2_with fail
               go_big_quiet(first|(go_at_call 202;refine kR _ _ _ _))
               go_wp2_with fail
               go_roundw
               case rel=>exact⟨p,s,W,rfl,by congr 1,ω,ω,ω,ac (by rw[<-HJ.out,SG _ (iL (by rw[<-u.out,<-u.out];exact U))];exact Q.out.drewN _),f⟩
               case measure=>simp[intOf];omega
             ·have Z:¬(j:Int)<(b:Int):=ω
              go_wp2_with fail
              go_roundw
              case rel=>exact⟨p,s,W,rfl,by congr 1,ω,ω,ω,ac (by rw[<-HJ.out,SG _ (fU a6)];exact Q.out),f⟩
              case measure=>simp[intOf];omega
           ·have a0:¬(2:Int)<=(b:Int)-(p:Int):=ω
            have z:Hid (J=W):=ac (by rw[q.out];unfold fixUp;rw[if_neg h2])
            go_wp2_with fail
            go_roundw
            case rel=>exact⟨p,s,W,rfl,by congr 1,ω,ω,ω,(by rw[<-z.out];exact S4),f⟩
            case measure=>simp[intOf];omega
end
def CtU (w0:ae) (blk off N:Nat) (d:Array Int) (c:Nat) (W:ae):Prop:=
 SWu w0 blk off N d W/\(∃s,W.cell? ⟨c,0,none⟩=some (.int .i64 s))/\W.frozen? ⟨c,0,none⟩=false/\w0.heap.size<=c
theorem CtU.drewN {w0 W:ae} {blk off N c:Nat} {d:Array Int} (h:CtU w0 blk off N d c W) (q:Nat):CtU w0 blk off N d c (W.drewN q):=⟨h.1.drewN q,h.2.1,h.2.2.1,h.2.2.2⟩
theorem CtU.put {w0 W:ae} {blk off N c:Nat} {d:Array Int} (h:CtU w0 blk off N d c W) (t:Int):CtU w0 blk off N d c (W.setCell ⟨c,0,none⟩ (.int .i64 t)):=by
 obtain⟨s,a⟩:=h.2.1;exact⟨⟨h.1.1.setCell_new c 0 _ h.2.2.2,h.1.2⟩,⟨t,fS _ _ _ a⟩,by rw[eG];exact h.2.2.1,h.2.2.2⟩
theorem Gt (w0:ae) (blk off cap a b c N:Nat) (d:Array Int) (w:ae) (R:RoU w0 blk off N) (S:CtU w0 blk off N d c w) (I:a<N) (H:b<N) (j:N<=400000000):
  aO pg 219 #[.slice (some ⟨blk,off,none⟩) N cap,.int .i64 a,.int .i64 b,.pointer (some ⟨c,0,none⟩)] w λe w'=>∃x y:Nat,e= .returned (.tuple #[.int .i64 x,.int .i64 y])/\((x=a/\y=b)\/(x=b/\y=a))/\CtU w0 blk off N d c w':=by
 replace S:=ac S;obtain⟨G,J,i,f⟩:=R.fam S.out.1;go_enter func219,ntmps219
 go_wp2_with fail
 go_big_quiet(first|(go_at_call 202;refine kR _ _ _ _))
 replace S:=ac (S.out.drewN nq);clear i f;generalize w.drewN nq=q at*;obtain⟨s,u⟩:=S.out.2.1;have z:=S.out.2.2.1
 go_wp2_with fail
 ·exact aB (v:= .tuple #[.int .i64 (b:Nat),.int .i64 (a:Nat)]) (by simp[cg,results219,go_sem]) rfl ⟨b,a,rfl,iL ⟨rfl,rfl⟩,S.out.put _⟩
 ·exact aB (v:= .tuple #[.int .i64 (a:Nat),.int .i64 (b:Nat)]) (by simp[cg,results219,go_sem]) rfl ⟨a,b,rfl,fU ⟨rfl,rfl⟩,S.out⟩
theorem Ot (w0:ae) (blk off cap a b k c N:Nat) (d:Array Int) (w:ae) (R:RoU w0 blk off N) (S:CtU w0 blk off N d c w) (U:a<N) (Q:b<N) (O:k<N) (f:N<=400000000):
  aO pg 217 #[.slice (some ⟨blk,off,none⟩) N cap,.int .i64 a,.int .i64 b,.int .i64 k,.pointer (some ⟨c,0,none⟩)] w λe w'=>∃m:Nat,e= .returned (.int .i64 m)/\(m=a\/m=b\/m=k)/\CtU w0 blk off N d c w':=by
 replace S:=ac S;go_enter func217,ntmps217
 go_wp2_with fail
 refine(Gt w0 blk off cap a b c N d w R S.out U Q f).mono ?_;rintro e M ⟨x,y,rfl,i,u⟩;replace u:=ac u;replace i:=ac i;clear S
 go_wp2_with fail
 refine(Gt w0 blk off cap y k c N d M R u.out (by have:=i.out;omega) O f).mono ?_;rintro e K ⟨J,W,rfl,j,q⟩;replace q:=ac q;replace j:=ac j;clear u
 go_wp2_with fail
 refine(Gt w0 blk off cap x J c N d K R q.out (by have:=i.out;omega) (by have:=i.out;have:=j.out;omega) f).mono ?_;rintro e w3 ⟨x3,I,rfl,z,H⟩;replace H:=ac H;replace z:=ac z;clear q
 go_wp2_with fail
 go_ret;exact⟨I,rfl,by have:=i.out;have:=j.out;have:=z.out;omega,H.out⟩
theorem yw (w0:ae) (blk off cap a c N:Nat) (d:Array Int) (w:ae) (R:RoU w0 blk off N) (S:CtU w0 blk off N d c w) (q:1<=a) (I:a+1<N) (f:N<=400000000):
  aO pg 216 #[.slice (some ⟨blk,off,none⟩) N cap,.int .i64 a,.pointer (some ⟨c,0,none⟩)] w λe w'=>∃m:Nat,e= .returned (.int .i64 m)/\a<=m+1/\m<=a+1/\CtU w0 blk off N d c w':=by
 replace S:=ac S;obtain⟨p,rfl⟩:∃p,a=p+1:=⟨a-1,ω⟩;have z:((p+1:Nat):Int)-1=(p:Int):=ω
 have u:((p+1:Nat):Int)+1=((p+2:Nat):Int):=ω
 go_enter func216,ntmps216;generalize j:((p+1:Nat):Int)=Z at*
 go_wp2_with fail
 rw[<-j];refine(Ot w0 blk off cap p (p+1) (p+2) c N d w R S.out ω ω ω f).mono ?_;rintro e H ⟨m,rfl,hm,i⟩;replace i:=ac i;replace hm:=ac hm
 go_wp2_with fail
 go_ret;exact⟨m,rfl,by have:=hm.out;omega,by have:=hm.out;omega,i.out⟩
theorem I6 (w0:ae) (blk off cap a b N:Nat) (d:Array Int) (w:ae) (R:RoU w0 blk off N) (S:SWu w0 blk off N d w) (a3:a+8<b) (hb:b<=N) (u:N<=400000000):
  aO pg 199 #[.slice (some ⟨blk,off,none⟩) N cap,.int .i64 a,.int .i64 b] w λe w'=>∃(p:Nat) (h:Int),e= .returned (.tuple #[.int .i64 p,.int .i64 h])/\a<=p/\p<b/\SWu w0 blk off N d w':=by
 replace S:=ac S;obtain⟨n,hn⟩:∃n:Nat,(b:Int)-(a:Int)=(n:Int):=⟨b-a,ω⟩;obtain⟨q,hq⟩:∃q:Nat,(n:Int)/4=(q:Int):=⟨n/4,ω⟩;obtain⟨M,a2⟩:∃i:Nat,(a:Int)+(q:Int)=(i:Int):=⟨a+q,ω⟩;obtain⟨K,a1⟩:∃i:Nat,(a:Int)+(q:Int)*2=(i:Int):=⟨a+q*2,ω⟩;obtain⟨J,a0⟩:∃i:Nat,(a:Int)+(q:Int)*3=(i:Int):=⟨a+q*3,ω⟩;have W:a<M/\M<K/\K<J/\J+1<b:=ω
 have b0:=W;replace W:=ac W;have z8:(8:Int)<=(n:Int):=ω
 go_enter func199,ntmps199
 go_upto_if 34 with fail
 have Q:Hid (CtU w0 blk off N d w.heap.size (w.alloc (.cells #[.int .i64 0] 3))):=ac ⟨⟨S.out.1.alloc _,S.out.2⟩,⟨0,ι⟩,ι,S.out.1.le⟩;clear S;generalize w.alloc (.cells #[.int .i64 0] 3)=w1 at*;generalize w.heap.size=c at*
 go_cut [10,11,12] (λvx vy vz Y=>∃x y z:Nat,vx= .int .i64 x/\vy= .int .i64 y/\vz= .int .i64 z/\Hid (a<=x/\x<b/\a<=y/\y<b/\a<=z/\z<b)/\Hid (CtU w0 blk off N d c Y))
 case first=>
  by_cases a4:(50:Int)<=(n:Int)
  ·go_wp2_with fail
   refine(yw w0 blk off cap M c N d w1 R Q.out ω ω u).mono ?_;rintro e Z ⟨x,rfl,x1,x2,H⟩;replace H:=ac H;have hx:=ac (aS x1 x2);clear Q x1 x2
   go_wp2_with fail
   refine(yw w0 blk off cap K c N d Z R H.out ω ω u).mono ?_;rintro e w3 ⟨y,rfl,x1,x2,O⟩;replace O:=ac O;have hy:=ac (aS x1 x2);clear H x1 x2
   go_wp2_with fail
   refine(yw w0 blk off cap J c N d w3 R O.out ω ω u).mono ?_;rintro e w4 ⟨z,rfl,x1,x2,X⟩;replace X:=ac X;have hz:=ac (aS x1 x2);clear O x1 x2
   go_wp2_with fail
   go_meet;exact⟨x,y,z,rfl,rfl,rfl,ac (by have:=hx.out;have:=hy.out;have:=hz.out;omega),X⟩
  ·go_wp2_with fail
   go_meet;exact⟨M,K,J,rfl,rfl,rfl,ac ω,Q⟩
 case rest=>
  obtain⟨x,y,z,rfl,rfl,rfl,U,H⟩:=hcut;clear Q;have j:=U.out;replace j:=ac j
  go_wp2_with fail
  refine(Ot w0 blk off cap x y z c N d wc R H.out (by have:=j.out;omega) (by have:=j.out;omega) (by have:=j.out;omega) u).mono ?_;rintro e w5 ⟨m,rfl,hm,I⟩;have f:=ac (show a<=m/\m<b by have:=j.out;omega);replace I:=ac I;clear H hm;obtain⟨s,hs⟩:=I.out.2.1
  go_wp2_with fail
  ·exact aB (v:= .tuple #[.int .i64 (m:Nat),.int .i64 1]) (by simp[cg,results199,go_sem]) rfl ⟨m,_,rfl,f.out.1,f.out.2,I.out.1⟩
  ·exact aB (v:= .tuple #[.int .i64 (m:Nat),.int .i64 2]) (by simp[cg,results199,go_sem]) rfl ⟨m,_,rfl,f.out.1,f.out.2,I.out.1⟩
  ·exact aB (v:= .tuple #[.int .i64 (m:Nat),.int .i64 0]) (by simp[cg,results199,go_sem]) rfl ⟨m,_,rfl,f.out.1,f.out.2,I.out.1⟩
def RnU (w0:ae) (blk off N:Nat) (d:Array Int) (c:Nat) (W:ae):Prop:=
 SWu w0 blk off N d W/\(∃X:Nat,X<18446744073709551616/\W.cell? ⟨c,0,none⟩=some (.int .u64 X))/\W.frozen? ⟨c,0,none⟩=false/\w0.heap.size<=c
theorem RnU.xC {w0 W:ae} {blk off N c:Nat} {f:Array Int} (R:RoU w0 blk off N) (S:RnU w0 blk off N f c W) {G:Nat->Int} (H:Hid (∀t,G t=f[t]!)) (i j:Nat) (hi:i<N) (q:j<N):
  RnU w0 blk off N (swp f i j) c ((W.setCell ⟨blk,off+i,none⟩ (.int .u32 (G j))).setCell ⟨blk,off+j,none⟩ (.int .u32 (G i))).drew:=by
 have a:c≠blk:=by have:=S.2.2.2;have:=R.lt;omega
 obtain⟨X,z,u⟩:=S.2.1;refine⟨SWu.xC R S.1 H i j hi q,⟨X,z,?_⟩,?_,S.2.2.2⟩
 ·show((W.setCell _ _).setCell _ _).cell? _=_
  rw[fG _ _ _ _ (by intro e;simp only[jb] at e;exact a e.1.symm),fG _ _ _ _ (by intro e;simp only[jb] at e;exact a e.1.symm)];exact u
 ·show((W.setCell _ _).setCell _ _).frozen? _=_
  rw[eG,eG];exact S.2.2.1
theorem adN {w0 W:ae} {blk off N c:Nat} {d:Array Int} (S:RnU w0 blk off N d c W):
  aO pg 193 #[.pointer (some ⟨c,0,none⟩)] W λe w'=>∃X:Nat,e= .returned (.int .u64 X)/\X<18446744073709551616/\RnU w0 blk off N d c w':=by
 obtain⟨X,a,f⟩:=S.2.1;refine(AnyF.xorshift_Next Tryz.xoN c 0 X a W f S.2.2.1).mono ?_;rintro e w' ⟨rfl,rfl⟩;refine⟨_,rfl,xorNextN_lt X a,⟨⟨(S.1.1.setCell_new c 0 _ S.2.2.2).drewN 3,S.1.2⟩,⟨_,xorNextN_lt X a,?_⟩,?_,S.2.2.2⟩⟩
 ·rw[World.cell?_drewN];exact fS _ _ _ f
 ·rw[World.frozen?_drewN,eG];exact S.2.2.1
theorem adG (n:Nat) (hn:n<=400000000) (w:ae):aO pg 192 #[.int .i64 n] w λe w'=>e= .returned (.int .u64 ((1<<<bitsLen n:Nat):Int))/\w=w':=
 (AnyF.nextPowerOfTwo Tryz.np2 n ω w).mono λe w' h=>⟨h.1,h.2.symm⟩
theorem EU (w0:ae) (blk off cap a b N:Nat) (d:Array Int) (w:ae) (R:RoU w0 blk off N) (S:SWu w0 blk off N d w) (a8:a+8<b) (hb:b<=N) (a0:N<=400000000):
  aO pg 198 #[.slice (some ⟨blk,off,none⟩) N cap,.int .i64 a,.int .i64 b] w λe w'=>e= .returned (.tuple #[])/\∃d',iJ a b d d'/\SWu w0 blk off N d' w':=by
 replace S:=ac S;obtain⟨n,hn⟩:∃n:Nat,(b:Int)-(a:Int)=(n:Int):=⟨b-a,ω⟩;obtain⟨q,hq⟩:∃q:Nat,(n:Int)/4=(q:Int):=⟨n/4,ω⟩;obtain⟨f,a6⟩:∃i:Nat,(a:Int)+(q:Int)*2=(i:Int):=⟨a+q*2,ω⟩;have b0:a+2<=f/\f+1<b:=ω
 have z8:(8:Int)<=(n:Int):=ω
 obtain⟨M,J⟩:∃M:Nat,M=1<<<bitsLen n:=⟨_,rfl⟩;have b1:1<=M:=by rw[J,Nat.one_shiftLeft];exact Nat.two_pow_pos _
 have a9:M<=2*n:=by rw[J,Nat.one_shiftLeft];exact two_pow_bitsLen_le ω
 have I:=λW=>adG n ω W
 rw[<-J] at I;replace I:=ac I;clear J;have S1:Hid (RnU w0 blk off N d w.heap.size (w.alloc (.cells #[.int .u64 (n:Int)] 298))):=ac ⟨⟨S.out.1.alloc _,S.out.2⟩,⟨n,ω,ι⟩,ι,S.out.1.le⟩;go_enter func198,ntmps198
 go_wp2_with fail
 clear S;generalize w.alloc (.cells #[.int .u64 (n:Int)] 298)=w1 at*;generalize w.heap.size=c at*;refine(I.out _).mono ?_;rintro e w2 ⟨rfl,rfl⟩
 go_wp2_with fail
 go_loopw [9,10] (λK _ wl=>∃(i:Nat) (j:Array Int),K= .int .i64 i/\f<=i+1/\i<=f+2/\Hid (RnU w0 blk off N j c wl)/\Hid (iJ a b d j)) (λK _ _=>f+2-(intOf K).toNat)
 case atStart=>exact⟨f-1,d,by congr 1;omega,ω,ω,S1,ac (jg d a b)⟩
 case round=>
  clear S1;obtain⟨i,j,rfl,a4,a3,S2,HP⟩:=hrel;by_cases a2:i<=f+1
  ·have hz:(i:Int)<=(f:Int)+1:=ω
   go_wp2_with fail
   refine(adN S2.out).mono ?_;rintro e w3 ⟨X,rfl,hX,H⟩;replace H:=ac H;clear S2;obtain⟨O,Y⟩:∃O:Nat,O=X&&&(M-1):=⟨_,rfl⟩;have lO:O<=M-1:=by rw[Y];exact Nat.and_le_right
   have z:bits .and .u64 (X:Int) ((M:Int)-1)=(O:Int):=by
        rw[show((M:Int)-1)=((M-1:Nat):Int) by omega,bits_and_u64_nat _ _ hX ω,Y]
   clear Y
   go_upto_if 43 with fail
   go_cut [10] (λs wx=>∃o:Nat,s= .int .i64 o/\o<n/\Hid (RnU w0 blk off N j c wx))
   case first=>
        by_cases a1:n<=O
        ·have Q:(n:Int)<=(O:Int):=ω
         go_wp2_with fail
         go_meet;exact⟨O-n,by congr 1;omega,ω,H⟩
        ·have Q:¬(n:Int)<=(O:Int):=ω
         go_wp2_with fail
         go_meet;exact⟨O,rfl,ω,H⟩
   case rest=>
        obtain⟨o,rfl,ho,Z⟩:=hcut;clear H z lO;obtain⟨k,hk⟩:∃k:Nat,(a:Int)+(o:Int)=(k:Int):=⟨a+o,ω⟩;obtain⟨G,HG,U,a5⟩:=R.fam Z.out.1;obtain⟨u,a7⟩:=DV U i k (.int .u32 (G k)) ω ω
        go_wp2_with fail
        go_region
        all_goals go_wp2_with fail
        go_roundw
        case rel=>exact⟨i+1,swp j i k,ν,ω,ω,ac (Z.out.xC R HG i k ω ω),ac (permIn_trans _ _ _ a b HP.out (swp_permIn j a b i k ω ω ω ω (by rw[Z.out.1.2];omega)))⟩
        case measure=>simp[intOf];omega
  ·have hz:¬(i:Int)<=(f:Int)+1:=ω
   go_wp2_with fail
   go_end0
   exact⟨rfl,j,HP.out,S2.out.1⟩
abbrev agV (a b:Nat) (d:Array Int):Prop:=Go.Sort.Below aZ a b d
def acN (a b:Nat) (d:Array Int) (i j:Nat) (e:Array Int):Prop:=∀R,iJ i j e R->SortedIn aZ i j R->iJ a b d R/\SortedIn aZ a b R
theorem acN.perm {a b i j:Nat} {d e f:Array Int} (h:acN a b d i j e) (u:iJ i j e f):acN a b d i j f:=λR hR q=>h R (permIn_trans _ _ _ i j u hR) q
theorem afq (w0:ae) (blk off cap N:Nat) (R:RoU w0 blk off N) (u:N<=400000000) (n:Nat):∀(a b:Nat) (l:Int) (d:Array Int) (w:ae),b-a<=n->SWu w0 blk off N d w->a<=b->b<=N->agV a b d->
  aO pg 168 #[.slice (some ⟨blk,off,none⟩) N cap,.int .i64 a,.int .i64 b,.int .i64 l] w λe w'=>e= .returned (.tuple #[])/\∃d',iJ a b d d'/\SortedIn aZ a b d'/\SWu w0 blk off N d' w':=by
 induction n using Nat.strongRecOn with
 |_ n IH=>
 intro a b l d w hn S b1 hb hB;replace S:=ac S;replace hB:=ac hB;replace IH:=ac IH;go_enter func168,ntmps168
 go_wp2_with fail
 go_loopw [1,2,3,8,9] (λva vb vl vx vy wl=>∃(i j:Nat) (l:Int) (wb wp:Bool) (U:Array Int),va= .int .i64 i/\vb= .int .i64 j/\vl= .int .i64 l/\vx= .bool wb/\vy= .bool wp/\a<=i/\i<=j/\j<=b/\
   Hid (SWu w0 blk off N U wl)/\Hid (agV i j U)/\Hid (acN a b d i j U)) (λva vb _ _ _ _=>(intOf vb-intOf va).toNat)
 case atStart=>exact⟨a,b,l,true,true,d,rfl,rfl,rfl,rfl,rfl,am _,b1,am _,S,hB,ac (λR Q H=>⟨Q,H⟩)⟩
 case round=>
  clear S hB;obtain⟨i,j,l,wb,wp,U,rfl,rfl,rfl,rfl,rfl,b7,Z,a5,S1,X,M⟩:=hrel;obtain⟨m,hm⟩:∃m:Nat,(j:Int)-(i:Int)=(m:Int):=⟨j-i,ω⟩;generalize wr=w1 at*;by_cases b9:m<=12
  ·have hz:(m:Int)<=12:=ω
   go_wp2_with fail
   refine(OH w0 blk off cap i j N U w1 R S1.out Z ω u).mono ?_;rintro e w2 ⟨rfl,J⟩;replace J:=ac J
   go_wp2_with fail
   (try simp only[fM,Exit.then]);refine aB (gR rfl _ _ _) rfl ?_
   obtain⟨p1,O⟩:=insertionSort_holds (lt:=aZ) jo U i j Z (by rw[S1.out.2];omega);obtain⟨f1,f2⟩:=M.out _ p1 O;exact⟨rfl,_,f1,f2,J.out⟩
  ·have hz:¬(m:Int)<=12:=ω
   by_cases hl:l=0
   ·have a2:(l==0)=true:=by simpa using hl
    go_wp2_with fail
    refine(Rk w0 blk off cap i j N U w1 R S1.out ω ω u).mono ?_;rintro e w2 ⟨rfl,J⟩;replace J:=ac J
    go_wp2_with fail
    (try simp only[fM,Exit.then]);refine aB (gR rfl _ _ _) rfl ?_
    obtain⟨p1,O⟩:=heapSort_holds (lt:=aZ) jo U i j Z (by rw[S1.out.2];omega);obtain⟨f1,f2⟩:=M.out _ p1 O;exact⟨rfl,_,f1,f2,J.out⟩
   ·have a2:(l==0)=false:=by simpa using hl
    go_upto_if 35 with fail
    go_cut [3] (λs Y=>∃(l:Int) (W:Array Int),s= .int .i64 l/\Hid (iJ i j U W)/\Hid (SWu w0 blk off N W Y))
    case first=>
     cases wb with
     |true=>
      go_wp2_with fail
      go_meet;exact⟨l,U,rfl,ac (jg _ _ _),S1⟩
     |false=>
      go_wp2_with fail
      refine(EU w0 blk off cap i j N U w1 R S1.out ω ω u).mono ?_;rintro e w2 ⟨rfl,W,P1,J⟩;replace J:=ac J;replace P1:=ac P1
      go_wp2_with fail
      go_meet;exact⟨_,W,rfl,P1,J⟩
    case rest=>
     obtain⟨l2,W,rfl,P1,J⟩:=hcut;replace M:=ac (M.out.perm P1.out);replace X:=ac (X.out.perm (by rw[S1.out.2];omega) P1.out);clear S1 P1 a2 hl
     go_wp2_with fail
     refine(I6 w0 blk off cap i j N W wc R J.out ω ω u).mono ?_;rintro e w3 ⟨p,h,rfl,a4,a3,S3⟩;replace S3:=ac S3;clear J
     go_upto_if 50 with fail
     go_cut [11,12] (λs t Y=>∃(p:Nat) (h:Int) (d2:Array Int),s= .int .i64 p/\t= .int .i64 h/\i<=p/\p<j/\Hid (iJ i j W d2)/\Hid (SWu w0 blk off N d2 Y))
     case first=>
      by_cases H:h=2
      ·subst H
       go_wp2_with fail
       refine(UZ w0 blk off cap i j N W w3 R S3.out ω ω u).mono ?_;rintro e w4 ⟨rfl,S4⟩;replace S4:=ac S4
       go_wp2_with fail
       go_meet;exact⟨(j-1)-(p-i),1,_,by congr 1;omega,rfl,ω,ω,ac (reverseRange_holds W i j Z (by rw[S3.out.2];omega)),S4⟩
      ·have b8:(h==2)=false:=by simpa using H
       go_wp2_with fail
       go_meet;exact⟨p,h,W,rfl,rfl,a4,a3,ac (jg _ _ _),S3⟩
     case rest=>
      obtain⟨O,H,d2,rfl,rfl,z,VX,P2,S4⟩:=hcut;replace M:=ac (M.out.perm P2.out);replace X:=ac (X.out.perm (by rw[S3.out.2];omega) P2.out);clear S3 P2 a4 a3
      go_upto_region 15 with fail
      go_cut [68] (λs Y=>(∃t:Bool,s= .bool t)/\Hid (SWu w0 blk off N d2 Y))
      case first=>
          by_cases Q:H=1
          ·subst Q
           cases wb <;> cases wp <;>
           ·go_wp2_with fail
            go_meet;exact⟨⟨_,rfl⟩,S4⟩
          ·have d5:(H==1)=false:=by simpa using Q
           cases wb <;> cases wp <;>
           ·go_wp2_with fail
            go_meet;exact⟨⟨_,rfl⟩,S4⟩
      case rest=>
          obtain⟨⟨t,rfl⟩,S5⟩:=hcut;clear S4
          go_upto_if 68 with fail
          go_cut [72] (λ_ Y=>∃I,Hid (iJ i j d2 I)/\Hid (SWu w0 blk off N I Y))
          case first=>
           cases t with
           |true=>
            go_wp2_with fail
            refine(Lm w0 blk off cap i j N d2 _ R S5.out ω ω u).mono ?_;rintro e w6 ⟨rfl,S6⟩;have hp:=ac (partialInsertionSort_holds (lt:=aZ) jo d2 i j ω (by rw[S5.out.2];omega) X.out);generalize fe aZ d2 i j=T at*;replace S6:=ac S6;cases hT:T.2 with
            |true=>
             obtain⟨f1,f2⟩:=M.out _ hp.out.1 (hp.out.2 hT);have hf:=ac (aS f1 f2);clear f1 f2
             go_wp2_with fail
             (try simp only[fM,Exit.then]);refine aB (gR rfl _ _ _) rfl ?_
             exact⟨rfl,_,hf.out.1,hf.out.2,S6.out⟩
            |false=>
             go_wp2_with fail
             go_meet;exact⟨T.1,ac hp.out.1,S6⟩
           |false=>
            go_wp2_with fail
            go_meet;exact⟨d2,ac (jg _ _ _),S5⟩
          case rest=>
           replace hcut:=ac hcut;obtain⟨I,P3,S6⟩:=hcut.out;clear hcut;replace M:=ac (M.out.perm P3.out);replace X:=ac (X.out.perm (by rw[S5.out.2];omega) P3.out);clear S5 P3;obtain⟨G,HG,b0,a9⟩:=R.fam S6.out
           go_upto_region 17 with fail
           go_cut [87] (λs Y=>s= .bool (decide (0<i)&& !ltInt I[i-1]! I[O]!)/\Hid (SWu w0 blk off N I Y))
           case first=>
             by_cases a6:0<i
             ·have a1:(0:Int)<(i:Int):=ω
              have a8:decide ((0:Int)<(i:Int))=true:=decide_eq_true a1
              go_wp2_with fail
              go_big_quiet(first|(go_at_call 202;refine kR _ _ _ _))
              go_wp2_with fail
              all_goals
               go_meet;exact⟨by rw[<-HG.out,<-HG.out];simp[a6],ac (S6.out.drewN _)⟩
             ·have a1:¬(0:Int)<(i:Int):=ω
              have a8:decide ((0:Int)<(i:Int))=false:=decide_eq_false a1
              go_wp2_with fail
              go_big_quiet(first|(go_at_call 202;refine kR _ _ _ _))
              go_wp2_with fail
              all_goals
               go_meet;exact⟨by simp[a6],ac (S6.out.drewN _)⟩
           case rest=>
             obtain⟨rfl,S7⟩:=hcut;clear S6 b0 a9 HG;cases hq:(decide (0<i)&& !ltInt I[i-1]! I[O]!) with
             |true=>
              have a0:0<i/\aZ I[i-1]! I[O]! =false:=by simpa using hq
              obtain⟨f,d4,hx⟩:∃f d4,ib aZ I i j O=(f,d4):=⟨_,_,rfl⟩;obtain⟨e1,e2,e3,e4,e5⟩:=round_eq (lt:=aZ) jo (partitionEqual_holds aZ) a0.1 z VX (by rw[S7.out.2];omega) X.out a0.2 hx;replace e4:=ac e4;replace e5:=ac e5;clear hq a0
              go_wp2_with fail
              refine(Dm w0 blk off cap i j O N I _ R S7.out z VX ω u).mono ?_;rintro e w8 ⟨rfl,K⟩;rw[hx] at K⊢;replace K:=ac K
              go_wp2_with fail
              go_roundw
              case rel=>exact⟨f,j,l2,wb,wp,d4,rfl,rfl,rfl,rfl,rfl,ω,e2,a5,K,e4,ac (λR Q H=>by obtain⟨g1,g2⟩:=e5.out R Q H;exact M.out R g1 g2)⟩
              case measure=>simp[intOf];omega
             |false=>
              clear hq;obtain⟨f,ap,d4,hx⟩:∃f ap d4,partition aZ I i j O=(f,ap,d4):=⟨_,_,_,rfl⟩;obtain⟨e1,e2,e3,e4,e5,e6,e7⟩:=round_part (lt:=aZ) jo (partition_holds aZ) z VX (by rw[S7.out.2];omega) X.out hx;replace e4:=ac e4;replace e5:=ac e5;replace e6:=ac e6;replace e7:=ac e7
              go_wp2_with fail
              refine(Oc w0 blk off cap i j O N I _ R S7.out z VX ω u).mono ?_;rintro e w8 ⟨rfl,K⟩;rw[hx] at K⊢;replace K:=ac K;clear hx S7 X;obtain⟨ml,b4⟩:∃q:Nat,(f:Int)-(i:Int)=(q:Int):=⟨f-i,ω⟩;obtain⟨mr,b2⟩:∃q:Nat,(j:Int)-(f:Int)=(q:Int):=⟨j-f,ω⟩;obtain⟨m8,b5⟩:∃q:Nat,(m:Int)/8=(q:Int):=⟨m/8,ω⟩;obtain⟨mp,b3⟩:∃q:Nat,(f:Int)+1=(q:Int):=⟨f+1,ω⟩;by_cases b6:ml<mr
              ·have a7:(ml:Int)<(mr:Int):=ω
               go_wp2_with fail
               refine(IH.out (f-i) ω i f l2 d4 w8 (am _) K.out e1 ω e4.out).mono ?_;rintro e w9 ⟨rfl,dL,P9,s9,S9⟩;replace S9:=ac S9;have hL:=ac (e6.out dL P9 s9);clear K P9 s9
               go_wp2_with fail
               go_roundw
               case rel=>
                   have VZ:mp=f+1:=ω
                   exact⟨mp,j,l2,_,ap,dL,rfl,rfl,rfl,rfl,rfl,ω,ω,a5,S9,ac (by rw[VZ];exact hL.out.1),ac (λR Q H=>by rw[VZ] at Q H;obtain⟨g1,g2⟩:=hL.out.2 R Q H;exact M.out R g1 g2)⟩
               case measure=>simp[intOf];omega
              ·have a7:¬(ml:Int)<(mr:Int):=ω
               go_wp2_with fail
               have VZ:mp=f+1:=ω
               refine(IH.out (j-mp) ω mp j l2 d4 w8 (am _) K.out ω ω (by rw[VZ];exact e5.out)).mono ?_;rintro e w9 ⟨rfl,dL,P9,s9,S9⟩;replace S9:=ac S9;rw[VZ] at P9 s9;have hL:=ac (e7.out dL P9 s9);clear K P9 s9 VZ
               go_wp2_with fail
               go_roundw
               case rel=>exact⟨i,f,l2,_,ap,dL,rfl,rfl,rfl,rfl,rfl,ω,ω,ω,S9,ac hL.out.1,ac (λR Q H=>by obtain⟨g1,g2⟩:=hL.out.2 R Q H;exact M.out R g1 g2)⟩
               case measure=>simp[intOf];omega
theorem adx (blk off cap N:Nat) (d:Array Int) (w:ae) (i:Holds Vu w blk off d) (J:d.size=N) (a:blk<w.heap.size) (q:N<=400000000):
  aO pg 139 #[.slice (some ⟨blk,off,none⟩) N cap] w λe w'=>e= .returned (.tuple #[])/\∃f,iJ 0 N d f/\SortedIn aZ 0 N f/\SWu w blk off N f w':=by
 have R:RoU w blk off N:=⟨⟨d,i,J⟩,a⟩;have S:Hid (SWu w blk off N d w):=ac ⟨SW.start i,J⟩;replace i:=ac i;have K:=ac (Any.bits_Len Tryz.bitsLn (N:Int) w ω ω);go_enter func139,ntmps139
 go_wp2_with fail
 refine K.out.mono ?_;rintro e u ⟨rfl,rfl⟩
 go_wp2_with fail
 refine(afq u blk off cap N R q N 0 N _ d u (am _) S.out (bN _) (am _) (fU rfl)).mono ?_;rintro e M ⟨rfl,f,I,H,z⟩;have j:=ac (aS I (aS H z));clear I H z
 go_wp2_with fail
 go_end0
 exact⟨rfl,f,j.out.1,j.out.2.1,j.out.2.2⟩
end
section
open Go.ChangeShapes Go.WideShapes Go.ChangeAt Go.RowKit Go.Sort Go.Maps Go.Shelf
theorem RH {blk N:Nat} {d:Array Int} {w0 w W:ae} (a:Ext w0 w) (h:SWu w blk 0 N d W) (f:w0.heap.size<=blk):Ext w0 W:=by
 obtain⟨⟨n,os,rfl⟩,_⟩:=h;refine Ext.trans (b:=putRow Vu (Sort.ahead w n) blk 0 d) ?_ (Ext.jv _ _ os);refine⟨ef (w':=w) a,dS (w':=w) a,dI (w':=w) a,?_,?_⟩
 ·exact az a.size (by rw[size_putRow];exact am _)
 ·intro k e
  rw[<-av (w':=w) a k e];unfold putRow mapBlock;show(w.heap.modify blk _)[k]? =w.heap[k]?;rw[Array.getElem?_modify,if_neg ω]
theorem Za (w:ae):aO pg 196 #[.slice none 0 0,.int .i64 0,.int .i64 0] w λe w'=>e= .returned (.tuple #[])/\w=w':=by
 go_enter func196,ntmps196;go_wp2
 go_loopw [6] (λa wr=>a= .int .i64 1/\wr=w) (λ_ _=>0)
 case atStart=>exact⟨rfl,rfl⟩
 case round=>
  obtain⟨rfl,rfl⟩:=hrel;go_wp2
  go_end0
  exact⟨rfl,rfl⟩
theorem Yz (l:Int) (w:ae):aO pg 168 #[.slice none 0 0,.int .i64 0,.int .i64 0,.int .i64 l] w λe w'=>e= .returned (.tuple #[])/\w=w':=by
 go_enter func168,ntmps168
 go_wp2_with fail
 go_loopw [1,2,3,8,9] (λq j i f a wl=>q= .int .i64 0/\j= .int .i64 0/\i= .int .i64 l/\f= .bool true/\a= .bool true/\wl=w) (λ_ _ _ _ _ _=>0)
 case atStart=>exact⟨rfl,rfl,rfl,rfl,rfl,rfl⟩
 case round=>
  obtain⟨rfl,rfl,rfl,rfl,rfl,rfl⟩:=hrel
  go_wp2_with fail
  refine(Za _).mono ?_;rintro e u ⟨rfl,rfl⟩
  go_wp2_with fail
  (try simp only[fM,Exit.then]);refine aB (gR rfl _ _ _) rfl ?_
  exact⟨rfl,rfl⟩
theorem UG (w:ae):aO pg 139 #[.slice none 0 0] w λe w'=>e= .returned (.tuple #[])/\w=w':=by
 have a:=ac (Any.bits_Len Tryz.bitsLn 0 w ω ω);go_enter func139,ntmps139
 go_wp2_with fail
 refine a.out.mono ?_;rintro e i ⟨rfl,rfl⟩
 go_wp2_with fail
 refine(Yz _ _).mono ?_;rintro e f ⟨rfl,rfl⟩
 go_wp2_with fail
 go_end0
 exact⟨rfl,rfl⟩
theorem WJ (j b z:Nat) (i:DataW Unit) (q:fu i<=400000000) (w:ae) (u:j<w.heap.size)
  (hm:w.cell? ⟨j,0,none⟩=some (.map (some b))) (f:MapU w b z i):
  aO pg 138 #[.func (.func 140) #[] #[.pointer (some ⟨j,0,none⟩)]] w λe W'=>∃(v:Value) (a:List Int),e= .returned v/\(a.Nodup/\∀x,x∈a↔has i (.int .u32 x)=true)/\a.length<=fu i/\
   W'.ownsRow w.heap.size 30 1 v a.length (a.map (ao .u32))/\(v= .slice none 0 0↔a=[])/\Below w.heap.size w W':=by
 have H:=λW:ae=>ac (callsIn_wide.1 (Qb Fence.wide 3 trivial trivial rfl ω j b z i q w u hm f))
 go_enter func138,ntmps138
 go_wp2_with fail
 refine(H w).out.mono ?_;rintro e I ⟨v,a,rfl,h⟩;replace h:=ac h
 go_wp2_with fail
 go_ret;exact⟨v,a,rfl,h.out⟩
abbrev ah6 (W:ae) (A:Option Addr) (a:List Int):Prop:=Row W A (a.map (ao .u32))
theorem X8 (Bm b nn:Nat) (D0:DataW Unit) (a0:fu D0<=400000000) (w:ae) (a5:Bm<w.heap.size)
  (hm:w.cell? ⟨Bm,0,none⟩=some (.map (some b))) (K:MapU w b nn D0):
  aO pg 106 #[.func (.func 140) #[] #[.pointer (some ⟨Bm,0,none⟩)]] w λe W'=>∃(A:Option Addr) (c:Nat) (f:List Int),e= .returned (.slice A f.length c)/\f.length<=fu D0/\f.Pairwise (· <·)/\(∀x,x∈f↔has D0 (.int .u32 x)=true)/\ah6 W' A f/\Ext w W':=by
 have hc:=ac (WJ Bm b nn D0 a0 w a5 hm K);clear hm K;go_enter func106,ntmps106
 go_wp2_with fail
 refine hc.out.mono ?_;rintro e W ⟨v,f,rfl,hS,U,H,M,hB⟩;replace hB:=ac hB;have N:=H.2;rcases N with⟨rfl,hz⟩|⟨g,cap,cur,rfl,z,hgb,r1,r2,r3,r4⟩
 ·have a1:f=[]:=List.eq_nil_of_length_eq_zero hz
  subst a1;replace hS:=ac hS;replace U:=ac U;clear H M hz
  go_wp2_with fail
  refine(UG W).mono ?_;rintro e w2 ⟨rfl,rfl⟩
  go_wp2_with fail
  go_ret;exact⟨none,0,[],rfl,U.out,eR,hS.out.2,Row.nil _ _,hB.out⟩
 ·obtain⟨n,hn⟩:∃n,f.length=n:=⟨_,rfl⟩
  have hH:Holds Vu W g 0 f.toArray:=by
   intro j I;have a3:j<f.length:=by simpa using I
   refine⟨?_,by simp[World.frozen?,hgb]⟩;have h1:(cur.toList.take (f.length*1))[j]? =(f.map (ao .u32))[j]? :=by rw[r4]
   rw[List.getElem?_take_of_lt ω] at h1;simp only[World.cell?,hgb,Nat.zero_add];simp only[Option.isSome_none,Bool.false_eq_true,if_false];rw[<-Array.getElem?_toList,h1];simp[a3]
  have O:g<W.heap.size:=(Array.getElem?_eq_some_iff.1 hgb).1;have cS:=ac (adx g 0 cap n f.toArray W hH (by simpa using hn) O ω);have hR:Hid (RoU W g 0 n):=ac ⟨⟨_,hH,by simpa using hn⟩,O⟩;rw[hn];replace hS:=ac hS;replace U:=ac U;replace hn:=ac hn;replace z:=ac z;clear H M hgb r1 r2 r3 r4 hH O
  go_wp2_with fail
  refine cS.out.mono ?_;rintro e w2 ⟨rfl,a,p1,p2,Q⟩;have hp:=ac (aS p1 (aS p2 Q));clear p1 p2 Q
  go_wp2_with fail
  go_ret;obtain⟨p1,p2,Q⟩:=hp.out;have J:a.size=n:=Q.2;have q:a.toList.Perm f:=by
   have h:=p1.2.2;have e1:a.extract 0 n=a:=by rw[<-J];exact Array.extract_size
   have e2:f.toArray.extract 0 n=f.toArray:=by rw[<-hn.out];simp
   rw[e1,e2] at h;simpa using h
  have a4:=hR.out.holds Q;refine⟨some ⟨g,0,none⟩,cap,a.toList,by simp[J],by rw[q.length_eq];exact U.out,?_,λx=>by rw[q.mem_iff];exact hS.out.2 x,?_,RH hB.out Q z.out⟩
  ·have a2:a.toList.Nodup:=q.nodup_iff.2 hS.out.1
   rw[cZ];intro i j hi I Z;have h1:=p2 i j (bN _) Z (by simp at I;omega);have e3:a[i]! =a.toList[i]:=by simp at hi;rw[getElem!_pos a i ω];simp
   have e4:a[j]! =a.toList[j]:=by simp at I;rw[getElem!_pos a j ω];simp
   rw[e3,e4] at h1;have h2:¬a.toList[j]<a.toList[i]:=by simpa[aZ] using h1
   have h3:a.toList[i]≠a.toList[j]:=(cZ.1 a2) i j hi I Z;omega
  ·intro _
   refine⟨g,0,rfl,λj u X=>?_⟩;rw[bF] at X;cases I:a.toList[j]? with
   |none=>rw[I] at X;cases X
   |some x=>
    rw[I] at X;have Y:j<a.size:=by
     have:=aq.1 I;obtain⟨h,_⟩:=this;simpa using h
    have e5:a[j]! =x:=by
     rw[getElem!_pos a j Y];have:=aq.1 I;obtain⟨h,e⟩:=this;simpa using e
    rw[(a4 j Y).1,e5];simpa using X
end
section
open Go.ChangeShapes Go.WideShapes Go.ChangeAt Go.RowKit Go.Sort Go.Maps
attribute [local go_sem] ah
def oD (V:List I2) (a:List Int):List I2:=a.map λc=>(c,jq V c)
theorem since_next (V:List I2):∀(a:List Int) (c:Int),jq (oD V a) c=if c∈a then jq V c else 0
 |[],c=>by simp[oD,jq]
 |s::a,c=>by
  have ih:=since_next V a c;show(if s=c then jq V s else jq (oD V a) c)=_;by_cases e:s=c
  ·subst e
   simp
  ·rw[if_neg e,ih]
   simp[Ne.symm e]
theorem Jg (V:List I2):∀(e:List Int) (a:Int),e.Pairwise (· <·)->(∀c∈e,a<c/\0<jq V c)->jB a (oD V e)=true
 |[],a,_,_=>rfl
 |s::e,a,hp,h=>by
  have f:=List.pairwise_cons.1 hp;show jB a ((s,jq V s)::oD V e)=true;rw[jP];have j:=h s ι;exact⟨ω,ω,Jg V e s f.2 (λc i=>⟨f.1 c i,(h c (by simp[i])).2⟩)⟩
theorem Gz:∀{l:List I2} {c:Int},(∀p∈l,p.1≠c)->jq l c=0
 |[],_,_=>rfl
 |p::l,c,h=>by
  show(if p.1=c then p.2 else jq l c)=0;rw[if_neg (h p ι)];exact Gz λq a=>h q (by simp[a])
theorem Oq {D:DataW Unit} {q V:List I2} {i:List Int} (H:EW D q V) (K:jB 0 q=true) (hm:jB 0 V=true) (I:wfC V) (J:wfC q) (M:i.Pairwise (· <·)) (u:∀x,x∈i↔has D (.int .u32 x)=true):kM q (oD V i)=V:=by
 have j:jB 0 (oD V i)=true:=Jg V i 0 M λc f=>⟨(H.2 c ((u c).1 f)).1,(H.2 c ((u c).1 f)).2.2.1⟩
 refine GA (zl _ _ K j) hm λc=>?_
 rw[wQ _ _ c K j,since_next];by_cases f:c∈i
 ·rw[if_pos f]
  have:=(H.2 c ((u c).1 f)).2.2.2;omega
 ·rw[if_neg f]
  by_cases z:0<=c/\c<=4294967295
  ·have:=H.1 c z.1 z.2
   rw[if_neg (λe=>f ((u c).2 e))] at this;have:=nO c K;omega
  ·rw[Gz (l:=q) (λp a e=>z (by have:=J p a;rw[e] at this;omega)),Gz (l:=V) (λp a e=>z (by have:=I p a;rw[e] at this;omega))]
   rfl
def agN (w:ae) (V:List I2) (e:List Int) (M:Nat) (v a:Value) (wr:ae):Prop:=
 ∃j:Nat,j<=M/\a= .int .i64 (j:Nat)/\Hid (IG w wr v (oD V (e.take j)))/\Hid (Ext w wr)
theorem Qh (A:Option Addr) (n cap bS nn:Nat) (D:DataW Unit) (Z V:List I2) (w:ae) (hv:Vec w A Z) (hn:Z.length=n) (b2:n<=cap) (h0:jB 0 Z=true) (O:wfC Z) (hm:jB 0 V=true) (N:wfC V) (hM:MapU w bS nn D) (hV:EW D Z V) (hb:n+nn<=360000):
  aO pg 70 #[knv A n cap (some bS)] w (Ut w V):=by
 have a9:=hM.size_le;have x1:Ext w (w.alloc (.cells #[.slice A n cap,.map (some bS)] 155)):=(Ext.refl _).alloc _;have c0:(w.alloc (.cells #[.slice A n cap,.map (some bS)] 155)).cell? ⟨w.heap.size,0,none⟩=some (.slice A n cap):=ι
 have c1:(w.alloc (.cells #[.slice A n cap,.map (some bS)] 155)).cell? ⟨w.heap.size,1,none⟩=some (.map (some bS)):=ι
 replace hM:=ac hM;replace hV:=ac hV;replace hv:=ac hv;replace hn:=ac hn;replace N:=ac N;replace O:=ac O;go_enter func70,ntmps70
 go_wp2_with fail
 refine(adX _ _).mono ?_;rintro e w2 ⟨rfl,e2⟩
 go_wp2_with fail
 have x2:Ext w ((w.alloc (.cells #[.slice A n cap,.map (some bS)] 155)).alloc (.cells #[.map (some bS)] 153)):=x1.alloc _;refine(X8 (w.heap.size+1) bS nn D ω _ ι ι (hM.out.ext x2)).mono ?_;rintro e w3 ⟨As,cs,i,rfl,b1,Q,q,u,x3⟩;have J:=ac (x2.trans x3);have c0:=x3.keep (((Ext.refl _).alloc (.cells #[.map (some bS)] 153)).keep c0);have c1:=x3.keep (((Ext.refl _).alloc (.cells #[.map (some bS)] 153)).keep c1);have b8:=ac (hM.out.ext J.out);have a7:=ac (hv.out.ext J.out);clear x1 x2 x3;obtain⟨M,f⟩:∃M,i.length=M:=⟨_,rfl⟩;have d5:M<=nn:=ω
 rw[f];replace f:=ac f;replace Q:=ac Q;replace q:=ac q;replace u:=ac u;clear b1 a9;generalize w.heap.size=pk at*
 go_wp2_with fail
 go_loopw [3,11] (agN w3 V i M) (λ_ vi _=>M-(intOf vi).toNat)
 case atStart=>exact⟨0,bN _,rfl,ac (IG.nil _ _),ac (Ext.refl _)⟩
 case round=>
  obtain⟨j,d1,rfl,ho,K⟩:=hrel;have d7:=K.out.keep c0;have d6:=K.out.keep c1;by_cases a2:j<M
  ·obtain⟨bb,oo,eA,a3⟩:=u.out (by rw[fs,f.out];omega)
   obtain⟨c,H⟩:∃c,i[j]? =some c:=⟨i[j]'(by rw[f.out];exact a2),List.getElem?_eq_getElem _⟩;have X:=List.mem_of_getElem? H;have b7:=hV.out.2 c ((q.out c).1 X);have cc:=K.out.keep (a3 j (Vu c) (by rw[bF,H];rfl));obtain⟨c9,b4,a6,_⟩:=(b8.out.ext K.out).lookup_int Am underlying153 underlying30 (Xl wr) (Y7 (c:=c) ω ω);have Y:=hV.out.1 c ω ω;rw[if_pos ((q.out c).1 X),a6] at Y;simp only[DataW.lit.injEq,Lit.int.injEq,true_and] at Y;subst Y;obtain⟨k,hk⟩:∃k,jq V c=k:=⟨_,rfl⟩;rw[hk] at b4;have b0:=ac (show oD V (i.take (j+1))=oD V (i.take j)++[(c,k)] by
        rw[List.take_add_one,H,<-hk];unfold oD;rw[List.map_append];rfl)
   have b5:=ac (show(oD V (i.take j)).length+[((c,k):Int×Int)].length<=1200000 by
        unfold oD;rw[fs,List.length_take,List.length_singleton];have:=f.out;omega)
   subst eA;have BQ:=ac a2;have d4:(0:Int)<=(j:Int):=ω
   have d3:(j:Int)<(M:Int):=ω
   have d2:(j:Int)<360000:=ω
   clear a3 H X b7 a6 hk
   go_wp2_with(at_builtin;refine jI (w0:=w3) rfl (.tmp 15) (.tmp 22) rfl _ (oD V (i.take j)) rfl (IG.ext ho.out ((Ext.refl wr).alloc _)) (K.out.alloc _) _ 1 1 [(c,k)] rfl rfl (Vec.new wr c k) b5.out ?_;intro v9 w9 o9 x9;replace o9:=ac o9;replace x9:=ac x9)
   go_roundw
   case rel=>
        refine⟨j+1,BQ.out,ν,ac ?_,x9⟩;rw[b0.out];exact o9.out
   case measure=>have:=BQ.out;simp[intOf];omega
  ·have b9:j=M:=ω
   have I:i.take j=i:=List.take_of_length_le (by rw[f.out];omega);have U:=ho.out;rw[I] at U;obtain⟨A2,c2,e2,a8,a5⟩:=Vec.adI U;have W:(oD V i).length=M:=by unfold oD;rw[fs];exact f.out
   rw[W] at e2 a5;have b3:=ac (QI A A2 n M cap c2 Z (oD V i) wr (a7.out.ext K.out) a8 hn.out W b2 a5 ω);have b6:=ac (Oq hV.out h0 hm N.out O.out Q.out q.out);have a0:=ac (J.out.trans K.out);clear I U W ho;subst e2
   go_wp2_with fail
   refine b3.out.mono ?_;rintro e w9 ⟨A9,n9,c9,rfl,z,a1,x9,a4⟩;rw[b6.out] at z a1;replace z:=ac z
   go_wp2_with fail
   go_ret;exact⟨A9,n9,c9,rfl,z.out,a1,a0.out.trans x9,a4.1,λa ha=>az a0.out.size (a4.2 a ha)⟩
end
section
open Go.ChangeShapes Go.WideShapes Go.ChangeAt Go.RowKit Go.Sort Go.Maps
attribute [local go_sem] ah calm jL jH
def Xh (s:Nat) (W:ae) (v:Value) (V:List I2):Prop:=∃A c,v= .slice A V.length c/\(V.length<=c/\rZ s A)/\Vec W A V
theorem Xh.ext {s:Nat} {W W':ae} {v:Value} {V:List I2} (h:Xh s W v V) (a:Ext W W'):Xh s W' v V:=by
 obtain⟨A,c,i,f,e⟩:=h;exact⟨A,c,i,f,e.ext a⟩
theorem XU:∀(n:Nat) {v:List I2} {l:List It},wfC v->(∀x∈l,okW x)->wfC (uT n v l).2.2
 |0,v,l,h,_=>h
 |n+1,v,l,h,ho=>by
  cases f:uw v l with
  |none=>rw[FL f];exact h
  |some q=>
   obtain⟨x,r⟩:=q;rw[FK f];obtain⟨a,b,u,z,_,_⟩:=BZ f;have e:=ho x (by rw[u];simp);refine XU n (KU h (by have:=e.1;omega) e.2.1 (by have:=e.2.2.1;omega) (by have:=e.2.2.2;omega)) λy j=>ho y ?_
   rw[z] at j;rw[u];rcases List.mem_append.1 j with i|i
   ·simp[i]
   ·simp[i]
theorem XR (A B:Option Addr) (n cap m WT:Nat) (V:List I2) (L:List It) (w0:ae) (hv:Vec w0 A V) (hn:V.length=n) (d3:n<=cap) (Q:jB 0 V=true) (M:wfC V) (hL:ItS w0 B L) (hm:L.length=m) (f1:m<=WT) (hb:n+m<=360000) (a9:oL L) (a3:∀x∈L,wfI x/\okW x/\jq V x.c<=x.k):
  aO pg 38 #[.slice A n cap,.slice B m WT] w0 (ae4 w0 (lJ V L)):=by
 obtain⟨Xs,U⟩:∃Xs,vG [] L=Xs:=⟨_,rfl⟩;have N:Xs.Perm L:=by rw[<-U];simpa using vE L []
 have I:Xs.length=m:=by rw[N.length_eq];exact hm
 have z:∀x∈Xs,wfI x/\okW x/\jq V x.c<=x.k:=λx f=>a3 x (N.mem_iff.1 f)
 have b2:∀(i j:Nat) (x y:It),Xs[i]? =some x->Xs[j]? =some y->iid x=iid y->i=j:=λi j x y hi hj e=>by
  have ha:=qR N.symm a9;obtain⟨l1,e1⟩:=aq.1 hi;obtain⟨l2,e2⟩:=aq.1 hj;rcases Nat.lt_trichotomy i j with h|h|h
  ·exact absurd e (by have:=cZ.1 ha i j l1 l2 h;rw[e1,e2] at this;exact this)
  ·exact h
  ·exact absurd e.symm (by have:=cZ.1 ha j i l2 l1 h;rw[e1,e2] at this;exact this)
 obtain⟨u,b0⟩:∃u,lJ V L=u:=⟨_,rfl⟩;have ZA:uT Xs.length V Xs=u:=by rw[<-b0,<-U];unfold lJ;rw[NA]
 have a4:wfC u.2.2:=by rw[<-ZA];exact XU _ M λx f=>(z x f).2.1
 have H:=ac (YH A B n cap m WT V L w0 hv hn ω Q hL hm ω a9 (λx f=>(a3 x f).1));rw[U] at H;rw[b0];have f2:u.1.length<=Xs.length:=by
  have Y:=(Qk Xs.length V Xs (am _)).2.1.length_eq;rw[ZA,List.length_append] at Y;omega
 replace hn:=ac hn;replace I:=ac I;replace z:=ac z;replace b2:=ac b2;replace ZA:=ac ZA;replace a4:=ac a4;replace M:=ac M;clear a9 a3 hL hm U N b0;go_enter func38,ntmps38
 go_wp2_with fail
 refine H.out.mono ?_;rintro e w1 ⟨pt,g,hs,rfl,d2,a6⟩;have hI:=Ql (V:=V) (Xs:=Xs) Q λx f=>(z.out x f).2
 have e1:plW g.Wt=_:=congrArg Prod.fst a6;have e2:hs=_:=congrArg Prod.snd a6;rw[<-e1,<-e2] at hI;have a2:Sz w0 pt A n cap V Xs u w1:=⟨V,_,[],hs,g,ac d2,ac hI,ac (by simp[LD]),ac (by rw[LD,ZA.out];exact⟨ι,rfl⟩)⟩;have b5:=ac (Nq w0 w1 pt A n cap V Xs u a2 hn.out Q ω (by rw[I.out];omega) b2.out (λy hy=>⟨(z.out y hy).1,(z.out y hy).2.1⟩));clear d2 a6 hI e1 e2 a2
 go_wp2_with fail
 refine b5.out.mono ?_;rintro e W1 ⟨rfl,bs,g1,J,d1,a0,d4⟩;have b6:=ac (λ(Z:ae) (f:Ext W1 Z)=>(QD w0 Z pt A n cap V u.2.2 Xs bs u.1 [] g1 (J.ext f) d1 (by rw[I.out];omega)).mono λe W3 h=>(by
  obtain⟨v,Y,h2,h3⟩:=h;rw[a0] at h2;exact⟨v,Y,⟨v,rfl,jS.down h2 f⟩,h3⟩:∃v,e= .returned v/\(∃q,v=q/\jS W1 W3 q u.2.1)/\Ext Z W3))
 obtain⟨bS,a8⟩:∃bS,g1.bS=bS:=⟨_,rfl⟩;have b4:=ac (λ(Z:ae) (f:Ext W1 Z)=>(by
  obtain⟨nn,D,f0,hM,hV⟩:=(J.ext f).kn;rw[a8] at hM;exact(Qh A n cap bS nn D V u.2.2 Z (J.vec.ext (J.low.trans f)) hn.out d3 Q M.out d4 a4.out hM hV (by have:=I.out;omega)).mono λe W3 h=>(by
   obtain⟨A9,n9,c9,Y,h2,h3,h4,h5⟩:=h;exact⟨_,Y,⟨_,rfl,A9,c9,by rw[h2],⟨by have:=h5.1;omega,λa ha=>az (J.low.trans f).size (h5.2 a ha)⟩,h3⟩,h4⟩:∃v,e= .returned v/\(∃q,v=q/\Xh w0.heap.size W3 q u.2.2)/\Ext Z W3):aO pg 70 #[knv A n cap (some bS)] Z λe W3=>∃v,e= .returned v/\(∃q,v=q/\Xh w0.heap.size W3 q u.2.2)/\Ext Z W3))
 obtain⟨vo,a5⟩:∃vo,g1.vo=vo:=⟨_,rfl⟩;have t0:W1.cell? ⟨pt,0,none⟩=some (.slice A n cap):=J.tb.cell rfl;have t1:W1.cell? ⟨pt,1,none⟩=some (.map (some bS)):=by rw[<-a8];exact J.tb.cell rfl
 have t4:W1.cell? ⟨pt,4,none⟩=some vo:=by rw[<-a5];exact J.tb.cell rfl
 have b7:=ac (a5▸J.come);have a1:=ac J.low;obtain⟨O,hO⟩:∃O,u.2.1=O:=⟨_,rfl⟩;obtain⟨Vf,X⟩:∃Vf,u.2.2=Vf:=⟨_,rfl⟩;rw[hO] at b6;rw[X] at b4;replace hO:=ac hO;replace X:=ac X;clear J d1 a0 a5 a8 b5 H
 go_upto_region 3 with fail
 refine mg 11 [rw1 5 λz9 W=>∃q,z9=q/\jS W1 W q O,rw1 10 λz9 W=>∃q,z9=q/\Xh w0.heap.size W q Vf] ⟨by rintro _ _ _ _ ⟨q,h0,Y⟩ e;exact⟨q,h0,jS.ext Y e⟩,by rintro _ _ _ _ ⟨q,h0,Y⟩ e;exact⟨q,h0,Y.ext e⟩,trivial⟩ λρ _=>?_
 refine .s 5 (λW f y=>jD) ?_;refine .k 0 (λW f=>(b6.out W f)) ?_;refine .s 4 (λW f y=>jD) ?_;refine .k 1 (λW f=>(b4.out W f)) ?_;refine .fin λW hR ⟨h5,b1,_⟩=>?_
 obtain⟨q5,e5,h5⟩:=h5;rw[show ρ 5=_ from e5];obtain⟨e9,e6,b1⟩:=b1;rw[show ρ 10=_ from e6];obtain⟨Aa,ca,ea,b9,e4⟩:=b7.out.open;obtain⟨Ab,cb,eb,b8,e3⟩:=jS.open h5;obtain⟨Av,cv,ev,a7,d9⟩:=b1;have d7:=ac (oO b7.out ea);have b3:=oO h5 eb;have d6:=ac (show O.length<=cb/\rZ w0.heap.size Ab from⟨b3.1,λa ha=>az a1.out.size (b3.2 a ha)⟩);clear b3;subst ea eb ev;have e7:=e4.ext hR;have d5:=a1.out.trans hR;replace b9:=ac b9;replace b8:=ac b8;replace a7:=ac a7
 go_wp2_with fail
 have e0:=hO.out;have e8:=X.out;subst e0;subst e8;exact aB (v:= .tuple #[.slice Aa u.1.length ca,.slice Ab u.2.1.length cb,.slice Av u.2.2.length cv]) (by simp[cg,results38,go_sem]) rfl ⟨Aa,ca,Ab,cb,Av,cv,rfl,d7.out,d6.out,a7.out,e7,e3,d9,d5⟩
end
end Go.Proofs.YtncfhbpejchbfaaGreatDoor

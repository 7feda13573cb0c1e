/-
  Lemmas of this seat; no claim.
-/
import Derived.Shelf.Small.Bits
import Derived.Test.YtncfhbpejchbfaaGreatDoorValP
import Derived.Test.YtncfhbpejchbfaaGreatDoorPWf1
set_option linter.unusedVariables false
set_option linter.unusedSimpArgs false
set_option maxRecDepth 100000
set_option maxHeartbeats 1000000
open Go renaming World→ae,bodyPost_ret→aB
open Go.Lib renaming hid→ac
open Int renaming toNat_natCast→bJ
open List renaming length_drop→bk
open UInt8 renaming ofNat→bR
open Go.Proofs.Tryz
open Go.Proofs.Tryz renaming prog→pg
namespace Go.Proofs.YtncfhbpejchbfaaGreatDoor
section
open Go.Shelf
def Tryz.len32_ren : Go.Shelf.Ren := ⟨λ| 128 => 33 | n => n, λ| 51 => 30 | 3 => 3 | 4 => 4 | 46 => 146 | 5 => 5 | 9 => 9 | n => n, λ| n => n⟩
theorem Tryz.len32 : Go.Proofs.Lays.n128 pg Tryz.len32_ren := {
  mixed := by kernel_rfl
  f128 := func33.trans (congrArg some κ)
  t3 := underlying3
  a3 := isAgg3
  z3 := sizeOf3
  v3 := zeroValue3
  t4 := underlying4
  a4 := isAgg4
  z4 := sizeOf4
  v4 := zeroValue4
  t5 := underlying5
  a5 := isAgg5
  z5 := sizeOf5
  v5 := zeroValue5
  t9 := underlying9
  a9 := isAgg9
  z9 := sizeOf9
  v9 := zeroValue9
  t46 := underlying146
  a46 := isAgg146
  z46 := sizeOf146
  v46 := zeroValue146
  t51 := underlying30
  a51 := isAgg30
  z51 := sizeOf30
  v51 := zeroValue30 }
end
section
open Go.ChangeShapes Go.WideShapes Go.ChangeAt Go.RowKit Go.Sort
abbrev Vt (l:List UInt8):Value:= .string ⟨l.toArray⟩
def qx (r:Option (List UInt8×Nat)):Value:=match r with
 |none=> .tuple #[Vt [],Vi 0,Ie]
 |some (s,n)=> .tuple #[Vt s,Vi n,.nilIface]
theorem zx {l:List UInt8} {p:Int} {z k:Nat} (h:oQ l p=some (z,k)):0<=p/\p.toNat+k<=l.length/\z<4294967296/\0<k/\k<=5:=by
 by_cases a:p<0
 ·rw[Pq (.inl a)] at h;cases h
 ·obtain⟨q,rfl⟩:∃q:Nat,p=q:=⟨p.toNat,ω⟩
  have:=sM h;omega
theorem J5 {p:Prop} (h:p:=by
 go_enter func154,ntmps154
 go_wp2_with fail
 refine hcall.out.mono ?_;rintro e w1 ⟨rfl,x1⟩;simp only[H6];go_wp2;exact aB (v:=qx none) (by simp[results,results154,go_sem,qx]) rfl ⟨rfl,x1⟩):p:=h
theorem MJ (A:Option Addr) (n c:Nat) (l:List UInt8) (p:Int) (w:ae) (i:Bys w A l) (a:l.length=n) (j:n<=c) (hn:n<=12000000) (f:oQ l p=none):
  Calls pg 154 #[.slice A n c,Vi p] w λe w'=>e= .returned (qx none)/\Ext w w':=by
 have hcall:=MH A n c l p w i a j hn;rw[f] at hcall;replace hcall:=ac hcall;clear i a f;exact J5
theorem MI (A:Option Addr) (n c z k:Nat) (l:List UInt8) (p:Nat) (r:Option (List UInt8×Nat)) (w:ae) (X:Bys w A l) (M:l.length=n) (Y:n<=c) (hn:n<=12000000) (Z:Tabs w) (O:oQ l p=some (z,k)) (f:xK l p=r):
  Calls pg 154 #[.slice A n c,Vi p] w λe w'=>e= .returned (qx r)/\Ext w w':=by
 have hcall:=MH A n c l p w X M Y hn;rw[O] at hcall;replace hcall:=ac hcall;obtain⟨-,Q,hz,a2,a1⟩:=zx O;rw[bJ,M] at Q;unfold xK at f;rw[O,bJ] at f;simp only[bk,M] at f;have U:=JV A n c (p+k) ω ((p:Int)+k) ω;have i:=X.cut M Y (k:=p+k) ω;have q:(l.drop (p+k)).length=n-(p+k):=by rw[bk,M]
 generalize oq A c (p+k) 1=A2 at U i;generalize l.drop (p+k)=t at i q f;clear O X M;by_cases u:n-(p+k)<z
 ·rw[if_pos u] at f
  subst f;clear q i;exact J5
 ·rw[if_neg u] at f
  have a0:=afh A2 (n-(p+k)) (c-(p+k)) z ω z rfl;have I:(t.take z).length=z:=by rw[List.length_take,q];omega
  have K:=i.take z;have J:=λW (j:Ext w W)=>afm (c:=c-(p+k)) (K.ext j) I
  have a:=λW (j:Ext w W)=>ac (Uw A2 z (c-(p+k)) (t.take z) W (K.ext j) I ω ω (Z.ext j))
  generalize t.take z=s at J a f;generalize Lib.validD s=V at a f;clear q i K I Z;go_enter func154,ntmps154
  go_wp2_with fail
  refine hcall.out.mono ?_;rintro e w1 ⟨rfl,x1⟩;simp only[H6];have N:=a w1 x1;clear a
  go_wp2_with fail
  refine N.out.mono ?_;rintro e w2 ⟨rfl,x2⟩;have H:=x1.trans x2;have a3:=J w2 H;clear J N;cases V with
  |false=>
   rw[if_neg ι] at f;subst f;go_wp2;exact aB (v:=qx none) (by simp[results,results154,go_sem,qx]) rfl ⟨rfl,H⟩
  |true=>
   rw[if_pos rfl] at f;subst f;go_wp2;exact aB (v:=qx (some (s,k+z))) (by simp[results,results154,go_sem,qx]) rfl ⟨rfl,H⟩
theorem Po (A:Option Addr) (n c:Nat) (l:List UInt8) (p:Int) (w:ae) (j:Bys w A l) (f:l.length=n) (i:n<=c) (hn:n<=12000000) (u:Tabs w):
  Calls pg 154 #[.slice A n c,Vi p] w λe w'=>e= .returned (qx (xK l p))/\Ext w w':=by
 cases a:oQ l p with
 |none=>
  have:xK l p=none:=by unfold xK;rw[a]
  rw[this];exact MJ A n c l p w j f i hn a
 |some q=>
  obtain⟨z,k⟩:=q;obtain⟨H,_⟩:=zx a;obtain⟨q,rfl⟩:∃q:Nat,p=q:=⟨p.toNat,ω⟩;exact MI A n c z k l q _ w j f i hn u a rfl
theorem Vv (v:Nat) (hv:v<4294967296) (w:ae):Calls pg 33 #[Vu v] w λe w'=>e= .returned (Vi (Lib.bitLen v))/\w'=w:=by
 have:=Any.bits_Len32 Tryz.len32 (v:Int) w ω ω;rw[bJ] at this;exact this
def ae5 (w:ae) (v:Nat) (t a:Value) (W:ae):Prop:=∃(j:Nat) (o:List UInt8),j<=4/\a= .int .i64 (8*(j:Int)-8)/\nk w W t o/\o++be v j=jX v/\Ext w W
theorem acA (v j:Nat):be v (j+1)=[bR (v/256^j)]++be v j:=rfl
theorem adl (n:Nat) (z:Int) (h:z=((n%256:Nat):Int)): #[Value.int .u8 z]=([bR n].map Vb).toArray:=by subst h;simp
theorem Vd (v:Nat):jX v=[bR (rG v)]++be v (rG v):=rfl
theorem Yt (v j:Nat):(v:Int)/2^(8*(j+1)-8)%256=((v/256^j%256:Nat):Int):=by
 have e:(2:Int)^(8*(j+1)-8)=((256^j:Nat):Int):=by
  rw[show 8*(j+1)-8=8*j by omega,Int.pow_mul,Int.natCast_pow];rfl
 rw[e,Int.natCast_emod,Int.natCast_ediv];rfl
theorem Fa (v:Nat) (hv:v<4294967296) (w:ae):Calls pg 18 #[Vu v] w (agP w (jX v)):=by
 obtain⟨k,M⟩:∃k,rG v=k:=⟨_,rfl⟩;have H:=PZ v hv;have f:=zu v;have u:=ac (Vd v);rw[M] at H f u;have z:=ac (Vv v hv w);generalize Lib.bitLen v=B at H z;have W:((B:Int)+7)/8=(k:Int):=ω
 have Q:=UY (k+1) ω (1+(k:Int)) ω;clear H M;go_enter func18,ntmps18
 go_wp2_with fail
 refine z.out.mono ?_;rintro e a ⟨rfl,rfl⟩;clear z
 go_wp2_with(at_builtin;go_loud (refine rR (w0:=a) rfl (.tmp 13) (.tmp 16) rfl _ [] rfl ((nk.room (Ext.refl a) _ ω).ext ((Ext.refl _).alloc _)) (((Ext.refl a).alloc _).alloc _) _ 1 1 [bR k] rfl rfl (Bys.new2 _ _ [bR k] #[.int .u8 (k:Int)] (adl k k ω)) ι ?_;intro v2 Y I x2 _))
 rw[List.nil_append] at I;replace u:=ac u.out.symm
 go_loopw [4,5] (ae5 a v) (λ_ i _=>(intOf i+8).toNat)
 case atStart=>exact⟨k,_,f,ν,I,u.out,x2⟩
 case round=>
  obtain⟨j,o,U,rfl,K,q,J⟩:=hrel;have O:o.length<=5:=by have X:=congrArg List.length q;rw[List.length_append,yh] at X;have:=zu v;omega
  replace q:=ac q;cases j with
  |zero=>
   go_wp2;go_ret;have:=q.out;rw[be,List.append_nil] at this;exact⟨_,rfl,this▸K,J⟩
  |succ j=>
   go_wp2_with(at_builtin;go_loud (refine rR (w0:=a) rfl (.tmp 25) (.tmp 30) rfl _ o rfl (K.ext ((Ext.refl _).alloc _)) (J.alloc _) _ 1 1 [bR (v/256^j)] rfl rfl (Bys.new _ [bR (v/256^j)] #[.int .u8 ((v:Int)/2^(8*(j+1)-8)%256)] (adl _ _ (Yt v j))) (by simp only[List.length_cons,List.length_nil];omega) ?_;intro Z w3 N x3 _))
   go_roundw
   case rel=>exact⟨j,_,ω,ν,N,by rw[<-q.out,acA,List.append_assoc],x3⟩
   case measure=>simp[intOf];omega
theorem N8 (s:ByteArray) (z:s.size<=20000) (w:ae):Calls pg 34 #[.string s] w (agP w (sF s.data.toList)):=by
 have a:=ac (Fa s.size ω w);have j:=ac (show jX s.size++s.data.toList=sF s.data.toList by rw[sF,<-Lib.size_eq]);have hn:(jX s.size).length<=5:=by rw[yh];have:=zu s.size;omega
 go_enter func34,ntmps34
 go_wp2_with fail
 refine a.out.mono ?_;rintro e q ⟨f,rfl,o1,x1⟩;clear a
 go_wp2_with(at_builtin;go_loud (refine EJ (w0:=w) rfl (.tmp 6) (.tmp 7) rfl f (jX s.size) rfl o1 x1 s rfl ω ?_;intro u w3 i x3 _))
 go_ret;exact⟨_,rfl,j.out▸i,x3⟩
end
end Go.Proofs.YtncfhbpejchbfaaGreatDoor

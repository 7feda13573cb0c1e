/-
  Lemmas of this seat; no claim.
-/
import Derived.Shelf.Small.Bits
import Derived.Test.YtejbpijamdlgcaaGreatDoorValP
import Derived.Test.YtejbpijamdlgcaaGreatDoorPWf1
set_option linter.unusedVariables false
set_option linter.unusedSimpArgs false
set_option maxRecDepth 100000
set_option maxHeartbeats 1000000
open Go renaming World→aj,bodyPost_ret→aN
open Go.Lib renaming hid→ah
open Int renaming toNat_natCast→dx
open List renaming length_drop→bP
open UInt8 renaming ofNat→dW
namespace Go.Proofs.YtejbpijamdlgcaaGreatDoor
section
open Go.Shelf
def Tryz.len32_ren : Go.Shelf.Ren := ⟨λ| 128 => 67 | n => n, λ| 51 => 24 | 3 => 3 | 4 => 4 | 46 => 203 | 5 => 5 | 9 => 9 | n => n, λ| n => n⟩
theorem Tryz.len32 : Go.Proofs.Lays.n128 Tryz.prog Tryz.len32_ren := {
  mixed := by kernel_rfl
  f128 := Tryz.func67.trans (congrArg some κ)
  t3 := Tryz.underlying3
  a3 := Tryz.isAgg3
  z3 := Tryz.sizeOf3
  v3 := Tryz.zeroValue3
  t4 := Tryz.underlying4
  a4 := Tryz.isAgg4
  z4 := Tryz.sizeOf4
  v4 := Tryz.zeroValue4
  t5 := Tryz.underlying5
  a5 := Tryz.isAgg5
  z5 := Tryz.sizeOf5
  v5 := Tryz.zeroValue5
  t9 := Tryz.underlying9
  a9 := Tryz.isAgg9
  z9 := Tryz.sizeOf9
  v9 := Tryz.zeroValue9
  t46 := Tryz.underlying203
  a46 := Tryz.isAgg203
  z46 := Tryz.sizeOf203
  v46 := Tryz.zeroValue203
  t51 := Tryz.underlying24
  a51 := Tryz.isAgg24
  z51 := Tryz.sizeOf24
  v51 := Tryz.zeroValue24 }
end
section
open Go.ChangeShapes Go.WideShapes Go.ChangeAt Go.RowKit Go.Sort
abbrev Vt (l:List UInt8):Value:= .string ⟨l.toArray⟩
def vE (r:Option (List UInt8×Nat)):Value:=match r with
 |none=> .tuple #[Vt [],Vi 0,KC]
 |some (s,n)=> .tuple #[Vt s,Vi n,.nilIface]
theorem Df {l:List UInt8} {p:Int} {z k:Nat} (h:uJ l p=some (z,k)):0<=p/\p.toNat+k<=l.length/\z<4294967296/\0<k/\k<=5:=by
 by_cases a:p<0
 ·rw[RG (.inl a)] at h;cases h
 ·obtain⟨q,rfl⟩:∃q:Nat,p=q:=⟨p.toNat,ω⟩
  have:=xB h;omega
theorem Ni {p:Prop} (h:p:=by
 go_enter Tryz.func201,Tryz.ntmps201
 go_wp2_with fail
 refine hcall.out.mono ?_;rintro e w1 ⟨rfl,x1⟩;simp only[Kq];go_wp2;exact aN (v:=vE none) (by simp[results,Tryz.results201,go_sem,vE]) rfl ⟨rfl,x1⟩):p:=h
theorem O4 (A:Option Addr) (n c:Nat) (l:List UInt8) (p:Int) (w:aj) (i:Bys w A l) (a:l.length=n) (q:n<=c) (j:n<=12000000) (f:uJ l p=none):
  Calls Tryz.prog 201 #[.slice A n c,Vi p] w λe w'=>e= .returned (vE none)/\Ext w w':=by
 have hcall:=OZ A n c l p w i a q j;rw[f] at hcall;replace hcall:=ah hcall;clear i a f;exact Ni
theorem O1 (A:Option Addr) (n c z k:Nat) (l:List UInt8) (p:Nat) (r:Option (List UInt8×Nat)) (w:aj) (X:Bys w A l) (M:l.length=n) (Y:n<=c) (hn:n<=12000000) (Z:Tabs w) (O:uJ l p=some (z,k)) (f:Dp l p=r):
  Calls Tryz.prog 201 #[.slice A n c,Vi p] w λe w'=>e= .returned (vE r)/\Ext w w':=by
 have hcall:=OZ A n c l p w X M Y hn;rw[O] at hcall;replace hcall:=ah hcall;obtain⟨-,Q,hz,a2,a1⟩:=Df O;rw[dx,M] at Q;unfold Dp at f;rw[O,dx] at f;simp only[bP,M] at f;have U:=M4 A n c (p+k) ω ((p:Int)+k) ω;have i:=X.cut M Y (k:=p+k) ω;have q:(l.drop (p+k)).length=n-(p+k):=by rw[bP,M]
 generalize tX A c (p+k) 1=A2 at U i;generalize l.drop (p+k)=t at i q f;clear O X M;by_cases u:n-(p+k)<z
 ·rw[if_pos u] at f
  subst f;clear q i;exact Ni
 ·rw[if_neg u] at f
  have a0:=ag1 A2 (n-(p+k)) (c-(p+k)) z ω z rfl;have I:(t.take z).length=z:=by rw[List.length_take,q];omega
  have K:=i.take z;have J:=λW (j:Ext w W)=>ag6 (c:=c-(p+k)) (K.ext j) I
  have a:=λW (j:Ext w W)=>ah (WM A2 z (c-(p+k)) (t.take z) W (K.ext j) I ω ω (Z.ext j))
  generalize t.take z=s at J a f;generalize Lib.validD s=V at a f;clear q i K I Z;go_enter Tryz.func201,Tryz.ntmps201
  go_wp2_with fail
  refine hcall.out.mono ?_;rintro e w1 ⟨rfl,x1⟩;simp only[Kq];have N:=a w1 x1;clear a
  go_wp2_with fail
  refine N.out.mono ?_;rintro e w2 ⟨rfl,x2⟩;have H:=x1.trans x2;have a3:=J w2 H;clear J N;cases V with
  |false=>
   rw[if_neg ι] at f;subst f;go_wp2;exact aN (v:=vE none) (by simp[results,Tryz.results201,go_sem,vE]) rfl ⟨rfl,H⟩
  |true=>
   rw[if_pos rfl] at f;subst f;go_wp2;exact aN (v:=vE (some (s,k+z))) (by simp[results,Tryz.results201,go_sem,vE]) rfl ⟨rfl,H⟩
theorem RF (A:Option Addr) (n c:Nat) (l:List UInt8) (p:Int) (w:aj) (u:Bys w A l) (i:l.length=n) (j:n<=c) (f:n<=12000000) (H:Tabs w):
  Calls Tryz.prog 201 #[.slice A n c,Vi p] w λe w'=>e= .returned (vE (Dp l p))/\Ext w w':=by
 cases a:uJ l p with
 |none=>
  have:Dp l p=none:=by unfold Dp;rw[a]
  rw[this];exact O4 A n c l p w u i j f a
 |some q=>
  obtain⟨z,k⟩:=q;obtain⟨I,_⟩:=Df a;obtain⟨q,rfl⟩:∃q:Nat,p=q:=⟨p.toNat,ω⟩;exact O1 A n c z k l q _ w u i j f H a rfl
theorem XD (v:Nat) (hv:v<4294967296) (w:aj):Calls Tryz.prog 67 #[Vu v] w λe w'=>e= .returned (Vi (Lib.bitLen v))/\w'=w:=by
 have:=Any.bits_Len32 Tryz.len32 (v:Int) w ω ω;rw[dx] at this;exact this
def agP (w:aj) (v:Nat) (t a:Value) (W:aj):Prop:=∃(j:Nat) (o:List UInt8),j<=4/\a= .int .i64 (8*(j:Int)-8)/\rY w W t o/\o++be v j=vT v/\Ext w W
theorem aei (v j:Nat):be v (j+1)=[dW (v/256^j)]++be v j:=rfl
theorem ae2 (n:Nat) (z:Int) (h:z=((n%256:Nat):Int)): #[Value.int .u8 z]=([dW n].map Vb).toArray:=by subst h;simp
theorem Xr (v:Nat):vT v=[dW (Ib v)]++be v (Ib v):=rfl
theorem ZO (v j:Nat):(v:Int)/2^(8*(j+1)-8)%256=((v/256^j%256:Nat):Int):=by
 have e:(2:Int)^(8*(j+1)-8)=((256^j:Nat):Int):=by
  rw[show 8*(j+1)-8=8*j by omega,Int.pow_mul,Int.natCast_pow];rfl
 rw[e,Int.natCast_emod,Int.natCast_ediv];rfl
theorem Ir (v:Nat) (hv:v<4294967296) (w:aj):Calls Tryz.prog 42 #[Vu v] w (aiw w (vT v)):=by
 obtain⟨k,M⟩:∃k,Ib v=k:=⟨_,rfl⟩;have H:=Sd v hv;have f:=OA v;have u:=ah (Xr v);rw[M] at H f u;have z:=ah (XD v hv w);generalize Lib.bitLen v=B at H z;have W:((B:Int)+7)/8=(k:Int):=ω
 have Q:=Xe (k+1) ω (1+(k:Int)) ω;clear H M;go_enter Tryz.func42,Tryz.ntmps42
 go_wp2_with fail
 refine z.out.mono ?_;rintro e a ⟨rfl,rfl⟩;clear z
 go_wp2_with(at_builtin;go_loud (refine wM (w0:=a) rfl (.tmp 13) (.tmp 16) rfl _ [] rfl ((rY.room (Ext.refl a) _ ω).ext ((Ext.refl _).alloc _)) (((Ext.refl a).alloc _).alloc _) _ 1 1 [dW k] rfl rfl (Bys.new2 _ _ [dW k] #[.int .u8 (k:Int)] (ae2 k k ω)) ι ?_;intro v2 Y I x2 _))
 rw[List.nil_append] at I;replace u:=ah u.out.symm
 go_loopw [4,5] (agP a v) (λ_ i _=>(intOf i+8).toNat)
 case atStart=>exact⟨k,_,f,ν,I,u.out,x2⟩
 case round=>
  obtain⟨j,o,U,rfl,K,q,J⟩:=hrel;have O:o.length<=5:=by have X:=congrArg List.length q;rw[List.length_append,QB] at X;have:=OA v;omega
  replace q:=ah q;cases j with
  |zero=>
   go_wp2;go_ret;have:=q.out;rw[be,List.append_nil] at this;exact⟨_,rfl,this▸K,J⟩
  |succ j=>
   go_wp2_with(at_builtin;go_loud (refine wM (w0:=a) rfl (.tmp 25) (.tmp 30) rfl _ o rfl (K.ext ((Ext.refl _).alloc _)) (J.alloc _) _ 1 1 [dW (v/256^j)] rfl rfl (Bys.new _ [dW (v/256^j)] #[.int .u8 ((v:Int)/2^(8*(j+1)-8)%256)] (ae2 _ _ (ZO v j))) (by simp only[List.length_cons,List.length_nil];omega) ?_;intro Z w3 N x3 _))
   go_roundw
   case rel=>exact⟨j,_,ω,ν,N,by rw[<-q.out,aei,List.append_assoc],x3⟩
   case measure=>simp[intOf];omega
theorem Qs (s:ByteArray) (z:s.size<=20000) (w:aj):Calls Tryz.prog 68 #[.string s] w (aiw w (FV s.data.toList)):=by
 have a:=ah (Ir s.size ω w);have j:=ah (show vT s.size++s.data.toList=FV s.data.toList by rw[FV,<-Lib.size_eq]);have H:(vT s.size).length<=5:=by rw[QB];have:=OA s.size;omega
 go_enter Tryz.func68,Tryz.ntmps68
 go_wp2_with fail
 refine a.out.mono ?_;rintro e q ⟨f,rfl,o1,x1⟩;clear a
 go_wp2_with(at_builtin;go_loud (refine HY (w0:=w) rfl (.tmp 6) (.tmp 7) rfl f (vT s.size) rfl o1 x1 s rfl ω ?_;intro u w3 i x3 _))
 go_ret;exact⟨_,rfl,j.out▸i,x3⟩
end
end Go.Proofs.YtejbpijamdlgcaaGreatDoor

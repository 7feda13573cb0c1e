/-
  TopRefuses answers true for every limit, every deeds, every last deed and either flag, and leaves its arguments as they were: what is refused tells one of the errors that there are, with the call's name, and changes nothing; under the variables of unicode/utf8 and of errors that its card lists, as the program's text lays them.
-/
import Derived.Test.YtejbpijamdlgcaaGreatDoorTwP
import Derived.Test.YtejbpijamdlgcaaGreatDoorTfP
set_option linter.unusedVariables false
set_option linter.unusedSimpArgs false
set_option maxRecDepth 100000
open Go.ChangeShapes renaming trodAll_cons→mP
open Go.OpenSpec renaming ofChange→kI
open Go.Value renaming okWide→lM
open Option.some renaming inj→fI
namespace Go.Proofs.YtejbpijamdlgcaaGreatDoor
open Go.ChangeShapes Go.WideShapes Go.ChangeAt Go.RowKit Go.Sort
theorem Dl (H:Type) (enc:TypeId×Value->H) (W:World) (base:Nat) (args:Array Value) (ds gs:List (DataW H)) (i:List MemPlace)
  (f:∀(j:Nat) t v,Tryz.f5.params[j]? =some t->args[j]? =some v->lM Tryz.prog W .any base t v)
  (Q:DataW.Whole enc Tryz.prog Tryz.f5.params.toList Rows.topRefusesSpec.vars false W args.toList ds gs i) (hL:laidMetH Tryz.prog aau W):
  Calls Tryz.prog 5 args W λe W'=>∃v,e= .returned v/\Rows.topRefusesSpec.post enc Tryz.prog Tryz.f5 false true false false W args v W':=by
 have a:∀(j:Nat) t v,Tryz.f5.params[j]? =some t->args[j]? =some v->lM Tryz.prog W .any base t v:=f;have J:=Q;obtain⟨p,q,u,hV,rfl,_,_⟩:=Q;have U:DataW.TrodAll enc Tryz.prog W 0 (λ_=>true) true Tryz.f5.params.toList args.toList ds p:=u;rw[Tryz.params5] at U a;obtain⟨O,a1,d0,a5,p0,q0,I,rfl,rfl,h0,r0⟩:=mP U;obtain⟨N,a0,d1,a4,p1,q1,rfl,rfl,rfl,h1,r1⟩:=mP r0;obtain⟨M,Z,d2,a3,p2,q2,rfl,rfl,rfl,h2,r2⟩:=mP r1;obtain⟨K,Y,d3,a2,p3,q3,rfl,rfl,rfl,h3,r3⟩:=mP r2;obtain⟨rfl,rfl,rfl⟩:=trodAll_nil r3;obtain rfl:args= #[O,N,M,K]:=by cases args;simp_all
 obtain⟨rfl,rfl⟩:=trodVars_none hV;obtain⟨lim,rfl,rfl,rfl,wl⟩:=open_int Tryz.underlying24 (a 0 24 O rfl rfl) h0;obtain⟨A,n,cap,l,rfl,hn,hc,z,hv,hin⟩:=abD (a 1 22 N rfl rfl) h1;obtain⟨x,hx,rfl⟩:=adW (a 2 34 M rfl rfl) h2;obtain⟨shut,rfl,rfl,rfl⟩:=open_bool Tryz.underlying4 (a 3 4 K rfl rfl) h3;have X:=bounds_u32 wl;obtain⟨hT,hE⟩:=adP hL;clear u f;refine(H6 lim X.1 X.2 A n cap l x shut W hv hn z hin hx hE hT).mono λe W' ⟨he,hg⟩=>?_
 subst he;exact⟨_,rfl,aat J laid (by decide+kernel) rfl rfl rfl rfl hg κ Tryz.underlying4⟩
theorem Ep (os:Os) (a:os.Started) (H:Type) (enc:TypeId×Value->H) (F:Stop.Interp):
  ReturnsInHanded {} Tryz.checked os 5 .any ((kI Rows.topRefusesSpec).preRow enc Tryz.prog Tryz.f5 Rows.topRefusesRow.domain false Rows.topRefusesRow.laid) (((kI Rows.topRefusesSpec).at F).post enc Tryz.prog Tryz.f5 false true false false):=by
 refine returnsInHanded_of_row (C:=Tryz.checked) (s:=kI Rows.topRefusesSpec) own a κ Tryz.func5
  (IK os enc) ?_
 intro W base args ds q e f i _ _ _ j _ _
 as_aux_lemma=>exact Dl H enc W base args ds q e f i j
theorem H7:Rows.TopRefusesSaid:=
 OpenClaim.holds_of_cond 5 Tryz.f5 rfl rfl rfl rfl rfl rfl rfl ⟨rfl,rfl,rfl,rfl,rfl⟩ rfl rfl rfl rfl rfl κ Tryz.func5 FH
  (of_decide_eq_true κ) (by unfold Func.isWrapper;first|(rw[if_pos (by decide+kernel)];kernel_rfl)|(rw[if_neg (by decide+kernel)];exact⟨rfl,rfl⟩))
  (λos a H enc _ F=>by rw[OpenClaim.pre_eq_preRow];exact Ep os a H enc F)
theorem FE (f:FuncId) (i:Func) (H:Tryz.pinned.checked.prog.funcNamed "surcingle/surcingletop.TopRefuses" =some f) (e:Tryz.pinned.checked.prog.funcs[f]? =some i):
  Rows.topRefusesCard.stood.looks=Tryz.pinned.checked.prog.looks []/\∀(j:Nat) t,i.params[j]? =some t->Tryz.pinned.checked.prog.wantsStandIn t=false:=by
 obtain rfl:f=5:=fI ((show Tryz.prog.funcNamed "surcingle/surcingletop.TopRefuses" =some 5 by kernel_rfl).symm.trans H)|>.symm
 obtain rfl:i=Tryz.f5:=(fI (Tryz.func5.symm.trans e)).symm;refine⟨κ,λj t q=>?_⟩;rw[Tryz.params5] at q;have z:t∈[24,22,34,4]:=by simpa using Array.mem_of_getElem? q
 have a:([24,22,34,4].all λu=> !Tryz.prog.wantsStandIn u)=true:=κ
 exact(show Tryz.prog.wantsStandIn t=false by simpa using List.all_eq_true.1 a t z)
theorem topRefuses_card:Rows.TopRefusesCardSaid:=
 Claim7.holds_tied_plain_at .later [] _ _ _ _ H7 (λ_ h=>by cases h) κ (λ_ h=>by cases h) topRefuses_row_tie rfl ⟨rfl,rfl⟩ κ rfl FE κ
end Go.Proofs.YtejbpijamdlgcaaGreatDoor

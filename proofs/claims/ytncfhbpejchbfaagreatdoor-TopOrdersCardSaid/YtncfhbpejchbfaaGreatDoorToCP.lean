/-
  TopOrders answers true for every batches and every picks, and leaves its arguments as they were: two replicas that are told the same batches in two orders, some more than once, have the same text, the same vector and as many items that wait; under the variables of unicode/utf8 and of errors that its card lists, as the program's text lays them.
-/
import Derived.Test.YtncfhbpejchbfaaGreatDoorToWP
import Derived.Test.YtncfhbpejchbfaaGreatDoorToFP
import Derived.Test.YtncfhbpejchbfaaGreatDoorPO1
set_option linter.unusedVariables false
set_option linter.unusedSimpArgs false
set_option maxRecDepth 100000
open Go.OpenSpec renaming ofChange→gt
open Option.some renaming inj→cO
open Go.Proofs.Tryz
open Go.Proofs.Tryz renaming prog→pg
namespace Go.Proofs.YtncfhbpejchbfaaGreatDoor
open Go.ChangeShapes Go.WideShapes Go.ChangeAt Go.RowKit Go.Sort
theorem zN (H:Type) (enc:TypeId×Value->H) (W:World) (base:Nat) (args:Array Value) (ds gs:List (DataW H)) (i:List MemPlace)
  (a:∀(j:Nat) t v,f3.params[j]? =some t->args[j]? =some v->Value.okWide pg W .any base t v)
  (Q:DataW.Whole enc pg f3.params.toList Rows.topOrdersSpec.vars false W args.toList ds gs i) (hL:laidMetH pg Y2 W):
  Calls pg 3 args W λe W'=>∃v,e= .returned v/\Rows.topOrdersSpec.post enc pg f3 false true false false W args v W':=by
 have f:∀(j:Nat) t v,f3.params[j]? =some t->args[j]? =some v->Value.okWide pg W .any base t v:=a;have K:=Q;obtain⟨p,q,u,hV,rfl,_,_⟩:=Q;have U:DataW.TrodAll enc pg W 0 (λ_=>true) true f3.params.toList args.toList ds p:=u;rw[params3] at U f;obtain⟨O,Y,d0,a1,p0,q0,J,rfl,rfl,h0,r0⟩:=trodAll_cons U;obtain⟨N,X,d1,a0,p1,q1,rfl,rfl,rfl,h1,Z⟩:=trodAll_cons r0;obtain⟨rfl,rfl,rfl⟩:=trodAll_nil Z;obtain rfl:args= #[O,N]:=by cases args;simp_all
 obtain⟨rfl,rfl⟩:=trodVars_none hV;obtain⟨A,n,cap,l,rfl,hn,hc,z,hv,hin⟩:=M5 (f 0 22 O rfl rfl) h0;obtain⟨B,m,M,ps,rfl,hm,I,hz⟩:=Q5 (f 1 23 N rfl rfl) h1;obtain⟨hT,hE⟩:=ab6 hL;clear u a;refine(FH A n cap l B m M ps W hv hn z hin hz hm I hE hT).mono λe W' ⟨he,hg⟩=>?_
 subst he;exact⟨_,rfl,Y1 K laid (by decide+kernel) rfl rfl rfl rfl hg κ underlying4⟩
theorem CV (os:Os) (a:os.Started) (H:Type) (enc:TypeId×Value->H) (F:Stop.Interp):
  ReturnsInHanded {} Tryz.checked os 3 .any ((gt Rows.topOrdersSpec).preRow enc pg f3 Rows.topOrdersRow.domain false Rows.topOrdersRow.laid) (((gt Rows.topOrdersSpec).at F).post enc pg f3 false true false false):=by
 refine returnsInHanded_of_row (C:=Tryz.checked) (s:=gt Rows.topOrdersSpec) own a κ func3
  (IU os enc) ?_
 intro W base args ds q e f i _ _ _ j _ _
 as_aux_lemma=>exact zN H enc W base args ds q e f i j
theorem FI:Rows.TopOrdersSaid:=
 OpenClaim.holds_of_cond 3 f3 rfl rfl rfl rfl rfl rfl rfl ⟨rfl,rfl,rfl,rfl,rfl⟩ rfl rfl rfl rfl rfl κ func3 EN
  (of_decide_eq_true κ) (by unfold Func.isWrapper;first|(rw[if_pos (by decide+kernel)];kernel_rfl)|(rw[if_neg (by decide+kernel)];exact⟨rfl,rfl⟩))
  (λos a H enc _ F=>by rw[OpenClaim.pre_eq_preRow];exact CV os a H enc F)
theorem EM (f:FuncId) (i:Func) (z:Tryz.pinned.checked.prog.funcNamed "surcingle/surcingletop.TopOrders" =some f) (e:Tryz.pinned.checked.prog.funcs[f]? =some i):
  Rows.topOrdersCard.stood.looks=Tryz.pinned.checked.prog.looks []/\∀(j:Nat) t,i.params[j]? =some t->Tryz.pinned.checked.prog.wantsStandIn t=false:=by
 obtain rfl:f=3:=cO ((show pg.funcNamed "surcingle/surcingletop.TopOrders" =some 3 by kernel_rfl).symm.trans z)|>.symm
 obtain rfl:i=f3:=(cO (func3.symm.trans e)).symm;refine⟨κ,λj t q=>?_⟩;rw[params3] at q;have hm:t∈[22,23]:=by simpa using Array.mem_of_getElem? q
 have a:([22,23].all λu=> !pg.wantsStandIn u)=true:=κ
 exact(show pg.wantsStandIn t=false by simpa using List.all_eq_true.1 a t hm)
theorem topOrders_card:Rows.TopOrdersCardSaid:=
 Claim7.holds_tied_plain_at .later [] _ _ _ _ FI (λ_ h=>by cases h) κ (λ_ h=>by cases h) topOrders_row_tie rfl ⟨rfl,rfl⟩ κ rfl EM κ
end Go.Proofs.YtncfhbpejchbfaaGreatDoor

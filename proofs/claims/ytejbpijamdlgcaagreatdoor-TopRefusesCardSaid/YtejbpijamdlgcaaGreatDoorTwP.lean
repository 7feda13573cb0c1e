/-
  A world with arguments that TopRefuses' row bears: its witness; no claim stands here.
-/
import Derived.Test.YtejbpijamdlgcaaGreatDoorPE1
set_option linter.unusedVariables false
set_option linter.unusedSimpArgs false
set_option maxRecDepth 100000
namespace Go.Proofs.YtejbpijamdlgcaaGreatDoor
open Go.ChangeShapes Go.WideShapes Go.ChangeAt Go.RowKit Go.Sort
theorem FD (os:Os) {H:Type} (enc:TypeId×Value->H):∃a,DataW.whole enc Tryz.prog ((xO os).forCall (λ_ _=>0) ⟨#[],#[.int .u32 0,.slice none 0 0,.agg #[.int .i64 0,.int .i64 0,.int .i64 0,.string ⟨#[]⟩,.slice none 0 0],.bool false],[]⟩).memory Tryz.f5.params.toList Rows.topRefusesSpec.vars false #[Value.int .u32 0,.slice none 0 0,.agg #[.int .i64 0,.int .i64 0,.int .i64 0,.string ⟨#[]⟩,.slice none 0 0],.bool false].toList 8=some ([.lit (.int .u32 0),.nil,.agg [.lit (.int .i64 0),.lit (.int .i64 0),.lit (.int .i64 0),.lit (.string []),.nil],.lit (.bool false)],[],a):=
 ⟨[],κ⟩
theorem IK (os:Os) {H:Type} (enc:TypeId×Value->H):∃(w:World) (tape:Tape) (i:Input),w.os=os/\(w.forCall tape i).Shaped Tryz.checked.prog/\i.vars=[]/\Input.okWide Tryz.checked.prog (w.forCall tape i) .any w.heap.size 5 i/\
  (OpenSpec.ofChange Rows.topRefusesSpec).preRow enc Tryz.checked.prog Tryz.f5 Rows.topRefusesRow.domain false Rows.topRefusesRow.laid (w.forCall tape i).memory i.args/\({ modest:=false }:Assume).holds Tryz.checked.prog (lone (Frame.enter Tryz.checked.prog 5 i.args .normal) [] (w.forCall tape i)):=by
 obtain⟨a,e⟩:=FD os enc;exact witness_row_at (enc:=enc) (C:=Tryz.checked) false (xO os) #[.int .u32 0,.slice none 0 0,.agg #[.int .i64 0,.int .i64 0,.int .i64 0,.string ⟨#[]⟩,.slice none 0 0],.bool false] (Le os) κ κ κ (OpenSpec.preRow_of_cond 8 e κ (λk f=>by cases f) κ (XO os _))
end Go.Proofs.YtejbpijamdlgcaaGreatDoor

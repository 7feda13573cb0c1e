/-
  A world with arguments that TopOrders' row bears: its witness; no claim stands here.
-/
import Derived.Test.YtncfhbpejchbfaaGreatDoorPE1
set_option linter.unusedVariables false
set_option linter.unusedSimpArgs false
set_option maxRecDepth 100000
open Go.Proofs.Tryz
open Go.Proofs.Tryz renaming prog→pg
namespace Go.Proofs.YtncfhbpejchbfaaGreatDoor
open Go.ChangeShapes Go.WideShapes Go.ChangeAt Go.RowKit Go.Sort
theorem EL (os:Os) {H:Type} (enc:TypeId×Value->H):∃a,DataW.whole enc pg ((tC os).forCall (λ_ _=>0) ⟨#[],#[.slice none 0 0,.slice none 0 0],[]⟩).memory f3.params.toList Rows.topOrdersSpec.vars false #[Value.slice none 0 0,.slice none 0 0].toList 8=some ([.nil,.nil],[],a):=
 ⟨[],κ⟩
theorem IU (os:Os) {H:Type} (enc:TypeId×Value->H):∃(w:World) (tape:Tape) (i:Input),w.os=os/\(w.forCall tape i).Shaped Tryz.checked.prog/\i.vars=[]/\Input.okWide Tryz.checked.prog (w.forCall tape i) .any w.heap.size 3 i/\
  (OpenSpec.ofChange Rows.topOrdersSpec).preRow enc Tryz.checked.prog f3 Rows.topOrdersRow.domain false Rows.topOrdersRow.laid (w.forCall tape i).memory i.args/\({ modest:=false }:Assume).holds Tryz.checked.prog (lone (Frame.enter Tryz.checked.prog 3 i.args .normal) [] (w.forCall tape i)):=by
 obtain⟨a,e⟩:=EL os enc;exact witness_row_at (enc:=enc) (C:=Tryz.checked) false (tC os) #[.slice none 0 0,.slice none 0 0] (IX os) κ κ κ (OpenSpec.preRow_of_cond 8 e κ (λk f=>by cases f) κ (VI os _))
end Go.Proofs.YtncfhbpejchbfaaGreatDoor

/-
  The head of layer 4's statements; no claim stands here.
-/
import Derived.Test.YtfdbcekdbffibaaDoorWirPut
import Derived.Test.YtfdbcekdbffibaaDoorWirGet
import Derived.Test.YtfdbcekdbffibaaDoorSoft
namespace Go.Proofs.YtfdbcekdbffibaaDoor
open Go.ChangeShapes Go.WideShapes Go.ChangeAt Go.RowKit Go.Sort
set_option linter.unusedVariables false
attribute [local go_sem] World.cell?_alloc_some

/-- string(b), of bytes of the call's own -/
theorem own_text {w W W' : World} {v : Value} {l : List UInt8} (h : OwnB w W v l) (hx : Ext W W') : (convert 23 9 v).run Tryd.prog W' = .ok (.string ⟨l.toArray⟩) W' := by
  obtain ⟨A, c, rfl, _, hb⟩ := h.open
  exact textB (hb.ext hx) rfl
theorem put258 (W : World) : Calls Tryd.prog 11 #[Vu 258] W (RetB W [2, 1, 2]) := put_any 258 (by omega) W
theorem putA (W : World) : Calls Tryd.prog 13 #[.string ⟨#[97]⟩] W (RetB W [1, 1, 97]) := putText_any ⟨#[97]⟩ (by decide) W

/-- what the head's slots hold -/
def upTab (w : World) : SoftTab := [(10, fun x W => OwnB w W x [2, 1, 2]),
  (11, fun x W => x = .string ⟨#[2, 1, 2]⟩),
  (12, fun x W => OwnB w W x [2, 1, 2]),
  (13, fun x W => x = .string ⟨#[2, 1, 2]⟩),
  (14, fun x W => x = .bool true),
  (15, fun x W => x = .bool true),
  (16, fun x W => x = Vu 258),
  (17, fun x W => x = .bool true),
  (18, fun x W => x = .bool true),
  (19, fun x W => x = .bool true),
  (20, fun x W => x = Vi 3),
  (21, fun x W => x = .bool true),
  (22, fun x W => x = .bool true),
  (23, fun x W => x = .bool true),
  (24, fun x W => x = .nilIface),
  (25, fun x W => x = .bool true),
  (26, fun x W => x = .bool true),
  (27, fun x W => x = .bool true),
  (28, fun x W => OwnB w W x [1, 1, 97]),
  (29, fun x W => x = .string ⟨#[1, 1, 97]⟩),
  (30, fun x W => OwnB w W x [1, 1, 97]),
  (31, fun x W => x = .string ⟨#[1, 1, 97]⟩),
  (32, fun x W => x = .bool true),
  (33, fun x W => x = .bool true),
  (0, fun x W => x = .bool true)]
theorem upTab_mono (w : World) : SoftMono (upTab w) := by
  intro p hp v W W' h hx
  simp only [upTab, List.mem_cons, List.not_mem_nil, or_false] at hp
  rcases hp with rfl | rfl | rfl | rfl | rfl | rfl | rfl | rfl | rfl | rfl | rfl | rfl | rfl | rfl | rfl | rfl | rfl | rfl | rfl | rfl | rfl | rfl | rfl | rfl | rfl
  all_goals first | exact h | exact OwnB.ext h hx

set_option maxRecDepth 100000 in
set_option maxHeartbeats 4000000 in
theorem up4_any (w0 : World) : Calls Tryd.prog 5 #[] w0 fun e w' => e = .returned (.bool true) ∧ Ext w0 w' := by
  have hg := Lib.hid (get_any (some ⟨w0.heap.size, 0, none⟩) 3 3 [2, 1, 2] 0 (w0.alloc (.cells #[.int .u8 2, .int .u8 1, .int .u8 2] 5)) (Bys.new w0 [2, 1, 2] _ rfl) rfl (by omega) (by omega))
  rw [show getB [2, 1, 2] 0 = some (258, 3) by decide] at hg
  go_enter Tryd.func5, Tryd.ntmps5
  go_wp2_with fail
  refine hg.out.mono ?_
  rintro e w ⟨rfl, x0⟩
  clear hg
  simp only [getRet]
  have k0 : Ext w0 w := ((Ext.refl w0).alloc _).trans x0
  clear x0
  go_wp2_with fail
  refine wp_soft (upTab w) (by kernel_rfl) rfl (by show List.Nodup [10, 11, 12, 13, 14, 15, 16, 17, 18, 19, 20, 21, 22, 23, 24, 25, 26, 27, 28, 29, 30, 31, 32, 33, 0]; decide) (by show ∀ d ∈ [10, 11, 12, 13, 14, 15, 16, 17, 18, 19, 20, 21, 22, 23, 24, 25, 26, 27, 28, 29, 30, 31, 32, 33, 0], d < 34; decide) (by kernel_rfl) (upTab_mono w) ?_ ⟨?_, ?_, ?_, ?_, ?_, ?_, ?_, ?_, ?_, ?_, ?_, ?_, ?_, ?_, ?_, ?_, ?_, ?_, ?_, ?_, ?_, ?_, ?_, ?_, ?_, trivial⟩
  · rename_i K hK
    intro a' W hS
    have h0 : a'.tmps[0]?.getD undef = .bool true := by rw [← Array.getD_eq_getD_getElem?]; exact hS.told 24 0 _ rfl rfl
    have hz : a'.tmps.size = 34 := hS.size
    refine hK _ _ (wp_ret (bodyPost_ret (v := .bool true) ?_ hS.defers ⟨rfl, k0.trans hS.ext⟩))
    simp [results, Tryd.results5, h0]
  · refine soft_call 10 _ (by kernel_rfl) rfl rfl ?_
    intro a W hx hout hdep
    refine ⟨rfl, 11, #[Vu 258], ?_, ?_⟩
    · simp [execOp, go_sem]
    · refine (put258 W).mono ?_
      rintro e W' ⟨v, rfl, ho, hE⟩
      exact ⟨v, rfl, ho.down hx, hE⟩
  · refine soft_val 11 _ (by kernel_rfl) rfl rfl ?_
    intro a W hx hout hdep
    have ow10 : OwnB w W (a.eval (.tmp 10)) [2, 1, 2] := (hdep ⟨0, .data⟩ (by simp) rfl 10 _ rfl).1
    have hcv : (convert 23 9 (a.eval (.tmp 10))).run Tryd.prog W = .ok (.string ⟨#[2, 1, 2]⟩) W := own_text ow10 (Ext.refl W)
    refine ⟨rfl, .string ⟨#[2, 1, 2]⟩, W, ?_, rfl, Ext.refl _⟩
    simp [hcv, execOp]
  · refine soft_val 12 _ (by kernel_rfl) rfl rfl ?_
    intro a W hx hout hdep
    refine ⟨rfl, .slice (some ⟨W.heap.size, 0, none⟩) 3 3, W.alloc (.cells #[.int .u8 2, .int .u8 1, .int .u8 2] 5), ?_, OwnB.new hx [2, 1, 2] (by simp) _ rfl, (Ext.refl W).alloc _⟩
    simp [execOp, go_sem]
  · refine soft_val 13 _ (by kernel_rfl) rfl rfl ?_
    intro a W hx hout hdep
    have ow12 : OwnB w W (a.eval (.tmp 12)) [2, 1, 2] := (hdep ⟨2, .data⟩ (by simp) rfl 12 _ rfl).1
    have hcv : (convert 23 9 (a.eval (.tmp 12))).run Tryd.prog W = .ok (.string ⟨#[2, 1, 2]⟩) W := own_text ow12 (Ext.refl W)
    refine ⟨rfl, .string ⟨#[2, 1, 2]⟩, W, ?_, rfl, Ext.refl _⟩
    simp [hcv, execOp]
  · refine soft_val 14 _ (by kernel_rfl) rfl rfl ?_
    intro a W hx hout hdep
    have ev11 : a.tmps[11]?.getD undef = .string ⟨#[2, 1, 2]⟩ := by rw [← Array.getD_eq_getD_getElem?]; exact (hdep ⟨1, .data⟩ (by simp) rfl 11 _ rfl).1
    have ev13 : a.tmps[13]?.getD undef = .string ⟨#[2, 1, 2]⟩ := by rw [← Array.getD_eq_getD_getElem?]; exact (hdep ⟨3, .data⟩ (by simp) rfl 13 _ rfl).1
    refine ⟨rfl, .bool true, W, ?_, rfl, Ext.refl _⟩
    simp [ev11, ev13, execOp, go_sem]
  · refine soft_val 15 _ (by kernel_rfl) rfl rfl ?_
    intro a W hx hout hdep
    have ev14 : a.tmps[14]?.getD undef = .bool true := by rw [← Array.getD_eq_getD_getElem?]; exact (hdep ⟨4, .data⟩ (by simp) rfl 14 _ rfl).1
    refine ⟨rfl, .bool true, W, ?_, rfl, Ext.refl _⟩
    simp [ev14, execOp, go_sem]
  · refine soft_val 16 _ (by kernel_rfl) rfl rfl ?_
    intro a W hx hout hdep
    have ev1 : a.tmps[1]?.getD undef = Vu 258 := by rw [← Array.getD_eq_getD_getElem?]; exact hout 1 (by show 1 ∉ [10, 11, 12, 13, 14, 15, 16, 17, 18, 19, 20, 21, 22, 23, 24, 25, 26, 27, 28, 29, 30, 31, 32, 33, 0]; decide)
    refine ⟨soft_wanted rfl (by kernel_rfl) (hdep ⟨5, .guard⟩ (by simp) rfl 15 _ rfl), Vu 258, W, ?_, rfl, Ext.refl _⟩
    simp [ev1, execOp, go_sem]
  · refine soft_val 17 _ (by kernel_rfl) rfl rfl ?_
    intro a W hx hout hdep
    have ev16 : a.tmps[16]?.getD undef = Vu 258 := by rw [← Array.getD_eq_getD_getElem?]; exact (hdep ⟨6, .data⟩ (by simp) rfl 16 _ rfl).1
    refine ⟨soft_wanted rfl (by kernel_rfl) (hdep ⟨5, .guard⟩ (by simp) rfl 15 _ rfl), .bool true, W, ?_, rfl, Ext.refl _⟩
    simp [ev16, execOp, go_sem]
  · refine soft_val 18 _ (by kernel_rfl) rfl rfl ?_
    intro a W hx hout hdep
    have ev15 : a.tmps[15]?.getD undef = .bool true := by rw [← Array.getD_eq_getD_getElem?]; exact (hdep ⟨5, .data⟩ (by simp) rfl 15 _ rfl).1
    have ev17 : a.tmps[17]?.getD undef = .bool true := by rw [← Array.getD_eq_getD_getElem?]; exact (hdep ⟨7, .data⟩ (by simp) rfl 17 _ rfl).1
    refine ⟨rfl, .bool true, W, ?_, rfl, Ext.refl _⟩
    simp [ev15, ev17, execOp, go_sem]
  · refine soft_val 19 _ (by kernel_rfl) rfl rfl ?_
    intro a W hx hout hdep
    have ev18 : a.tmps[18]?.getD undef = .bool true := by rw [← Array.getD_eq_getD_getElem?]; exact (hdep ⟨8, .data⟩ (by simp) rfl 18 _ rfl).1
    refine ⟨rfl, .bool true, W, ?_, rfl, Ext.refl _⟩
    simp [ev18, execOp, go_sem]
  · refine soft_val 20 _ (by kernel_rfl) rfl rfl ?_
    intro a W hx hout hdep
    have ev2 : a.tmps[2]?.getD undef = Vi 3 := by rw [← Array.getD_eq_getD_getElem?]; exact hout 2 (by show 2 ∉ [10, 11, 12, 13, 14, 15, 16, 17, 18, 19, 20, 21, 22, 23, 24, 25, 26, 27, 28, 29, 30, 31, 32, 33, 0]; decide)
    refine ⟨soft_wanted rfl (by kernel_rfl) (hdep ⟨9, .guard⟩ (by simp) rfl 19 _ rfl), Vi 3, W, ?_, rfl, Ext.refl _⟩
    simp [ev2, execOp, go_sem]
  · refine soft_val 21 _ (by kernel_rfl) rfl rfl ?_
    intro a W hx hout hdep
    have ev20 : a.tmps[20]?.getD undef = Vi 3 := by rw [← Array.getD_eq_getD_getElem?]; exact (hdep ⟨10, .data⟩ (by simp) rfl 20 _ rfl).1
    refine ⟨soft_wanted rfl (by kernel_rfl) (hdep ⟨9, .guard⟩ (by simp) rfl 19 _ rfl), .bool true, W, ?_, rfl, Ext.refl _⟩
    simp [ev20, execOp, go_sem]
  · refine soft_val 22 _ (by kernel_rfl) rfl rfl ?_
    intro a W hx hout hdep
    have ev19 : a.tmps[19]?.getD undef = .bool true := by rw [← Array.getD_eq_getD_getElem?]; exact (hdep ⟨9, .data⟩ (by simp) rfl 19 _ rfl).1
    have ev21 : a.tmps[21]?.getD undef = .bool true := by rw [← Array.getD_eq_getD_getElem?]; exact (hdep ⟨11, .data⟩ (by simp) rfl 21 _ rfl).1
    refine ⟨rfl, .bool true, W, ?_, rfl, Ext.refl _⟩
    simp [ev19, ev21, execOp, go_sem]
  · refine soft_val 23 _ (by kernel_rfl) rfl rfl ?_
    intro a W hx hout hdep
    have ev22 : a.tmps[22]?.getD undef = .bool true := by rw [← Array.getD_eq_getD_getElem?]; exact (hdep ⟨12, .data⟩ (by simp) rfl 22 _ rfl).1
    refine ⟨rfl, .bool true, W, ?_, rfl, Ext.refl _⟩
    simp [ev22, execOp, go_sem]
  · refine soft_val 24 _ (by kernel_rfl) rfl rfl ?_
    intro a W hx hout hdep
    have ev3 : a.tmps[3]?.getD undef = .nilIface := by rw [← Array.getD_eq_getD_getElem?]; exact hout 3 (by show 3 ∉ [10, 11, 12, 13, 14, 15, 16, 17, 18, 19, 20, 21, 22, 23, 24, 25, 26, 27, 28, 29, 30, 31, 32, 33, 0]; decide)
    refine ⟨soft_wanted rfl (by kernel_rfl) (hdep ⟨13, .guard⟩ (by simp) rfl 23 _ rfl), .nilIface, W, ?_, rfl, Ext.refl _⟩
    simp [ev3, execOp, go_sem]
  · refine soft_val 25 _ (by kernel_rfl) rfl rfl ?_
    intro a W hx hout hdep
    have ev24 : a.tmps[24]?.getD undef = .nilIface := by rw [← Array.getD_eq_getD_getElem?]; exact (hdep ⟨14, .data⟩ (by simp) rfl 24 _ rfl).1
    refine ⟨soft_wanted rfl (by kernel_rfl) (hdep ⟨13, .guard⟩ (by simp) rfl 23 _ rfl), .bool true, W, ?_, rfl, Ext.refl _⟩
    simp [ev24, execOp, go_sem]
  · refine soft_val 26 _ (by kernel_rfl) rfl rfl ?_
    intro a W hx hout hdep
    have ev23 : a.tmps[23]?.getD undef = .bool true := by rw [← Array.getD_eq_getD_getElem?]; exact (hdep ⟨13, .data⟩ (by simp) rfl 23 _ rfl).1
    have ev25 : a.tmps[25]?.getD undef = .bool true := by rw [← Array.getD_eq_getD_getElem?]; exact (hdep ⟨15, .data⟩ (by simp) rfl 25 _ rfl).1
    refine ⟨rfl, .bool true, W, ?_, rfl, Ext.refl _⟩
    simp [ev23, ev25, execOp, go_sem]
  · refine soft_val 27 _ (by kernel_rfl) rfl rfl ?_
    intro a W hx hout hdep
    have ev26 : a.tmps[26]?.getD undef = .bool true := by rw [← Array.getD_eq_getD_getElem?]; exact (hdep ⟨16, .data⟩ (by simp) rfl 26 _ rfl).1
    refine ⟨rfl, .bool true, W, ?_, rfl, Ext.refl _⟩
    simp [ev26, execOp, go_sem]
  · refine soft_call 28 _ (by kernel_rfl) rfl rfl ?_
    intro a W hx hout hdep
    refine ⟨soft_wanted rfl (by kernel_rfl) (hdep ⟨17, .guard⟩ (by simp) rfl 27 _ rfl), 13, #[.string ⟨#[97]⟩], ?_, ?_⟩
    · simp [execOp, go_sem]
    · refine (putA W).mono ?_
      rintro e W' ⟨v, rfl, ho, hE⟩
      exact ⟨v, rfl, ho.down hx, hE⟩
  · refine soft_val 29 _ (by kernel_rfl) rfl rfl ?_
    intro a W hx hout hdep
    have ow28 : OwnB w W (a.eval (.tmp 28)) [1, 1, 97] := (hdep ⟨18, .data⟩ (by simp) rfl 28 _ rfl).1
    have hcv : (convert 23 9 (a.eval (.tmp 28))).run Tryd.prog W = .ok (.string ⟨#[1, 1, 97]⟩) W := own_text ow28 (Ext.refl W)
    refine ⟨soft_wanted rfl (by kernel_rfl) (hdep ⟨17, .guard⟩ (by simp) rfl 27 _ rfl), .string ⟨#[1, 1, 97]⟩, W, ?_, rfl, Ext.refl _⟩
    simp [hcv, execOp]
  · refine soft_val 30 _ (by kernel_rfl) rfl rfl ?_
    intro a W hx hout hdep
    refine ⟨soft_wanted rfl (by kernel_rfl) (hdep ⟨17, .guard⟩ (by simp) rfl 27 _ rfl), .slice (some ⟨W.heap.size, 0, none⟩) 3 3, W.alloc (.cells #[.int .u8 1, .int .u8 1, .int .u8 97] 5), ?_, OwnB.new hx [1, 1, 97] (by simp) _ rfl, (Ext.refl W).alloc _⟩
    simp [execOp, go_sem]
  · refine soft_val 31 _ (by kernel_rfl) rfl rfl ?_
    intro a W hx hout hdep
    have ow30 : OwnB w W (a.eval (.tmp 30)) [1, 1, 97] := (hdep ⟨20, .data⟩ (by simp) rfl 30 _ rfl).1
    have hcv : (convert 23 9 (a.eval (.tmp 30))).run Tryd.prog W = .ok (.string ⟨#[1, 1, 97]⟩) W := own_text ow30 (Ext.refl W)
    refine ⟨soft_wanted rfl (by kernel_rfl) (hdep ⟨17, .guard⟩ (by simp) rfl 27 _ rfl), .string ⟨#[1, 1, 97]⟩, W, ?_, rfl, Ext.refl _⟩
    simp [hcv, execOp]
  · refine soft_val 32 _ (by kernel_rfl) rfl rfl ?_
    intro a W hx hout hdep
    have ev29 : a.tmps[29]?.getD undef = .string ⟨#[1, 1, 97]⟩ := by rw [← Array.getD_eq_getD_getElem?]; exact (hdep ⟨19, .data⟩ (by simp) rfl 29 _ rfl).1
    have ev31 : a.tmps[31]?.getD undef = .string ⟨#[1, 1, 97]⟩ := by rw [← Array.getD_eq_getD_getElem?]; exact (hdep ⟨21, .data⟩ (by simp) rfl 31 _ rfl).1
    refine ⟨soft_wanted rfl (by kernel_rfl) (hdep ⟨17, .guard⟩ (by simp) rfl 27 _ rfl), .bool true, W, ?_, rfl, Ext.refl _⟩
    simp [ev29, ev31, execOp, go_sem]
  · refine soft_val 33 _ (by kernel_rfl) rfl rfl ?_
    intro a W hx hout hdep
    have ev27 : a.tmps[27]?.getD undef = .bool true := by rw [← Array.getD_eq_getD_getElem?]; exact (hdep ⟨17, .data⟩ (by simp) rfl 27 _ rfl).1
    have ev32 : a.tmps[32]?.getD undef = .bool true := by rw [← Array.getD_eq_getD_getElem?]; exact (hdep ⟨22, .data⟩ (by simp) rfl 32 _ rfl).1
    refine ⟨rfl, .bool true, W, ?_, rfl, Ext.refl _⟩
    simp [ev27, ev32, execOp, go_sem]
  · refine soft_val 0 _ (by kernel_rfl) rfl rfl ?_
    intro a W hx hout hdep
    have ev33 : a.tmps[33]?.getD undef = .bool true := by rw [← Array.getD_eq_getD_getElem?]; exact (hdep ⟨23, .data⟩ (by simp) rfl 33 _ rfl).1
    refine ⟨rfl, .bool true, W, ?_, rfl, Ext.refl _⟩
    simp [ev33, execOp, go_sem]

end Go.Proofs.YtfdbcekdbffibaaDoor

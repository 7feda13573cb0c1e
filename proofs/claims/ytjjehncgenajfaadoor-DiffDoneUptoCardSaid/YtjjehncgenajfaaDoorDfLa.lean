/-
  Contracts of the library's functions that the landed diff calls, in plain names; no claim stands here.
-/
import Derived.Test.YtjjehncgenajfaaDoorLayDf
import Derived.Test.YtjjehncgenajfaaDoorTab
import Derived.Test.YtjjehncgenajfaaDoorVsT
import Derived.Test.YtjjehncgenajfaaDoorNMath
import Derived.Shelf.Strings.OnBuilder
import Derived.Shelf.Strings.Prefix
import Derived.Shelf.Strconv.Clone
import Derived.Shelf.Utf8.RuneCount
import Derived.Shelf.Unicode.DecodeAny
import Derived.Shelf.Unicode.DecodeLast
namespace Go.Proofs.YtjjehncgenajfaaDoor
open Go.ChangeShapes Go.WideShapes Go.ChangeAt Go.RowKit Go.Sort
set_option linter.unusedVariables false

theorem sz_list (l : List UInt8) : (⟨l.toArray⟩ : ByteArray).size = l.length := by show l.toArray.size = _; simp
theorem decode_df (l : List UInt8) (w : World) (hT : Tabs w) : Calls Tryd.prog 18 #[Vs l] w fun e w' => e = .returned (.tuple #[.int .i32 (Lib.decodeGo ⟨l.toArray⟩).1, .int .i64 (Lib.decodeGo ⟨l.toArray⟩).2]) ∧ Ext w w' :=
  Any.utf8_DecodeRuneInString Tryd.laysDec _ w hT
theorem last_df (l : List UInt8) (hl : l.length ≤ 100000) (w : World) (hT : Tabs w) : Calls Tryd.prog 20 #[Vs l] w fun e w' => e = .returned (.tuple #[.int .i32 (Lib.decodeLastL l).1, .int .i64 (Lib.decodeLastL l).2]) ∧ Ext w w' :=
  Any.utf8_DecodeLastRuneInString Tryd.laysLast ⟨l.toArray⟩ w (by rw [sz_list]; omega) hT
theorem pre_df (l p : List UInt8) (w : World) : Calls Tryd.prog 19 #[Vs l, Vs p] w fun e w' => e = .returned (.bool (Lib.hasPrefix l p)) ∧ Ext w w' :=
  (Any.strings_HasPrefix Tryd.laysPre ⟨l.toArray⟩ ⟨p.toArray⟩ w).mono fun e w' h => ⟨h.1, h.2 ▸ Ext.refl _⟩
theorem suf_df (l p : List UInt8) (hl : l.length ≤ 100000) (w : World) : Calls Tryd.prog 21 #[Vs l, Vs p] w fun e w' => e = .returned (.bool (Lib.hasSuffix l p)) ∧ Ext w w' :=
  (Any.strings_HasSuffix Tryd.laysSuf ⟨l.toArray⟩ ⟨p.toArray⟩ w (by rw [sz_list]; omega)).mono fun e w' h => ⟨h.1, h.2 ▸ Ext.refl _⟩
theorem count_df (l : List UInt8) (hl : l.length ≤ 100000) (w : World) : Calls Tryd.prog 13 #[Vs l] w fun e w' => e = .returned (Vi ((runesD l).length : Nat)) ∧ Ext w w' := by
  refine (Any.utf8_RuneCountInString Tryd.laysCount ⟨l.toArray⟩ w (by rw [sz_list]; omega)).mono ?_
  rintro e w' ⟨h1, pos, rfl⟩
  rw [runeCount_D] at h1
  exact ⟨h1, (Ext.refl _).alloc _⟩
theorem sclone_df (l : List UInt8) (hl : l.length ≤ 100000) (w : World) : Calls Tryd.prog 22 #[Vs l] w fun e w' => e = .returned (Vs l) ∧ Ext w w' :=
  Any.stringslite_Clone Tryd.laysCln ⟨l.toArray⟩ w (by rw [sz_list]; omega)
theorem clone_df (l : List UInt8) (hl : l.length ≤ 100000) (w : World) : Calls Tryd.prog 15 #[Vs l] w fun e w' => e = .returned (Vs l) ∧ Ext w w' := by
  go_enter Tryd.func15, Tryd.ntmps15
  go_wp2_with fail
  refine (sclone_df l hl _).mono ?_
  rintro e w' ⟨rfl, x⟩
  go_wp2
  go_ret
  exact ⟨rfl, x⟩
theorem extraDf : Builder.Extra Tryd.prog Tryd.laysJoin_ren where
  sizeBuilder := by kernel_rfl
  liesBuilder := by kernel_rfl
  t5 := Tryd.underlying5
  a5 := Tryd.isAgg5
  z5 := Tryd.sizeOf5
  v5 := Tryd.zeroValue5
  infoByte := by kernel_rfl
  cellsByte := by kernel_rfl
  sizeByte := by kernel_rfl
  neB5 := by decide
/-- three texts joined -/
theorem join_df (a b c : List UInt8) (ha : a.length ≤ 100000) (hb : b.length ≤ 100000) (hc : c.length ≤ 100000) (q : Nat) (w : World) (c0 : w.cell? ⟨q, 0, none⟩ = some (Vs a)) (c1 : w.cell? ⟨q, 1, none⟩ = some (Vs b)) (c2 : w.cell? ⟨q, 2, none⟩ = some (Vs c)) (hq : q < w.heap.size) :
    Calls Tryd.prog 17 #[.slice (some ⟨q, 0, none⟩) 3 3, Vs []] w fun e w' => e = .returned (Vs (a ++ b ++ c)) ∧ Ext w w' := by
  have hj : Lib.join ([⟨a.toArray⟩, ⟨b.toArray⟩, ⟨c.toArray⟩].map fun s : ByteArray => s.data.toList) [] = a ++ b ++ c := by simp [Lib.join]
  have h := Any.strings_Join Tryd.laysJoin extraDf q 0 3 [⟨a.toArray⟩, ⟨b.toArray⟩, ⟨c.toArray⟩] ⟨#[]⟩ w (fun j x hx => by
    match j, hx with
    | 0, hx => obtain rfl := (Option.some.inj hx); exact c0
    | 1, hx => obtain rfl := (Option.some.inj hx); exact c1
    | 2, hx => obtain rfl := (Option.some.inj hx); exact c2) hq (by simp) (by simp) (by
      show (Lib.join ([⟨a.toArray⟩, ⟨b.toArray⟩, ⟨c.toArray⟩].map fun s : ByteArray => s.data.toList) []).length ≤ _
      rw [hj, List.length_append, List.length_append]; omega)
  refine h.mono ?_
  rintro e w' ⟨h1, h2⟩
  refine ⟨?_, h2⟩
  rw [h1]
  show Ending.returned (Vs (Lib.join ([⟨a.toArray⟩, ⟨b.toArray⟩, ⟨c.toArray⟩].map fun s : ByteArray => s.data.toList) [])) = _
  rw [hj]

end Go.Proofs.YtjjehncgenajfaaDoor

/-
  Contract of runs.Of; no claim stands here.
-/
import Derived.Test.YtjhhohoeeacckaaDoorNJoin
namespace Go.Proofs.YtjhhohoeeacckaaDoor
open Go.ChangeShapes Go.WideShapes Go.ChangeAt Go.RowKit Go.Sort
set_option linter.unusedVariables false
attribute [local go_sem] World.cell?_alloc_some

def sliceLen : Value → Nat
  | .slice _ n _ => n
  | _ => 0
theorem wfIs.drop {l : List It} (h : wfIs l) (k : Nat) : wfIs (l.drop k) := fun x hx => h x (List.mem_of_mem_drop hx)
theorem wfIs.take {l : List It} (h : wfIs l) (k : Nat) : wfIs (l.take k) := fun x hx => h x (List.mem_of_mem_take hx)

/-- what Of's loop keeps -/
def OfKeep (w : World) (N : Nat) (l : List It) (s0 s3 : Value) (W : World) : Prop :=
  ∃ (r : List It) (rs : List Rn) (A : Option Addr) (m c : Nat), s0 = .slice A m c ∧ Hid (r.length = m) ∧ m ≤ c ∧ Hid (ItS w A r) ∧ Hid (wfIs r) ∧ Hid (OwnR w W s3 rs) ∧ rs.length + m ≤ N ∧ Ext w W ∧ Hid (rs ++ runsOf r = runsOf l)

set_option maxRecDepth 100000 in
set_option maxHeartbeats 4000000 in
theorem of_any (A : Option Addr) (n cap : Nat) (l : List It) (w : World) (hv : ItS w A l) (hn : l.length = n) (hc : n ≤ cap) (hw : wfIs l) (hb : n ≤ 10000) :
    Calls Tryd.prog 13 #[.slice A n cap] w (RetR w (runsOf l)) := by
  go_enter Tryd.func13, Tryd.ntmps13
  go_wp2
  go_loopw [0, 3] (OfKeep w n l) (fun s0 _ _ => sliceLen s0)
  case atStart => exact ⟨l, [], A, n, cap, rfl, Lib.hid hn, hc, Lib.hid hv, Lib.hid hw, Lib.hid (OwnR.nil _ _), by simp, Ext.refl _, Lib.hid rfl⟩
  case round =>
    clear hv hn hc hw
    obtain ⟨r, rs, A, m, c, rfl, hm, hmc, hI, hwf, ho, hlen, hx, hrel⟩ := hrel
    by_cases h0 : 0 < m
    · have hne : r ≠ [] := by intro e; have := hm.out; rw [e] at this; simp at this; omega
      have ht1 := tog_pos hne
      have ht2 := tog_le r
      rw [hm.out] at ht2
      have hst := Lib.hid (of_step hne)
      have hc1 := Lib.hid (together_any A m c r wr (hI.out.ext hx) hm.out h0 hwf.out (by omega))
      have hc2 := Lib.hid (fun (W : World) (hX : Ext wr W) => join_any A (tog r) c (r.take (tog r)) W ((hI.out.ext (hx.trans hX)).take _) (by rw [List.length_take, hm.out]; omega) (by omega) (hwf.out.take _) (by omega))
      have hcut := Lib.hid (hI.out.cut hm.out hmc (k := tog r) (by omega))
      have hwd := Lib.hid (hwf.out.drop (tog r))
      have hdl := Lib.hid (show (r.drop (tog r)).length = m - tog r by rw [List.length_drop, hm.out])
      have hup := uptoI A m c (tog r) (by omega) ((tog r : Nat) : Int) rfl
      have hfr := fromI A m c (tog r) (by omega) ((tog r : Nat) : Int) rfl
      clear hne
      generalize joinR (r.take (tog r)) = q at *
      generalize r.drop (tog r) = r' at *
      generalize tog r = t at *
      go_wp2_with fail
      refine hc1.out.mono ?_
      rintro e w1 ⟨rfl, x1⟩
      clear hc1
      go_wp2_with fail
      refine (hc2.out _ x1).mono ?_
      rintro e w2 ⟨rfl, x2⟩
      clear hc2
      have hx2 : Ext wr w2 := x1.trans x2
      go_wp2_with (first
        | (at_builtin
           refine wpList_append_R (w0 := w) rfl (.tmp 10) (.tmp 15) rfl _ rs rfl ((ho.out.ext hx2).ext ((Ext.refl _).alloc _)) ((hx.trans hx2).alloc _) _ 1 1 [q] rfl rfl (RnS.new _ q) (by simp only [List.length_cons, List.length_nil]; omega) ?_
           intro v3 w3 o3 x3 g3 b3))
      go_roundw
      case rel => exact ⟨r', rs ++ [q], _, _, _, rfl, hdl, by omega, hcut, hwd, Lib.hid o3, by simp only [List.length_append, List.length_cons, List.length_nil]; omega, x3, Lib.hid (by rw [← hrel.out, hst.out]; simp)⟩
      case measure => simp [sliceLen]; omega
    · have hr : r = [] := List.eq_nil_of_length_eq_zero (by rw [hm.out]; omega)
      have hrs := Lib.hid (show rs = runsOf l by rw [← hrel.out, hr]; simp [runsOf])
      go_wp2
      go_ret
      exact ⟨_, rfl, hrs.out ▸ ho.out, hx⟩

end Go.Proofs.YtjhhohoeeacckaaDoor

/-
  Contracts of vector's Set and of the reference's; no claim stands here.
-/
import Derived.Test.YtbniojfggiioaaaVecFind
namespace Go.Proofs.Ytbniojfggiioaaa
open Go.ChangeShapes Go.WideShapes Go.ChangeAt Go.RowKit Go.Sort
set_option linter.unusedVariables false

theorem infoC : (Try.prog.info? 33).map (fun i => (i.zero, i.size, i.bytes)) = some (some (.agg #[.int .u32 0, .int .u32 0]), 2, 8) := by kernel_rfl
theorem fromC (A : Option Addr) (n cap : Nat) (k : Int) (W : World) (h0 : 0 ≤ k) (h1 : k ≤ n) :
    (Instr.slice 22 (.slice A n cap) (some (.int .i64 k)) none none).run Try.prog W = .ok (.slice (cutA A cap k.toNat 2) (n - k.toNat) (cap - k.toNat)) W := by
  obtain ⟨i, hi, hz0, hz1, hz2⟩ := info_parts infoC
  have := run_from Try.underlying22 hi A n cap k W h0 h1
  rw [hz1] at this
  exact this
theorem uptoC (A : Option Addr) (n cap : Nat) (k : Int) (W : World) (h0 : 0 ≤ k) (h1 : k ≤ cap) :
    (Instr.slice 22 (.slice A n cap) none (some (.int .i64 k)) none).run Try.prog W = .ok (.slice A k.toNat cap) W := by
  obtain ⟨i, hi, hz0, hz1, hz2⟩ := info_parts infoC
  exact run_upto Try.underlying22 hi A n cap k W h0 h1
def roomN (c : Nat) : Array Value := roomC (.agg #[.int .u32 0, .int .u32 0]) (c * 2)
theorem roomN_run (c : Nat) (h1 : c ≤ 3000) (k : Int) (hk : k = c) (W : World) :
    (Instr.makeSlice 22 (.int .i64 0) (.int .i64 k)).run Try.prog W = .ok (.slice (some ⟨W.heap.size, 0, none⟩) 0 c) (W.alloc (.cells (roomN c) 33)) := by
  subst hk
  obtain ⟨i, hi, hz0, hz1, hz2⟩ := info_parts infoC
  have := run_room Try.underlying22 hi hz0 hz1 hz2 (c : Int) W (by omega) (by omega) (by omega)
  rwa [Int.toNat_natCast] at this
theorem roomN_own {w0 W : World} (hx : Ext w0 W) (c : Nat) (h1 : c ≤ 3000) : (W.alloc (.cells (roomN c) 33)).ownsRow w0.heap.size 33 2 (.slice (some ⟨W.heap.size, 0, none⟩) 0 c) ([] : List (Int × Int)).length (flat encC []) :=
  World.ownsRow_made W _ _ hx.size (by unfold maxLen; omega) (roomC_size _ _)

/-- a slice of clocks is told, and nothing that was there has turned -/
def RetVec (w : World) (l : List (Int × Int)) (e : Ending) (w' : World) : Prop := ∃ A n c, e = .returned (.slice A n c) ∧ l.length = n ∧ Vec w' A l ∧ Ext w w'

theorem ownsC_form {w : World} {base : Nat} {v : Value} {n : Nat} {xs : List Value} (h : w.ownsRow base 33 2 v n xs) : ∃ A c, v = .slice A n c := by
  rcases h.2 with ⟨rfl, rfl⟩ | ⟨g, cap, cur, rfl, _⟩
  · exact ⟨_, _, rfl⟩
  · exact ⟨_, _, rfl⟩
theorem ownC_lt {w : World} {base : Nat} {v : Value} {n : Nat} {xs : List Value} (h : w.ownsRow base 33 2 v n xs) : ∀ k, v.ownBlock = some k → base ≤ k := fun k hk => (h.lt k hk).1

/-- clocks are appended to a row of the call's own -/
theorem wpList_append_C {w0 w : World} {ops : Array Oper} {rest : List Oper} {o : Oper} {a : Act} {Q : Exit → Act → World → Prop} (hgd : o.guard = none) (s x : Operand)
    (ho : o.op = .call { callee := .builtin .append, args := #[s, x], argTypes := #[22, 22] })
    (v : Value) (l : List (Int × Int)) (hs : a.eval s = v) (hown : w.ownsRow w0.heap.size 33 2 v l.length (flat encC l)) (hx : Ext w0 w)
    (A : Option Addr) (m c : Nat) (r : List (Int × Int)) (he : a.eval x = .slice A m c) (hm : r.length = m) (hr : Vec w A r) (hb : l.length + r.length ≤ 3000)
    (h : ∀ v' w', w'.ownsRow w0.heap.size 33 2 v' (l ++ r).length (flat encC (l ++ r)) → Ext w0 w' → wpList Try.prog ops Q rest (a.put o.dst v') w') : wpList Try.prog ops Q (o :: rest) a w := by
  obtain ⟨i, hi, hz0, hz1, hz2⟩ := info_parts infoC
  subst hm
  refine wpList_append_row w hgd s x _ ho w0.heap.size 33 i _ 2 8 Try.underlying22 hi hz0 hz1 hz2 rfl (by omega) v l.length _ hs hown A r.length c _ he (flat_len encC_len r) hr (flat_one_cell encC_one r)
    (by unfold maxLen; omega) (by omega) hx.size ?_
  intro v' w' h1 h2
  refine h v' w' ?_ (hx.grown h2 (ownC_lt hown))
  rw [flat_append, List.length_append]
  exact h1

theorem fromN (A : Option Addr) (n cap k : Nat) (h1 : k ≤ n) (z : Int) (hz : z = k) (W : World) : (Instr.slice 22 (.slice A n cap) (some (.int .i64 z)) none none).run Try.prog W = .ok (.slice (cutA A cap k 2) (n - k) (cap - k)) W := by
  subst hz; exact fromC A n cap k W (by omega) (by omega)
theorem uptoN (A : Option Addr) (n cap k : Nat) (h1 : k ≤ cap) (W : World) : (Instr.slice 22 (.slice A n cap) none (some (.int .i64 (k : Int))) none).run Try.prog W = .ok (.slice A k cap) W := uptoC A n cap k W (by omega) (by omega)
theorem Vec.take {w : World} {A : Option Addr} {l : List (Int × Int)} (h : Vec w A l) (k : Nat) : Vec w A (l.take k) := by
  unfold Vec; rw [flat_take encC_len]; exact Row.take h _
theorem Vec.cut {w : World} {A : Option Addr} {l : List (Int × Int)} (h : Vec w A l) {n cap k : Nat} (hn : l.length = n) (hc : n ≤ cap) (hk : k ≤ n) : Vec w (cutA A cap k 2) (l.drop k) := by
  unfold Vec; rw [flat_drop encC_len]; exact Row.cut h (n := n) (by rw [flat_len encC_len, hn]) hc hk
theorem Vec.new (w : World) (x y : Int) : Vec (w.alloc (.cells #[.int .u32 x, .int .u32 y] 33)) (some ⟨w.heap.size, 0, none⟩) [(x, y)] := Row.new w #[.int .u32 x, .int .u32 y] 33
theorem Vec.own {w : World} {base : Nat} {v : Value} {l : List (Int × Int)} (h : w.ownsRow base 33 2 v l.length (flat encC l)) : ∃ A c, v = .slice A l.length c ∧ Vec w A l := by
  obtain ⟨A, c, rfl⟩ := ownsC_form h
  exact ⟨A, c, rfl, Row.own h⟩

def setC (l : List (Int × Int)) (c n : Int) : List (Int × Int) := if c = 0 then l else setOf l c n

set_option maxHeartbeats 2000000 in
theorem set_has_put (A : Option Addr) (n cap i : Nat) (l L : List (Int × Int)) (c nx : Int) (w : World) (hv : Hid (Vec w A l)) (hn : Hid (l.length = n)) (hcap : n ≤ cap) (hb : n ≤ 1000) (hi : i < n) (hc' : (c != 0) = true) (hx' : (nx != 0) = true)
    (hc : Hid (Calls Try.prog 17 #[.slice A n cap, Vu c] w fun e w' => e = .returned (.tuple #[.int .i64 (i : Nat), .bool true]) ∧ Ext w w')) (hs : Hid (L = l.take i ++ [(c, nx)] ++ l.drop (i + 1))) :
    Calls Try.prog 9 #[.slice A n cap, Vu c, Vu nx] w (RetVec w L) := by
  have hmk := roomN_run (n + 1) (by omega) ((n : Int) + 1) (by omega)
  have hup := uptoN A n cap i (by omega)
  have hfr := fromN A n cap (i + 1) (by omega) ((i : Int) + 1) (by omega)
  have hlt1 := Lib.hid (show (l.take i).length = i by rw [List.length_take, hn.out]; omega)
  have hld := Lib.hid (show (l.drop (i + 1)).length = n - (i + 1) by rw [List.length_drop, hn.out])
  go_enter Try.func9, Try.ntmps9
  go_wp2_with fail
  refine hc.out.mono ?_
  rintro e w1 ⟨rfl, x1⟩
  go_wp2_with (first
      | (at_builtin
         refine wpList_append_C (w0 := w) rfl (.tmp 25) (.tmp 28) rfl _ [] rfl (roomN_own x1 _ (by omega)) (x1.alloc _) A i cap (l.take i) rfl hlt1.out ((hv.out.ext (x1.alloc _)).take i) (by simp only [List.length_nil, hlt1.out]; omega) ?_
         intro v2 w2 o2 x2)
      | (at_builtin
         refine wpList_append_C (w0 := w) rfl (.tmp 36) (.tmp 40) rfl v2 ([] ++ l.take i) rfl (o2.alloc _) (x2.alloc _) _ 1 1 [(c, nx)] rfl rfl (Vec.new w2 c nx) (by simp only [List.nil_append, hlt1.out, List.length_cons, List.length_nil]; omega) ?_
         intro v3 w3 o3 x3)
      | (at_builtin
         refine wpList_append_C (w0 := w) rfl (.tmp 42) (.tmp 45) rfl v3 ([] ++ l.take i ++ [(c, nx)]) rfl o3 x3 (cutA A cap (i + 1) 2) (n - (i + 1)) (cap - (i + 1)) (l.drop (i + 1)) rfl hld.out ((hv.out.ext x3).cut hn.out hcap (by omega)) (by simp only [List.nil_append, List.length_append, hlt1.out, hld.out, List.length_cons, List.length_nil]; omega) ?_
         intro v4 w4 o4 x4))
  go_ret
  obtain ⟨A4, c4, e4, h4⟩ := Vec.own o4
  subst e4
  rw [List.nil_append, ← hs.out] at h4
  rw [List.nil_append, ← hs.out]
  exact ⟨A4, _, c4, rfl, rfl, h4, x4⟩

set_option maxHeartbeats 2000000 in
theorem set_has_not (A : Option Addr) (n cap i : Nat) (l L : List (Int × Int)) (c nx : Int) (w : World) (hv : Hid (Vec w A l)) (hn : Hid (l.length = n)) (hcap : n ≤ cap) (hb : n ≤ 1000) (hi : i < n) (hc' : (c != 0) = true) (hx' : (nx != 0) = false)
    (hc : Hid (Calls Try.prog 17 #[.slice A n cap, Vu c] w fun e w' => e = .returned (.tuple #[.int .i64 (i : Nat), .bool true]) ∧ Ext w w')) (hs : Hid (L = l.take i ++ l.drop (i + 1))) :
    Calls Try.prog 9 #[.slice A n cap, Vu c, Vu nx] w (RetVec w L) := by
  have hmk := roomN_run (n + 1) (by omega) ((n : Int) + 1) (by omega)
  have hup := uptoN A n cap i (by omega)
  have hfr := fromN A n cap (i + 1) (by omega) ((i : Int) + 1) (by omega)
  have hlt1 := Lib.hid (show (l.take i).length = i by rw [List.length_take, hn.out]; omega)
  have hld := Lib.hid (show (l.drop (i + 1)).length = n - (i + 1) by rw [List.length_drop, hn.out])
  go_enter Try.func9, Try.ntmps9
  go_wp2_with fail
  refine hc.out.mono ?_
  rintro e w1 ⟨rfl, x1⟩
  go_wp2_with (first
      | (at_builtin
         refine wpList_append_C (w0 := w) rfl (.tmp 25) (.tmp 28) rfl _ [] rfl (roomN_own x1 _ (by omega)) (x1.alloc _) A i cap (l.take i) rfl hlt1.out ((hv.out.ext (x1.alloc _)).take i) (by simp only [List.length_nil, hlt1.out]; omega) ?_
         intro v2 w2 o2 x2)
      | (at_builtin
         refine wpList_append_C (w0 := w) rfl (.tmp 42) (.tmp 45) rfl v2 ([] ++ l.take i) rfl o2 x2 (cutA A cap (i + 1) 2) (n - (i + 1)) (cap - (i + 1)) (l.drop (i + 1)) rfl hld.out ((hv.out.ext x2).cut hn.out hcap (by omega)) (by simp only [List.nil_append, List.length_append, hlt1.out, hld.out, List.length_cons, List.length_nil]; omega) ?_
         intro v4 w4 o4 x4))
  go_ret
  obtain ⟨A4, c4, e4, h4⟩ := Vec.own o4
  subst e4
  rw [List.nil_append, ← hs.out] at h4
  rw [List.nil_append, ← hs.out]
  exact ⟨A4, _, c4, rfl, rfl, h4, x4⟩

set_option maxHeartbeats 2000000 in
theorem set_new_put (A : Option Addr) (n cap i : Nat) (l L : List (Int × Int)) (c nx : Int) (w : World) (hv : Hid (Vec w A l)) (hn : Hid (l.length = n)) (hcap : n ≤ cap) (hb : n ≤ 1000) (hi : i ≤ n) (hc' : (c != 0) = true) (hx' : (nx != 0) = true)
    (hc : Hid (Calls Try.prog 17 #[.slice A n cap, Vu c] w fun e w' => e = .returned (.tuple #[.int .i64 (i : Nat), .bool false]) ∧ Ext w w')) (hs : Hid (L = l.take i ++ [(c, nx)] ++ l.drop (i))) :
    Calls Try.prog 9 #[.slice A n cap, Vu c, Vu nx] w (RetVec w L) := by
  have hmk := roomN_run (n + 1) (by omega) ((n : Int) + 1) (by omega)
  have hup := uptoN A n cap i (by omega)
  have hfr := fromN A n cap (i) (by omega) (i : Int) (by omega)
  have hlt1 := Lib.hid (show (l.take i).length = i by rw [List.length_take, hn.out]; omega)
  have hld := Lib.hid (show (l.drop (i)).length = n - (i) by rw [List.length_drop, hn.out])
  go_enter Try.func9, Try.ntmps9
  go_wp2_with fail
  refine hc.out.mono ?_
  rintro e w1 ⟨rfl, x1⟩
  go_wp2_with (first
      | (at_builtin
         refine wpList_append_C (w0 := w) rfl (.tmp 25) (.tmp 28) rfl _ [] rfl (roomN_own x1 _ (by omega)) (x1.alloc _) A i cap (l.take i) rfl hlt1.out ((hv.out.ext (x1.alloc _)).take i) (by simp only [List.length_nil, hlt1.out]; omega) ?_
         intro v2 w2 o2 x2)
      | (at_builtin
         refine wpList_append_C (w0 := w) rfl (.tmp 36) (.tmp 40) rfl v2 ([] ++ l.take i) rfl (o2.alloc _) (x2.alloc _) _ 1 1 [(c, nx)] rfl rfl (Vec.new w2 c nx) (by simp only [List.nil_append, hlt1.out, List.length_cons, List.length_nil]; omega) ?_
         intro v3 w3 o3 x3)
      | (at_builtin
         refine wpList_append_C (w0 := w) rfl (.tmp 42) (.tmp 45) rfl v3 ([] ++ l.take i ++ [(c, nx)]) rfl o3 x3 (cutA A cap (i) 2) (n - (i)) (cap - (i)) (l.drop (i)) rfl hld.out ((hv.out.ext x3).cut hn.out hcap (by omega)) (by simp only [List.nil_append, List.length_append, hlt1.out, hld.out, List.length_cons, List.length_nil]; omega) ?_
         intro v4 w4 o4 x4))
  go_ret
  obtain ⟨A4, c4, e4, h4⟩ := Vec.own o4
  subst e4
  rw [List.nil_append, ← hs.out] at h4
  rw [List.nil_append, ← hs.out]
  exact ⟨A4, _, c4, rfl, rfl, h4, x4⟩

set_option maxHeartbeats 2000000 in
theorem set_new_not (A : Option Addr) (n cap i : Nat) (l L : List (Int × Int)) (c nx : Int) (w : World) (hv : Hid (Vec w A l)) (hn : Hid (l.length = n)) (hcap : n ≤ cap) (hb : n ≤ 1000) (hi : i ≤ n) (hc' : (c != 0) = true) (hx' : (nx != 0) = false)
    (hc : Hid (Calls Try.prog 17 #[.slice A n cap, Vu c] w fun e w' => e = .returned (.tuple #[.int .i64 (i : Nat), .bool false]) ∧ Ext w w')) (hs : Hid (L = l.take i ++ l.drop (i))) :
    Calls Try.prog 9 #[.slice A n cap, Vu c, Vu nx] w (RetVec w L) := by
  have hmk := roomN_run (n + 1) (by omega) ((n : Int) + 1) (by omega)
  have hup := uptoN A n cap i (by omega)
  have hfr := fromN A n cap (i) (by omega) (i : Int) (by omega)
  have hlt1 := Lib.hid (show (l.take i).length = i by rw [List.length_take, hn.out]; omega)
  have hld := Lib.hid (show (l.drop (i)).length = n - (i) by rw [List.length_drop, hn.out])
  go_enter Try.func9, Try.ntmps9
  go_wp2_with fail
  refine hc.out.mono ?_
  rintro e w1 ⟨rfl, x1⟩
  go_wp2_with (first
      | (at_builtin
         refine wpList_append_C (w0 := w) rfl (.tmp 25) (.tmp 28) rfl _ [] rfl (roomN_own x1 _ (by omega)) (x1.alloc _) A i cap (l.take i) rfl hlt1.out ((hv.out.ext (x1.alloc _)).take i) (by simp only [List.length_nil, hlt1.out]; omega) ?_
         intro v2 w2 o2 x2)
      | (at_builtin
         refine wpList_append_C (w0 := w) rfl (.tmp 42) (.tmp 45) rfl v2 ([] ++ l.take i) rfl o2 x2 (cutA A cap (i) 2) (n - (i)) (cap - (i)) (l.drop (i)) rfl hld.out ((hv.out.ext x2).cut hn.out hcap (by omega)) (by simp only [List.nil_append, List.length_append, hlt1.out, hld.out, List.length_cons, List.length_nil]; omega) ?_
         intro v4 w4 o4 x4))
  go_ret
  obtain ⟨A4, c4, e4, h4⟩ := Vec.own o4
  subst e4
  rw [List.nil_append, ← hs.out] at h4
  rw [List.nil_append, ← hs.out]
  exact ⟨A4, _, c4, rfl, rfl, h4, x4⟩

set_option maxHeartbeats 2000000 in
theorem set_new_zero (A : Option Addr) (n cap i : Nat) (l L : List (Int × Int)) (c nx : Int) (w : World) (hv : Hid (Vec w A l)) (hn : Hid (l.length = n)) (hcap : n ≤ cap) (hb : n ≤ 1000) (hi : i ≤ n) (hc' : (c != 0) = false)
    (hc : Hid (Calls Try.prog 17 #[.slice A n cap, Vu c] w fun e w' => e = .returned (.tuple #[.int .i64 (i : Nat), .bool false]) ∧ Ext w w')) (hs : Hid (L = l.take i ++ l.drop (i))) :
    Calls Try.prog 9 #[.slice A n cap, Vu c, Vu nx] w (RetVec w L) := by
  have hmk := roomN_run (n + 1) (by omega) ((n : Int) + 1) (by omega)
  have hup := uptoN A n cap i (by omega)
  have hfr := fromN A n cap (i) (by omega) (i : Int) (by omega)
  have hlt1 := Lib.hid (show (l.take i).length = i by rw [List.length_take, hn.out]; omega)
  have hld := Lib.hid (show (l.drop (i)).length = n - (i) by rw [List.length_drop, hn.out])
  go_enter Try.func9, Try.ntmps9
  go_wp2_with fail
  refine hc.out.mono ?_
  rintro e w1 ⟨rfl, x1⟩
  go_wp2_with (first
      | (at_builtin
         refine wpList_append_C (w0 := w) rfl (.tmp 25) (.tmp 28) rfl _ [] rfl (roomN_own x1 _ (by omega)) (x1.alloc _) A i cap (l.take i) rfl hlt1.out ((hv.out.ext (x1.alloc _)).take i) (by simp only [List.length_nil, hlt1.out]; omega) ?_
         intro v2 w2 o2 x2)
      | (at_builtin
         refine wpList_append_C (w0 := w) rfl (.tmp 42) (.tmp 45) rfl v2 ([] ++ l.take i) rfl o2 x2 (cutA A cap (i) 2) (n - (i)) (cap - (i)) (l.drop (i)) rfl hld.out ((hv.out.ext x2).cut hn.out hcap (by omega)) (by simp only [List.nil_append, List.length_append, hlt1.out, hld.out, List.length_cons, List.length_nil]; omega) ?_
         intro v4 w4 o4 x4))
  go_ret
  obtain ⟨A4, c4, e4, h4⟩ := Vec.own o4
  subst e4
  rw [List.nil_append, ← hs.out] at h4
  rw [List.nil_append, ← hs.out]
  exact ⟨A4, _, c4, rfl, rfl, h4, x4⟩

theorem set_any (A : Option Addr) (n cap : Nat) (l : List (Int × Int)) (c nx : Int) (w : World) (hv : Vec w A l) (hn : l.length = n) (hcap : n ≤ cap) (hm : mayFrom 0 l = true) (hb : n ≤ 1000) :
    Calls Try.prog 9 #[.slice A n cap, Vu c, Vu nx] w (RetVec w (setC l c nx)) := by
  have hc := find_any A n cap l c w hv hn hm hb
  have hile : idxOf l c ≤ n := by have := idx_le l c; omega
  by_cases hh : hasOf l c = true
  · have hlt : idxOf l c < n := by
      obtain ⟨q, hq⟩ := idx_has hh
      rw [← hn]
      exact (List.getElem?_eq_some_iff.1 hq).1
    have hc0 : c ≠ 0 := by
      intro e
      subst e
      rw [(set_zero hm).2] at hh
      cases hh
    have hs : setC l c nx = (l.take (idxOf l c) ++ if nx = 0 then [] else [(c, nx)]) ++ l.drop (idxOf l c + 1) := by unfold setC; rw [if_neg hc0, set_split, hh]; rfl
    rw [hh] at hc
    by_cases hx0 : nx = 0
    · rw [if_pos hx0, List.append_nil] at hs
      exact set_has_not A n cap _ l _ c nx w (Lib.hid hv) (Lib.hid hn) hcap hb hlt (by simpa using hc0) (by simpa using hx0) (Lib.hid hc) (Lib.hid hs)
    · rw [if_neg hx0] at hs
      exact set_has_put A n cap _ l _ c nx w (Lib.hid hv) (Lib.hid hn) hcap hb hlt (by simpa using hc0) (by simpa using hx0) (Lib.hid hc) (Lib.hid hs)
  · have hh' : hasOf l c = false := by simpa using hh
    rw [hh'] at hc
    by_cases hc0 : c = 0
    · subst hc0
      have hs : setC l 0 nx = l.take (idxOf l 0) ++ l.drop (idxOf l 0) := by unfold setC; rw [if_pos rfl, List.take_append_drop]
      exact set_new_zero A n cap _ l _ 0 nx w (Lib.hid hv) (Lib.hid hn) hcap hb hile (by simp) (Lib.hid hc) (Lib.hid hs)
    · have hs : setC l c nx = (l.take (idxOf l c) ++ if nx = 0 then [] else [(c, nx)]) ++ l.drop (idxOf l c) := by unfold setC; rw [if_neg hc0, set_split, hh']; rfl
      by_cases hx0 : nx = 0
      · rw [if_pos hx0, List.append_nil] at hs
        exact set_new_not A n cap _ l _ c nx w (Lib.hid hv) (Lib.hid hn) hcap hb hile (by simpa using hc0) (by simpa using hx0) (Lib.hid hc) (Lib.hid hs)
      · rw [if_neg hx0] at hs
        exact set_new_put A n cap _ l _ c nx w (Lib.hid hv) (Lib.hid hn) hcap hb hile (by simpa using hc0) (by simpa using hx0) (Lib.hid hc) (Lib.hid hs)

end Go.Proofs.Ytbniojfggiioaaa

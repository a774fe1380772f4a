/-
  What Set, Cas, Bump, Last and All answer, of a cell that isn't there and of no memory, too.
-/
import Derived.Test.YtaihmkflhapjeaaOps
namespace Go.Proofs.Ytaihmkflhapjeaa
open Go.RowKit Go.MuLone
set_option linter.unusedVariables false
def I64 (x : Int) : Prop := -9223372036854775808 ≤ x ∧ x ≤ 9223372036854775807
set_option maxHeartbeats 2000000 in
theorem set_ok (g b : Nat) (l : List Int) (s k c o n : Int) (d : Bool) (i x y : Int) (ix : Nat) (hi : i = ix) (hx : ix < l.length) (hn : nth l ix = x) (s0 : 0 ≤ s) (s1 : s ≤ 1000000) (w : World) (h : MB 0 g b l s k c o n d w) :
    Calls Try.prog 30 #[.pointer (some ⟨g, 0, none⟩), .int .i64 i, .int .i64 y] w (Did (.int .i64 0) g b (l.set ix y) (s + 1) 2 i x y true w) := by
  have lg := lt_hp h.1
  have lb := lt_hp h.2
  have e1 := heap_alloc_new w (.cells #[.int .i64 y] 3 (0, 0))
  have b1 := bl_al (Below.refl _ w) (.cells #[.int .i64 y] 3 (0, 0))
  have H := Lib.hid (step29 g b l s k c o n d 2 i x y true ix hi hx hn s0 s1 (w.alloc (.cells #[.int .i64 y] 3)) (h.keep b1) (some ⟨w.heap.size, 0, none⟩) (fun X _ hX => by
    have q1 : X.cell? ⟨w.heap.size, 0, none⟩ = some (.int .i64 y) := (ch_cell hX (by omega) (by omega) (by simp) 0).trans ((cell_of_row _ _ 0 _ 3 _ e1).trans rfl)
    exact set1 x y _ X q1))
  have B1 := Lib.hid b1
  clear h hi hn s0 s1 e1 b1
  have hmf := wf_fn
  go_enter Try.func30, Try.ntmps30
  go_wp2_with fail
  refine H.out.mono ?_; rintro e w1 ⟨rfl, m1, c1⟩
  have F := Lib.hid (show Did (.int .i64 0) g b (l.set ix y) (s + 1) 2 i x y true w (.returned (.int .i64 0)) (w1.alloc (.cells #[.int .i64 2, .int .i64 i, .int .i64 x, .int .i64 y, .bool true] 74)) from ⟨rfl, m1.keep (bl_al (Below.refl _ _) _), (((Ch.of B1.out).trans (by simpa using c1)).al _)⟩)
  clear m1 c1 H
  generalize l.set ix y = l2 at *
  go_wp2
  go_ret
  exact F.out
set_option maxHeartbeats 2000000 in
theorem set_miss (g b : Nat) (l : List Int) (s k c o n : Int) (d : Bool) (i y : Int) (hi : i < 0 ∨ (l.length : Int) ≤ i) (w : World) (h : MB 0 g b l s k c o n d w) :
    Calls Try.prog 30 #[.pointer (some ⟨g, 0, none⟩), .int .i64 i, .int .i64 y] w (Did (.int .i64 11) g b l s k c o n d w) := by
  have b1 := bl_al (Below.refl _ w) (.cells #[.int .i64 y] 3 (0, 0))
  have H := Lib.hid (step_miss g b l s k c o n d 2 i (.func (.func 45) #[] #[.pointer (some ⟨w.heap.size, 0, none⟩)]) hi (w.alloc (.cells #[.int .i64 y] 3)) (h.keep b1))
  have B1 := Lib.hid b1
  clear h hi b1
  have hmf := wf_fn
  go_enter Try.func30, Try.ntmps30
  go_wp2_with fail
  refine H.out.mono ?_; rintro e w1 ⟨rfl, m1, c1⟩
  have F := Lib.hid (show Did (.int .i64 11) g b l s k c o n d w (.returned (.int .i64 11)) (w1.alloc (.cells #[.int .i64 0, .int .i64 0, .int .i64 0, .int .i64 0, .bool false] 74)) from ⟨rfl, m1.keep (bl_al (Below.refl _ _) _), (((Ch.of B1.out).trans (by simpa using c1)).al _)⟩)
  clear m1 c1 H
  go_wp2
  go_ret
  exact F.out
theorem set_nil (i y : Int) (w : World) : Calls Try.prog 30 #[.pointer none, .int .i64 i, .int .i64 y] w fun e w' => e = .returned (.int .i64 1) ∧ Below w.heap.size w w' := by
  have b1 := bl_al (Below.refl _ w) (.cells #[.int .i64 y] 3 (0, 0))
  have H := Lib.hid (step_nil 2 i (.func (.func 45) #[] #[.pointer (some ⟨w.heap.size, 0, none⟩)]) (w.alloc (.cells #[.int .i64 y] 3)))
  have B1 := Lib.hid b1
  clear b1
  have hmf := wf_fn
  go_enter Try.func30, Try.ntmps30
  go_wp2_with fail
  refine H.out.mono ?_; rintro e w1 ⟨rfl, b2⟩
  have F := Lib.hid (bl_al (bl_tr B1.out b2) (.cells #[.int .i64 0, .int .i64 0, .int .i64 0, .int .i64 0, .bool false] 74))
  clear b2 H
  go_wp2
  go_ret
  exact ⟨rfl, F.out⟩
set_option maxHeartbeats 2000000 in
theorem casx_miss (g b : Nat) (l : List Int) (s k c o n : Int) (d : Bool) (i old y : Int) (hi : i < 0 ∨ (l.length : Int) ≤ i) (w : World) (h : MB 0 g b l s k c o n d w) :
    Calls Try.prog 57 #[.pointer (some ⟨g, 0, none⟩), .int .i64 i, .int .i64 old, .int .i64 y] w (Did (.tuple #[.bool false, .int .i64 11]) g b l s k c o n d w) := by
  have b1 := bl_al (bl_al (Below.refl _ w) (.cells #[.int .i64 old] 3 (0, 0))) (.cells #[.int .i64 y] 3 (0, 0))
  have H := Lib.hid (step_miss g b l s k c o n d 3 i (.func (.func 69) #[] #[.pointer (some ⟨w.heap.size, 0, none⟩), .pointer (some ⟨w.heap.size + 1, 0, none⟩)]) hi ((w.alloc (.cells #[.int .i64 old] 3)).alloc (.cells #[.int .i64 y] 3)) (h.keep b1))
  have B1 := Lib.hid b1
  clear h hi b1
  have hmf := wf_fn
  go_enter Try.func57, Try.ntmps57
  go_wp2_with fail
  refine H.out.mono ?_; rintro e w1 ⟨rfl, m1, c1⟩
  have F := Lib.hid (show Did (.tuple #[.bool false, .int .i64 11]) g b l s k c o n d w (.returned (.tuple #[.bool false, .int .i64 11])) (w1.alloc (.cells #[.int .i64 0, .int .i64 0, .int .i64 0, .int .i64 0, .bool false] 74)) from ⟨rfl, m1.keep (bl_al (Below.refl _ _) _), (((Ch.of B1.out).trans (by simpa using c1)).al _)⟩)
  clear m1 c1 H
  go_wp2
  go_ret2
  exact F.out
theorem casx_nil (i old y : Int) (w : World) : Calls Try.prog 57 #[.pointer none, .int .i64 i, .int .i64 old, .int .i64 y] w fun e w' => e = .returned (.tuple #[.bool false, .int .i64 1]) ∧ Below w.heap.size w w' := by
  have b1 := bl_al (bl_al (Below.refl _ w) (.cells #[.int .i64 old] 3 (0, 0))) (.cells #[.int .i64 y] 3 (0, 0))
  have H := Lib.hid (step_nil 3 i (.func (.func 69) #[] #[.pointer (some ⟨w.heap.size, 0, none⟩), .pointer (some ⟨w.heap.size + 1, 0, none⟩)]) ((w.alloc (.cells #[.int .i64 old] 3)).alloc (.cells #[.int .i64 y] 3)))
  have B1 := Lib.hid b1
  clear b1
  have hmf := wf_fn
  go_enter Try.func57, Try.ntmps57
  go_wp2_with fail
  refine H.out.mono ?_; rintro e w1 ⟨rfl, b2⟩
  have F := Lib.hid (bl_al (bl_tr B1.out b2) (.cells #[.int .i64 0, .int .i64 0, .int .i64 0, .int .i64 0, .bool false] 74))
  clear b2 H
  go_wp2
  go_ret2
  exact ⟨rfl, F.out⟩
end Go.Proofs.Ytaihmkflhapjeaa

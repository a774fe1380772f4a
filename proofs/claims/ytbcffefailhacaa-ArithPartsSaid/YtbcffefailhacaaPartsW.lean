/-
  kurganlaw01.ArithParts where Part has an answer: the walk.
-/
import Derived.Test.YtbcffefailhacaaPart
namespace Go.Proofs.Ytbcffefailhacaa.arithParts
open Go.ChangeShapes Go.WideShapes Go.ChangeAt Go.RowKit
set_option linter.unusedVariables false
theorem one_start {w W : World} {k : Bool} {z g : Nat} (q1 : W.heap[g]? = some (.cells #[.bool k, .int .i64 (dg z 0), .int .i64 (dg z 1), .int .i64 (dg z 2), .int .i64 (dg z 3), .int .i64 (dg z 4), .int .i64 (dg z 5), .int .i64 (dg z 6), .int .i64 (dg z 7), .int .i64 (dg z 8)] 28 (0, 0))) (q4 : Below w.heap.size w W) : W.heap[g]? = some (.cells #[.bool k, .int .i64 (dg z 0), .int .i64 (dg z 1), .int .i64 (dg z 2), .int .i64 (dg z 3), .int .i64 (dg z 4), .int .i64 (dg z 5), .int .i64 (dg z 6), .int .i64 (dg z 7), .int .i64 (dg z 8)] 28 (0, 0)) ∧ Below w.heap.size w W ∧ W.cell? ⟨g, 0, none⟩ = some (.bool k) ∧ W.cell? ⟨g, 1, none⟩ = some (.int .i64 (dg z 0)) ∧ W.cell? ⟨g, 2, none⟩ = some (.int .i64 (dg z 1)) ∧ W.cell? ⟨g, 3, none⟩ = some (.int .i64 (dg z 2)) ∧ W.cell? ⟨g, 4, none⟩ = some (.int .i64 (dg z 3)) ∧ W.cell? ⟨g, 5, none⟩ = some (.int .i64 (dg z 4)) ∧ W.cell? ⟨g, 6, none⟩ = some (.int .i64 (dg z 5)) ∧ W.cell? ⟨g, 7, none⟩ = some (.int .i64 (dg z 6)) ∧ W.cell? ⟨g, 8, none⟩ = some (.int .i64 (dg z 7)) ∧ W.cell? ⟨g, 9, none⟩ = some (.int .i64 (dg z 8)) :=
  ⟨q1, q4, sgcells q1⟩
theorem one_keep {w W w1 : World} {k : Bool} {z g : Nat} (hb : Below W.heap.size W w1) (q1 : W.heap[g]? = some (.cells #[.bool k, .int .i64 (dg z 0), .int .i64 (dg z 1), .int .i64 (dg z 2), .int .i64 (dg z 3), .int .i64 (dg z 4), .int .i64 (dg z 5), .int .i64 (dg z 6), .int .i64 (dg z 7), .int .i64 (dg z 8)] 28 (0, 0))) (q4 : Below w.heap.size w W) : w1.heap[g]? = some (.cells #[.bool k, .int .i64 (dg z 0), .int .i64 (dg z 1), .int .i64 (dg z 2), .int .i64 (dg z 3), .int .i64 (dg z 4), .int .i64 (dg z 5), .int .i64 (dg z 6), .int .i64 (dg z 7), .int .i64 (dg z 8)] 28 (0, 0)) ∧ Below w.heap.size w w1 ∧ w1.cell? ⟨g, 0, none⟩ = some (.bool k) ∧ w1.cell? ⟨g, 1, none⟩ = some (.int .i64 (dg z 0)) ∧ w1.cell? ⟨g, 2, none⟩ = some (.int .i64 (dg z 1)) ∧ w1.cell? ⟨g, 3, none⟩ = some (.int .i64 (dg z 2)) ∧ w1.cell? ⟨g, 4, none⟩ = some (.int .i64 (dg z 3)) ∧ w1.cell? ⟨g, 5, none⟩ = some (.int .i64 (dg z 4)) ∧ w1.cell? ⟨g, 6, none⟩ = some (.int .i64 (dg z 5)) ∧ w1.cell? ⟨g, 7, none⟩ = some (.int .i64 (dg z 6)) ∧ w1.cell? ⟨g, 8, none⟩ = some (.int .i64 (dg z 7)) ∧ w1.cell? ⟨g, 9, none⟩ = some (.int .i64 (dg z 8)) :=
  ⟨(hb.block _ (lt_heap q1)).trans q1, bl_tr q4 hb, sgcells ((hb.block _ (lt_heap q1)).trans q1)⟩
theorem one_more {w W w1 : World} {k : Bool} {z g : Nat} (hb : Below W.heap.size W w1) (h : W.heap[g]? = some (.cells #[.bool k, .int .i64 (dg z 0), .int .i64 (dg z 1), .int .i64 (dg z 2), .int .i64 (dg z 3), .int .i64 (dg z 4), .int .i64 (dg z 5), .int .i64 (dg z 6), .int .i64 (dg z 7), .int .i64 (dg z 8)] 28 (0, 0)) ∧ Below w.heap.size w W ∧ W.cell? ⟨g, 0, none⟩ = some (.bool k) ∧ W.cell? ⟨g, 1, none⟩ = some (.int .i64 (dg z 0)) ∧ W.cell? ⟨g, 2, none⟩ = some (.int .i64 (dg z 1)) ∧ W.cell? ⟨g, 3, none⟩ = some (.int .i64 (dg z 2)) ∧ W.cell? ⟨g, 4, none⟩ = some (.int .i64 (dg z 3)) ∧ W.cell? ⟨g, 5, none⟩ = some (.int .i64 (dg z 4)) ∧ W.cell? ⟨g, 6, none⟩ = some (.int .i64 (dg z 5)) ∧ W.cell? ⟨g, 7, none⟩ = some (.int .i64 (dg z 6)) ∧ W.cell? ⟨g, 8, none⟩ = some (.int .i64 (dg z 7)) ∧ W.cell? ⟨g, 9, none⟩ = some (.int .i64 (dg z 8))) : w1.heap[g]? = some (.cells #[.bool k, .int .i64 (dg z 0), .int .i64 (dg z 1), .int .i64 (dg z 2), .int .i64 (dg z 3), .int .i64 (dg z 4), .int .i64 (dg z 5), .int .i64 (dg z 6), .int .i64 (dg z 7), .int .i64 (dg z 8)] 28 (0, 0)) ∧ Below w.heap.size w w1 ∧ w1.cell? ⟨g, 0, none⟩ = some (.bool k) ∧ w1.cell? ⟨g, 1, none⟩ = some (.int .i64 (dg z 0)) ∧ w1.cell? ⟨g, 2, none⟩ = some (.int .i64 (dg z 1)) ∧ w1.cell? ⟨g, 3, none⟩ = some (.int .i64 (dg z 2)) ∧ w1.cell? ⟨g, 4, none⟩ = some (.int .i64 (dg z 3)) ∧ w1.cell? ⟨g, 5, none⟩ = some (.int .i64 (dg z 4)) ∧ w1.cell? ⟨g, 6, none⟩ = some (.int .i64 (dg z 5)) ∧ w1.cell? ⟨g, 7, none⟩ = some (.int .i64 (dg z 6)) ∧ w1.cell? ⟨g, 8, none⟩ = some (.int .i64 (dg z 7)) ∧ w1.cell? ⟨g, 9, none⟩ = some (.int .i64 (dg z 8)) := one_keep hb h.1 h.2.1
theorem one_alloc {w W : World} {k : Bool} {z g : Nat} (h : W.heap[g]? = some (.cells #[.bool k, .int .i64 (dg z 0), .int .i64 (dg z 1), .int .i64 (dg z 2), .int .i64 (dg z 3), .int .i64 (dg z 4), .int .i64 (dg z 5), .int .i64 (dg z 6), .int .i64 (dg z 7), .int .i64 (dg z 8)] 28 (0, 0)) ∧ Below w.heap.size w W ∧ W.cell? ⟨g, 0, none⟩ = some (.bool k) ∧ W.cell? ⟨g, 1, none⟩ = some (.int .i64 (dg z 0)) ∧ W.cell? ⟨g, 2, none⟩ = some (.int .i64 (dg z 1)) ∧ W.cell? ⟨g, 3, none⟩ = some (.int .i64 (dg z 2)) ∧ W.cell? ⟨g, 4, none⟩ = some (.int .i64 (dg z 3)) ∧ W.cell? ⟨g, 5, none⟩ = some (.int .i64 (dg z 4)) ∧ W.cell? ⟨g, 6, none⟩ = some (.int .i64 (dg z 5)) ∧ W.cell? ⟨g, 7, none⟩ = some (.int .i64 (dg z 6)) ∧ W.cell? ⟨g, 8, none⟩ = some (.int .i64 (dg z 7)) ∧ W.cell? ⟨g, 9, none⟩ = some (.int .i64 (dg z 8))) (o : Obj) : (W.alloc o).heap[g]? = some (.cells #[.bool k, .int .i64 (dg z 0), .int .i64 (dg z 1), .int .i64 (dg z 2), .int .i64 (dg z 3), .int .i64 (dg z 4), .int .i64 (dg z 5), .int .i64 (dg z 6), .int .i64 (dg z 7), .int .i64 (dg z 8)] 28 (0, 0)) ∧ Below w.heap.size w (W.alloc o) ∧ (W.alloc o).cell? ⟨g, 0, none⟩ = some (.bool k) ∧ (W.alloc o).cell? ⟨g, 1, none⟩ = some (.int .i64 (dg z 0)) ∧ (W.alloc o).cell? ⟨g, 2, none⟩ = some (.int .i64 (dg z 1)) ∧ (W.alloc o).cell? ⟨g, 3, none⟩ = some (.int .i64 (dg z 2)) ∧ (W.alloc o).cell? ⟨g, 4, none⟩ = some (.int .i64 (dg z 3)) ∧ (W.alloc o).cell? ⟨g, 5, none⟩ = some (.int .i64 (dg z 4)) ∧ (W.alloc o).cell? ⟨g, 6, none⟩ = some (.int .i64 (dg z 5)) ∧ (W.alloc o).cell? ⟨g, 7, none⟩ = some (.int .i64 (dg z 6)) ∧ (W.alloc o).cell? ⟨g, 8, none⟩ = some (.int .i64 (dg z 7)) ∧ (W.alloc o).cell? ⟨g, 9, none⟩ = some (.int .i64 (dg z 8)) := by
  have q : (W.alloc o).heap[g]? = some (.cells #[.bool k, .int .i64 (dg z 0), .int .i64 (dg z 1), .int .i64 (dg z 2), .int .i64 (dg z 3), .int .i64 (dg z 4), .int .i64 (dg z 5), .int .i64 (dg z 6), .int .i64 (dg z 7), .int .i64 (dg z 8)] 28 (0, 0)) := (Below.heap_alloc W o g (lt_heap h.1)).trans h.1
  exact ⟨q, bl_al h.2.1 o, sgcells q⟩
theorem walk_none (a b c : Int) (h : a < 0 ∨ b < 0 ∨ c ≤ 0) (w : World) : Calls Try.prog 7 #[.int .i64 a, .int .i64 b, .int .i64 c] w fun e w' => e = .returned (.bool true) ∧ Below w.heap.size w w' := by
  have HP := Lib.hid (fun W => part_none a b c h W)
  rcases Int.lt_or_le a 0 with h1 | h1
  · clear h
    go_enter Try.func7, Try.ntmps7
    go_wp2_with fail
    refine (HP.out _).mono ?_; rintro e w1 ⟨rfl, hb1⟩
    go_wp2_with fail
    refine (counts_any _).mono ?_; rintro e w2 ⟨rfl, hb2⟩
    go_wp2_with fail
    go_ret
    exact ⟨rfl, bl_tr hb1 hb2⟩
  · rcases Int.lt_or_le b 0 with h2 | h2
    · clear h
      go_enter Try.func7, Try.ntmps7
      go_wp2_with fail
      refine (HP.out _).mono ?_; rintro e w1 ⟨rfl, hb1⟩
      go_wp2_with fail
      refine (counts_any _).mono ?_; rintro e w2 ⟨rfl, hb2⟩
      go_wp2_with fail
      go_ret
      exact ⟨rfl, bl_tr hb1 hb2⟩
    · have h3 : c ≤ 0 := by omega
      clear h
      go_enter Try.func7, Try.ntmps7
      go_wp2_with fail
      refine (HP.out _).mono ?_; rintro e w1 ⟨rfl, hb1⟩
      go_wp2_with fail
      refine (counts_any _).mono ?_; rintro e w2 ⟨rfl, hb2⟩
      go_wp2_with fail
      go_ret
      exact ⟨rfl, bl_tr hb1 hb2⟩

theorem pr_more {w W w1 : World} {k : Bool} {z g : Nat} (hb : Below W.heap.size W w1) (q : W.heap[g]? = some (.cells #[.bool k, .int .i64 (dg z 0), .int .i64 (dg z 1), .int .i64 (dg z 2), .int .i64 (dg z 3), .int .i64 (dg z 4), .int .i64 (dg z 5), .int .i64 (dg z 6), .int .i64 (dg z 7), .int .i64 (dg z 8)] 28 (0, 0)) ∧ Below w.heap.size w W) : w1.heap[g]? = some (.cells #[.bool k, .int .i64 (dg z 0), .int .i64 (dg z 1), .int .i64 (dg z 2), .int .i64 (dg z 3), .int .i64 (dg z 4), .int .i64 (dg z 5), .int .i64 (dg z 6), .int .i64 (dg z 7), .int .i64 (dg z 8)] 28 (0, 0)) ∧ Below w.heap.size w w1 :=
  ⟨(hb.block _ (lt_heap q.1)).trans q.1, bl_tr q.2 hb⟩
theorem pr_alloc {w W : World} {k : Bool} {z g : Nat} (q : W.heap[g]? = some (.cells #[.bool k, .int .i64 (dg z 0), .int .i64 (dg z 1), .int .i64 (dg z 2), .int .i64 (dg z 3), .int .i64 (dg z 4), .int .i64 (dg z 5), .int .i64 (dg z 6), .int .i64 (dg z 7), .int .i64 (dg z 8)] 28 (0, 0)) ∧ Below w.heap.size w W) (o : Obj) : (W.alloc o).heap[g]? = some (.cells #[.bool k, .int .i64 (dg z 0), .int .i64 (dg z 1), .int .i64 (dg z 2), .int .i64 (dg z 3), .int .i64 (dg z 4), .int .i64 (dg z 5), .int .i64 (dg z 6), .int .i64 (dg z 7), .int .i64 (dg z 8)] 28 (0, 0)) ∧ Below w.heap.size w (W.alloc o) :=
  ⟨(Below.heap_alloc W o g (lt_heap q.1)).trans q.1, bl_al q.2 o⟩
theorem pr_far {w W : World} {k : Bool} {z g : Nat} (q : W.heap[g]? = some (.cells #[.bool k, .int .i64 (dg z 0), .int .i64 (dg z 1), .int .i64 (dg z 2), .int .i64 (dg z 3), .int .i64 (dg z 4), .int .i64 (dg z 5), .int .i64 (dg z 6), .int .i64 (dg z 7), .int .i64 (dg z 8)] 28 (0, 0)) ∧ Below w.heap.size w W) : g ≠ W.heap.size ∧ w.heap.size ≤ W.heap.size :=
  ⟨fun e => absurd (lt_heap q.1) (by omega), q.2.size⟩
theorem pr_drew {w W : World} {k : Bool} {z g : Nat} (q : W.heap[g]? = some (.cells #[.bool k, .int .i64 (dg z 0), .int .i64 (dg z 1), .int .i64 (dg z 2), .int .i64 (dg z 3), .int .i64 (dg z 4), .int .i64 (dg z 5), .int .i64 (dg z 6), .int .i64 (dg z 7), .int .i64 (dg z 8)] 28 (0, 0)) ∧ Below w.heap.size w W) : W.drew.heap[g]? = some (.cells #[.bool k, .int .i64 (dg z 0), .int .i64 (dg z 1), .int .i64 (dg z 2), .int .i64 (dg z 3), .int .i64 (dg z 4), .int .i64 (dg z 5), .int .i64 (dg z 6), .int .i64 (dg z 7), .int .i64 (dg z 8)] 28 (0, 0)) ∧ Below w.heap.size w W.drew := ⟨q.1, q.2.drew⟩
theorem pr_store {w W : World} {k : Bool} {z g h : Nat} (q : W.heap[g]? = some (.cells #[.bool k, .int .i64 (dg z 0), .int .i64 (dg z 1), .int .i64 (dg z 2), .int .i64 (dg z 3), .int .i64 (dg z 4), .int .i64 (dg z 5), .int .i64 (dg z 6), .int .i64 (dg z 7), .int .i64 (dg z 8)] 28 (0, 0)) ∧ Below w.heap.size w W) (p : W.heap[h]? = some (.cells #[.bool false, .int .i64 0, .int .i64 0, .int .i64 0, .int .i64 0, .int .i64 0, .int .i64 0, .int .i64 0, .int .i64 0, .int .i64 0] 28 (0, 0))) (ne : g ≠ h) (hw : w.heap.size ≤ h) (v0 v1 v2 v3 v4 v5 v6 v7 v8 v9 : Value) :
    ((((((((((W.setCell ⟨h, 0, none⟩ (v0)).setCell ⟨h, 1, none⟩ (v1)).setCell ⟨h, 2, none⟩ (v2)).setCell ⟨h, 3, none⟩ (v3)).setCell ⟨h, 4, none⟩ (v4)).setCell ⟨h, 5, none⟩ (v5)).setCell ⟨h, 6, none⟩ (v6)).setCell ⟨h, 7, none⟩ (v7)).setCell ⟨h, 8, none⟩ (v8)).setCell ⟨h, 9, none⟩ (v9)).heap[g]? = some (.cells #[.bool k, .int .i64 (dg z 0), .int .i64 (dg z 1), .int .i64 (dg z 2), .int .i64 (dg z 3), .int .i64 (dg z 4), .int .i64 (dg z 5), .int .i64 (dg z 6), .int .i64 (dg z 7), .int .i64 (dg z 8)] 28 (0, 0)) ∧ Below w.heap.size w ((((((((((W.setCell ⟨h, 0, none⟩ (v0)).setCell ⟨h, 1, none⟩ (v1)).setCell ⟨h, 2, none⟩ (v2)).setCell ⟨h, 3, none⟩ (v3)).setCell ⟨h, 4, none⟩ (v4)).setCell ⟨h, 5, none⟩ (v5)).setCell ⟨h, 6, none⟩ (v6)).setCell ⟨h, 7, none⟩ (v7)).setCell ⟨h, 8, none⟩ (v8)).setCell ⟨h, 9, none⟩ (v9)) :=
  ⟨(ten_other W h g ne v0 v1 v2 v3 v4 v5 v6 v7 v8 v9).trans q.1, ten_below q.2 h hw v0 v1 v2 v3 v4 v5 v6 v7 v8 v9⟩
theorem pr_fin {w W : World} {k : Bool} {z h : Nat} (p : W.heap[h]? = some (.cells #[.bool false, .int .i64 0, .int .i64 0, .int .i64 0, .int .i64 0, .int .i64 0, .int .i64 0, .int .i64 0, .int .i64 0, .int .i64 0] 28 (0, 0))) (q : Below w.heap.size w W) (hw : w.heap.size ≤ h) :
    ((((((((((W.setCell ⟨h, 0, none⟩ (.bool k)).setCell ⟨h, 1, none⟩ (.int .i64 (dg z 0))).setCell ⟨h, 2, none⟩ (.int .i64 (dg z 1))).setCell ⟨h, 3, none⟩ (.int .i64 (dg z 2))).setCell ⟨h, 4, none⟩ (.int .i64 (dg z 3))).setCell ⟨h, 5, none⟩ (.int .i64 (dg z 4))).setCell ⟨h, 6, none⟩ (.int .i64 (dg z 5))).setCell ⟨h, 7, none⟩ (.int .i64 (dg z 6))).setCell ⟨h, 8, none⟩ (.int .i64 (dg z 7))).setCell ⟨h, 9, none⟩ (.int .i64 (dg z 8))).heap[h]? = some (.cells #[.bool k, .int .i64 (dg z 0), .int .i64 (dg z 1), .int .i64 (dg z 2), .int .i64 (dg z 3), .int .i64 (dg z 4), .int .i64 (dg z 5), .int .i64 (dg z 6), .int .i64 (dg z 7), .int .i64 (dg z 8)] 28 (0, 0)) ∧ Below w.heap.size w ((((((((((W.setCell ⟨h, 0, none⟩ (.bool k)).setCell ⟨h, 1, none⟩ (.int .i64 (dg z 0))).setCell ⟨h, 2, none⟩ (.int .i64 (dg z 1))).setCell ⟨h, 3, none⟩ (.int .i64 (dg z 2))).setCell ⟨h, 4, none⟩ (.int .i64 (dg z 3))).setCell ⟨h, 5, none⟩ (.int .i64 (dg z 4))).setCell ⟨h, 6, none⟩ (.int .i64 (dg z 5))).setCell ⟨h, 7, none⟩ (.int .i64 (dg z 6))).setCell ⟨h, 8, none⟩ (.int .i64 (dg z 7))).setCell ⟨h, 9, none⟩ (.int .i64 (dg z 8))) :=
  ⟨ten W h p _ _ _ _ _ _ _ _ _ _, ten_below q h hw _ _ _ _ _ _ _ _ _ _⟩
set_option maxRecDepth 100000 in
set_option maxHeartbeats 4000000 in
theorem walk_ok (a b c n u1 u2 : Int) (ka kb k1 kn kc k2 k3 k k0 : Bool) (xa xb z1 xn xc z2 z x0 : Nat) (a1 : 0 ≤ a) (b1 : 0 ≤ b) (c1 : 0 < c) (n1 : 0 ≤ n) (hu1 : 0 ≤ u1) (hu2 : u2 < 0)
    (I0 : ∀ W, Calls Try.prog 24 #[.int .i64 a, .int .i64 b, .int .i64 c] W fun e w' => e = .returned (.tuple #[.int .i64 n, .bool true]) ∧ Below W.heap.size W w')
    (I1 : ∀ W, Calls Try.prog 14 #[.int .i64 a] W fun e w' => e = .returned (.agg #[.bool ka, .int .i64 (dg xa 0), .int .i64 (dg xa 1), .int .i64 (dg xa 2), .int .i64 (dg xa 3), .int .i64 (dg xa 4), .int .i64 (dg xa 5), .int .i64 (dg xa 6), .int .i64 (dg xa 7), .int .i64 (dg xa 8)]) ∧ Below W.heap.size W w')
    (I2 : ∀ W, Calls Try.prog 14 #[.int .i64 b] W fun e w' => e = .returned (.agg #[.bool kb, .int .i64 (dg xb 0), .int .i64 (dg xb 1), .int .i64 (dg xb 2), .int .i64 (dg xb 3), .int .i64 (dg xb 4), .int .i64 (dg xb 5), .int .i64 (dg xb 6), .int .i64 (dg xb 7), .int .i64 (dg xb 8)]) ∧ Below W.heap.size W w')
    (I3 : ∀ W, Calls Try.prog 19 #[.agg #[.bool ka, .int .i64 (dg xa 0), .int .i64 (dg xa 1), .int .i64 (dg xa 2), .int .i64 (dg xa 3), .int .i64 (dg xa 4), .int .i64 (dg xa 5), .int .i64 (dg xa 6), .int .i64 (dg xa 7), .int .i64 (dg xa 8)], .agg #[.bool kb, .int .i64 (dg xb 0), .int .i64 (dg xb 1), .int .i64 (dg xb 2), .int .i64 (dg xb 3), .int .i64 (dg xb 4), .int .i64 (dg xb 5), .int .i64 (dg xb 6), .int .i64 (dg xb 7), .int .i64 (dg xb 8)]] W fun e w' => e = .returned (.agg #[.bool k1, .int .i64 (dg z1 0), .int .i64 (dg z1 1), .int .i64 (dg z1 2), .int .i64 (dg z1 3), .int .i64 (dg z1 4), .int .i64 (dg z1 5), .int .i64 (dg z1 6), .int .i64 (dg z1 7), .int .i64 (dg z1 8)]) ∧ Below W.heap.size W w')
    (I4 : ∀ W, Calls Try.prog 14 #[.int .i64 n] W fun e w' => e = .returned (.agg #[.bool kn, .int .i64 (dg xn 0), .int .i64 (dg xn 1), .int .i64 (dg xn 2), .int .i64 (dg xn 3), .int .i64 (dg xn 4), .int .i64 (dg xn 5), .int .i64 (dg xn 6), .int .i64 (dg xn 7), .int .i64 (dg xn 8)]) ∧ Below W.heap.size W w')
    (I5 : ∀ W, Calls Try.prog 14 #[.int .i64 c] W fun e w' => e = .returned (.agg #[.bool kc, .int .i64 (dg xc 0), .int .i64 (dg xc 1), .int .i64 (dg xc 2), .int .i64 (dg xc 3), .int .i64 (dg xc 4), .int .i64 (dg xc 5), .int .i64 (dg xc 6), .int .i64 (dg xc 7), .int .i64 (dg xc 8)]) ∧ Below W.heap.size W w')
    (I6 : ∀ W, Calls Try.prog 19 #[.agg #[.bool kn, .int .i64 (dg xn 0), .int .i64 (dg xn 1), .int .i64 (dg xn 2), .int .i64 (dg xn 3), .int .i64 (dg xn 4), .int .i64 (dg xn 5), .int .i64 (dg xn 6), .int .i64 (dg xn 7), .int .i64 (dg xn 8)], .agg #[.bool kc, .int .i64 (dg xc 0), .int .i64 (dg xc 1), .int .i64 (dg xc 2), .int .i64 (dg xc 3), .int .i64 (dg xc 4), .int .i64 (dg xc 5), .int .i64 (dg xc 6), .int .i64 (dg xc 7), .int .i64 (dg xc 8)]] W fun e w' => e = .returned (.agg #[.bool k2, .int .i64 (dg z2 0), .int .i64 (dg z2 1), .int .i64 (dg z2 2), .int .i64 (dg z2 3), .int .i64 (dg z2 4), .int .i64 (dg z2 5), .int .i64 (dg z2 6), .int .i64 (dg z2 7), .int .i64 (dg z2 8)]) ∧ Below W.heap.size W w')
    (I7 : ∀ W, Calls Try.prog 18 #[.agg #[.bool k2, .int .i64 (dg z2 0), .int .i64 (dg z2 1), .int .i64 (dg z2 2), .int .i64 (dg z2 3), .int .i64 (dg z2 4), .int .i64 (dg z2 5), .int .i64 (dg z2 6), .int .i64 (dg z2 7), .int .i64 (dg z2 8)]] W fun e w' => e = .returned (.agg #[.bool k3, .int .i64 (dg z2 0), .int .i64 (dg z2 1), .int .i64 (dg z2 2), .int .i64 (dg z2 3), .int .i64 (dg z2 4), .int .i64 (dg z2 5), .int .i64 (dg z2 6), .int .i64 (dg z2 7), .int .i64 (dg z2 8)]) ∧ Below W.heap.size W w')
    (I8 : ∀ W, Calls Try.prog 17 #[.agg #[.bool k1, .int .i64 (dg z1 0), .int .i64 (dg z1 1), .int .i64 (dg z1 2), .int .i64 (dg z1 3), .int .i64 (dg z1 4), .int .i64 (dg z1 5), .int .i64 (dg z1 6), .int .i64 (dg z1 7), .int .i64 (dg z1 8)], .agg #[.bool k3, .int .i64 (dg z2 0), .int .i64 (dg z2 1), .int .i64 (dg z2 2), .int .i64 (dg z2 3), .int .i64 (dg z2 4), .int .i64 (dg z2 5), .int .i64 (dg z2 6), .int .i64 (dg z2 7), .int .i64 (dg z2 8)]] W fun e w' => e = .returned (.agg #[.bool k, .int .i64 (dg z 0), .int .i64 (dg z 1), .int .i64 (dg z 2), .int .i64 (dg z 3), .int .i64 (dg z 4), .int .i64 (dg z 5), .int .i64 (dg z 6), .int .i64 (dg z 7), .int .i64 (dg z 8)]) ∧ Below W.heap.size W w')
    (I9 : ∀ W, Calls Try.prog 14 #[.int .i64 0] W fun e w' => e = .returned (.agg #[.bool k0, .int .i64 (dg x0 0), .int .i64 (dg x0 1), .int .i64 (dg x0 2), .int .i64 (dg x0 3), .int .i64 (dg x0 4), .int .i64 (dg x0 5), .int .i64 (dg x0 6), .int .i64 (dg x0 7), .int .i64 (dg x0 8)]) ∧ Below W.heap.size W w')
    (I10 : ∀ W, Calls Try.prog 21 #[.agg #[.bool k, .int .i64 (dg z 0), .int .i64 (dg z 1), .int .i64 (dg z 2), .int .i64 (dg z 3), .int .i64 (dg z 4), .int .i64 (dg z 5), .int .i64 (dg z 6), .int .i64 (dg z 7), .int .i64 (dg z 8)], .agg #[.bool k0, .int .i64 (dg x0 0), .int .i64 (dg x0 1), .int .i64 (dg x0 2), .int .i64 (dg x0 3), .int .i64 (dg x0 4), .int .i64 (dg x0 5), .int .i64 (dg x0 6), .int .i64 (dg x0 7), .int .i64 (dg x0 8)]] W fun e w' => e = .returned (.int .i64 u1) ∧ Below W.heap.size W w')
    (I11 : ∀ W, Calls Try.prog 21 #[.agg #[.bool k, .int .i64 (dg z 0), .int .i64 (dg z 1), .int .i64 (dg z 2), .int .i64 (dg z 3), .int .i64 (dg z 4), .int .i64 (dg z 5), .int .i64 (dg z 6), .int .i64 (dg z 7), .int .i64 (dg z 8)], .agg #[.bool kc, .int .i64 (dg xc 0), .int .i64 (dg xc 1), .int .i64 (dg xc 2), .int .i64 (dg xc 3), .int .i64 (dg xc 4), .int .i64 (dg xc 5), .int .i64 (dg xc 6), .int .i64 (dg xc 7), .int .i64 (dg xc 8)]] W fun e w' => e = .returned (.int .i64 u2) ∧ Below W.heap.size W w')
    (w : World) : Calls Try.prog 7 #[.int .i64 a, .int .i64 b, .int .i64 c] w fun e w' => e = .returned (.bool true) ∧ Below w.heap.size w w' := by
  have J0 := Lib.hid I0; clear I0
  have J1 := Lib.hid I1; clear I1
  have J2 := Lib.hid I2; clear I2
  have J3 := Lib.hid I3; clear I3
  have J4 := Lib.hid I4; clear I4
  have J5 := Lib.hid I5; clear I5
  have J6 := Lib.hid I6; clear I6
  have J7 := Lib.hid I7; clear I7
  have J8 := Lib.hid I8; clear I8
  have J9 := Lib.hid I9; clear I9
  have J10 := Lib.hid I10; clear I10
  have J11 := Lib.hid I11; clear I11
  go_enter Try.func7, Try.ntmps7
  go_wp2_with fail
  refine (J0.out _).mono ?_; rintro e w1 ⟨rfl, hb1⟩
  go_wp2_with fail
  refine (counts_any _).mono ?_; rintro e w2 ⟨rfl, hb2⟩
  go_wp2_with fail
  refine (J1.out _).mono ?_; rintro e w3 ⟨rfl, hb3⟩
  go_wp2_with fail
  refine (J2.out _).mono ?_; rintro e w4 ⟨rfl, hb4⟩
  go_wp2_with fail
  refine (J3.out _).mono ?_; rintro e w5 ⟨rfl, hb5⟩
  have bl := bl_tr (bl_tr (bl_tr (bl_tr hb1 hb2) hb3) hb4) hb5
  clear hb1 hb2 hb3 hb4 hb5
  go_wp2
  have S0 : (w5.alloc (.cells #[.bool k1, .int .i64 (dg z1 0), .int .i64 (dg z1 1), .int .i64 (dg z1 2), .int .i64 (dg z1 3), .int .i64 (dg z1 4), .int .i64 (dg z1 5), .int .i64 (dg z1 6), .int .i64 (dg z1 7), .int .i64 (dg z1 8)] 28)).heap[w5.heap.size]? = some (.cells #[.bool k1, .int .i64 (dg z1 0), .int .i64 (dg z1 1), .int .i64 (dg z1 2), .int .i64 (dg z1 3), .int .i64 (dg z1 4), .int .i64 (dg z1 5), .int .i64 (dg z1 6), .int .i64 (dg z1 7), .int .i64 (dg z1 8)] 28 (0, 0)) ∧ Below w.heap.size w (w5.alloc (.cells #[.bool k1, .int .i64 (dg z1 0), .int .i64 (dg z1 1), .int .i64 (dg z1 2), .int .i64 (dg z1 3), .int .i64 (dg z1 4), .int .i64 (dg z1 5), .int .i64 (dg z1 6), .int .i64 (dg z1 7), .int .i64 (dg z1 8)] 28)) := ⟨heap_alloc_new w5 _, bl_al bl _⟩
  clear bl
  generalize w5.alloc (.cells #[.bool k1, .int .i64 (dg z1 0), .int .i64 (dg z1 1), .int .i64 (dg z1 2), .int .i64 (dg z1 3), .int .i64 (dg z1 4), .int .i64 (dg z1 5), .int .i64 (dg z1 6), .int .i64 (dg z1 7), .int .i64 (dg z1 8)] 28) = W0 at S0 ⊢
  generalize w5.heap.size = g0 at S0 ⊢
  refine wp_region_held_drew (S := fun w' => w'.heap[g0]? = some (.cells #[.bool k1, .int .i64 (dg z1 0), .int .i64 (dg z1 1), .int .i64 (dg z1 2), .int .i64 (dg z1 3), .int .i64 (dg z1 4), .int .i64 (dg z1 5), .int .i64 (dg z1 6), .int .i64 (dg z1 7), .int .i64 (dg z1 8)] 28 (0, 0)) ∧ Below w.heap.size w w') (by kernel_rfl) ⟨S0.1, S0.2.drew⟩ (fun hHeld => ?_)
  clear S0
  refine' wpAnyH_take (i := 0) (v := _) (by rw [List.getElem?_toArray]; rfl) (by kernel_rfl) (by kernel_rfl) (by kernel_rfl) ?qu1x0 (yieldsIf_load_mid (by rfl) _ _ rfl _ _ rfl [.bool k1, .int .i64 (dg z1 0), .int .i64 (dg z1 1), .int .i64 (dg z1 2), .int .i64 (dg z1 3), .int .i64 (dg z1 4), .int .i64 (dg z1 5), .int .i64 (dg z1 6), .int .i64 (dg z1 7), .int .i64 (dg z1 8)] _ ?hSu1x0 ?huu1x0 ?hdu1x0 ?hiu1x0) (by assumption) ?restu1x0
  case qu1x0 => exact fun _ _ _ h => h
  case hSu1x0 => exact fun wz hSw => sg_whole hSw.1
  case huu1x0 => exact Try.underlying28
  case hdu1x0 => rfl
  case hiu1x0 => exact info28
  simp only [Act.put, List.setIfInBounds_toArray, List.set_cons_zero, List.set_cons_succ]
  refine wpAnyH_take (i := 1) (v := ?vu2x1) (by rw [List.getElem?_toArray]; rfl) (by kernel_rfl) (by kernel_rfl) (by kernel_rfl) ?qu2x1 (Or.inl ⟨by rfl, ?yu2x1⟩) (by assumption) ?ru2x1
  case qu2x1 => exact fun _ _ _ h => h
  case yu2x1 => (intro wz hSw; go_simp; try (with_reducible rfl))
  simp only [Act.put, List.setIfInBounds_toArray, List.set_cons_zero, List.set_cons_succ]
  refine wpAnyH_take (i := 3) (v := ?vu3x3) (by rw [List.getElem?_toArray]; rfl) (by kernel_rfl) (by kernel_rfl) (by kernel_rfl) ?qu3x3 (Or.inl ⟨by rfl, ?yu3x3⟩) (by assumption) ?ru3x3
  case qu3x3 => exact fun _ _ _ h => h
  case yu3x3 => (intro wz hSw; go_simp; try (with_reducible rfl))
  simp only [Act.put, List.setIfInBounds_toArray, List.set_cons_zero, List.set_cons_succ]
  refine wpAnyH_ready (rs := [2, 8]) (by kernel_rfl) (by simp) ?_
  refine AllReadyH.cons (by rw [List.getElem?_toArray]; rfl) (fun K hK => ?_) (AllReadyH.cons (by rw [List.getElem?_toArray]; rfl) (fun K hK => ?_) AllReadyH.nil)
  · have hHid := Lib.hid hHeld
    clear hHeld
    go_simp
    go_at_call 14; refine (J4.out _).mono ?_; rintro e vu4 ⟨rfl, hb⟩
    have hNew := pr_more hb hHid.out
    clear hb hHid
    have hNewH := Lib.hid hNew
    clear hNew
    go_wp2_with fail
    refine hK.out _ _ hNewH.out (fun hHeld => ?_)
    clear hK K hNewH
    refine wpAnyH_ready (rs := [4, 8]) (by kernel_rfl) (by simp) ?_
    refine AllReadyH.cons (by rw [List.getElem?_toArray]; rfl) (fun K hK => ?_) (AllReadyH.cons (by rw [List.getElem?_toArray]; rfl) (fun K hK => ?_) AllReadyH.nil)
    · have hHid := Lib.hid hHeld
      clear hHeld
      go_simp
      go_at_call 14; refine (J5.out _).mono ?_; rintro e vu5 ⟨rfl, hb⟩
      have hNew := pr_more hb hHid.out
      clear hb hHid
      have hNewH := Lib.hid hNew
      clear hNew
      go_wp2_with fail
      refine hK.out _ _ hNewH.out (fun hHeld => ?_)
      clear hK K hNewH
      refine wpAnyH_ready (rs := [5, 8]) (by kernel_rfl) (by simp) ?_
      refine AllReadyH.cons (by rw [List.getElem?_toArray]; rfl) (fun K hK => ?_) (AllReadyH.cons (by rw [List.getElem?_toArray]; rfl) (fun K hK => ?_) AllReadyH.nil)
      · have hHid := Lib.hid hHeld
        clear hHeld
        go_simp
        go_at_call 19; refine (J6.out _).mono ?_; rintro e vu6 ⟨rfl, hb⟩
        have hNew := pr_more hb hHid.out
        clear hb hHid
        have hNewH := Lib.hid hNew
        clear hNew
        go_wp2_with fail
        refine hK.out _ _ hNewH.out (fun hHeld => ?_)
        clear hK K hNewH
        refine wpAnyH_ready (rs := [6, 8]) (by kernel_rfl) (by simp) ?_
        refine AllReadyH.cons (by rw [List.getElem?_toArray]; rfl) (fun K hK => ?_) (AllReadyH.cons (by rw [List.getElem?_toArray]; rfl) (fun K hK => ?_) AllReadyH.nil)
        · have hHid := Lib.hid hHeld
          clear hHeld
          go_simp
          go_at_call 18; refine (J7.out _).mono ?_; rintro e vu7 ⟨rfl, hb⟩
          have hNew := pr_more hb hHid.out
          clear hb hHid
          have hNewH := Lib.hid hNew
          clear hNew
          go_wp2_with fail
          refine hK.out _ _ hNewH.out (fun hHeld => ?_)
          clear hK K hNewH
          refine wpAnyH_ready (rs := [7, 8]) (by kernel_rfl) (by simp) ?_
          refine AllReadyH.cons (by rw [List.getElem?_toArray]; rfl) (fun K hK => ?_) (AllReadyH.cons (by rw [List.getElem?_toArray]; rfl) (fun K hK => ?_) AllReadyH.nil)
          · have hHid := Lib.hid hHeld
            clear hHeld
            go_simp
            go_at_call 17; refine (J8.out _).mono ?_; rintro e vu8 ⟨rfl, hb⟩
            have hNew := pr_more hb hHid.out
            clear hb hHid
            have hNewH := Lib.hid hNew
            clear hNew
            go_wp2_with fail
            refine hK.out _ _ hNewH.out (fun hHeld => ?_)
            clear hK K hNewH
            refine wpAnyH_ready (rs := [8]) (by kernel_rfl) (by simp) ?_
            refine AllReadyH.cons (by rw [List.getElem?_toArray]; rfl) (fun K hK => ?_) AllReadyH.nil
            have hHid0 := Lib.hid hHeld
            clear hHeld
            go_simp
            refine hK.out _ _ (pr_alloc hHid0.out _) (fun hHeld => ?_)
            clear hK K
            have PA := Lib.hid (heap_alloc_new vu8 (.cells #[.bool false, .int .i64 0, .int .i64 0, .int .i64 0, .int .i64 0, .int .i64 0, .int .i64 0, .int .i64 0, .int .i64 0, .int .i64 0] 28))
            refine wpAnyH_ready (rs := [9]) (by kernel_rfl) (by simp) ?_
            refine AllReadyH.cons (by rw [List.getElem?_toArray]; rfl) (fun K hK => ?_) AllReadyH.nil
            obtain ⟨c0, c1, c2, c3, c4, c5, c6, c7, c8, c9, ff⟩ := zcells PA.out
            clear hHeld
            go_simp
            refine hK.out _ _ (pr_alloc hHid0.out _) (fun hHeld => ?_)
            clear hK K c0 c1 c2 c3 c4 c5 c6 c7 c8 c9 ff
            have T : Hid ((vu8.alloc (.cells #[.bool k, .int .i64 (dg z 0), .int .i64 (dg z 1), .int .i64 (dg z 2), .int .i64 (dg z 3), .int .i64 (dg z 4), .int .i64 (dg z 5), .int .i64 (dg z 6), .int .i64 (dg z 7), .int .i64 (dg z 8)] 28)).heap[vu8.heap.size]? = some (.cells #[.bool k, .int .i64 (dg z 0), .int .i64 (dg z 1), .int .i64 (dg z 2), .int .i64 (dg z 3), .int .i64 (dg z 4), .int .i64 (dg z 5), .int .i64 (dg z 6), .int .i64 (dg z 7), .int .i64 (dg z 8)] 28 (0, 0)) ∧ Below w.heap.size w (vu8.alloc (.cells #[.bool k, .int .i64 (dg z 0), .int .i64 (dg z 1), .int .i64 (dg z 2), .int .i64 (dg z 3), .int .i64 (dg z 4), .int .i64 (dg z 5), .int .i64 (dg z 6), .int .i64 (dg z 7), .int .i64 (dg z 8)] 28))) := ⟨heap_alloc_new vu8 _, bl_al hHid0.out.2 _⟩
            refine wpAnyH_done (by kernel_rfl) ?_ _
            clear hHeld PA hHid0
            go_wp2
            refine wp_region_held_drew (S := fun w' => w'.heap[vu8.heap.size]? = some (.cells #[.bool k, .int .i64 (dg z 0), .int .i64 (dg z 1), .int .i64 (dg z 2), .int .i64 (dg z 3), .int .i64 (dg z 4), .int .i64 (dg z 5), .int .i64 (dg z 6), .int .i64 (dg z 7), .int .i64 (dg z 8)] 28 (0, 0)) ∧ Below w.heap.size w w') (by kernel_rfl) (pr_drew T.out) (fun hHeld => ?_)
            clear T
            refine wpAnyH_take (i := 0) (v := ?vu9x0) (by rw [List.getElem?_toArray]; rfl) (by kernel_rfl) (by kernel_rfl) (by kernel_rfl) ?qu9x0 (Or.inl ⟨by rfl, ?yu9x0⟩) (by assumption) ?ru9x0
            case qu9x0 => exact fun _ _ _ h => h
            case yu9x0 => (intro wz hSw; go_simp; try (with_reducible rfl))
            simp only [Act.put, List.setIfInBounds_toArray, List.set_cons_zero, List.set_cons_succ]
            refine wpAnyH_take (i := 1) (v := ?vu10x1) (by rw [List.getElem?_toArray]; rfl) (by kernel_rfl) (by kernel_rfl) (by kernel_rfl) ?qu10x1 (Or.inl ⟨by rfl, ?yu10x1⟩) (by assumption) ?ru10x1
            case qu10x1 => exact fun _ _ _ h => h
            case yu10x1 => (intro wz hSw; go_simp; try (with_reducible rfl))
            simp only [Act.put, List.setIfInBounds_toArray, List.set_cons_zero, List.set_cons_succ]
            refine wpAnyH_take (i := 2) (v := ?vu11x2) (by rw [List.getElem?_toArray]; rfl) (by kernel_rfl) (by kernel_rfl) (by kernel_rfl) ?qu11x2 (Or.inl ⟨by rfl, ?yu11x2⟩) (by assumption) ?ru11x2
            case qu11x2 => exact fun _ _ _ h => h
            case yu11x2 => (intro wz hSw; go_simp; try (with_reducible rfl))
            simp only [Act.put, List.setIfInBounds_toArray, List.set_cons_zero, List.set_cons_succ]
            refine' wpAnyH_take (i := 3) (v := _) (by rw [List.getElem?_toArray]; rfl) (by kernel_rfl) (by kernel_rfl) (by kernel_rfl) ?qu12x3 (yieldsIf_load_mid (by rfl) _ _ rfl _ _ rfl [.bool k, .int .i64 (dg z 0), .int .i64 (dg z 1), .int .i64 (dg z 2), .int .i64 (dg z 3), .int .i64 (dg z 4), .int .i64 (dg z 5), .int .i64 (dg z 6), .int .i64 (dg z 7), .int .i64 (dg z 8)] _ ?hSu12x3 ?huu12x3 ?hdu12x3 ?hiu12x3) (by assumption) ?restu12x3
            case qu12x3 => exact fun _ _ _ h => h
            case hSu12x3 => exact fun wz hSw => sg_whole hSw.1
            case huu12x3 => exact Try.underlying28
            case hdu12x3 => rfl
            case hiu12x3 => exact info28
            simp only [Act.put, List.setIfInBounds_toArray, List.set_cons_zero, List.set_cons_succ]
            refine wpAnyH_ready (rs := [4]) (by kernel_rfl) (by simp) ?_
            refine AllReadyH.cons (by rw [List.getElem?_toArray]; rfl) (fun K hK => ?_) AllReadyH.nil
            have hHid := Lib.hid hHeld
            clear hHeld
            go_simp
            go_at_call 14; refine (J9.out _).mono ?_; rintro e vu13 ⟨rfl, hb⟩
            have hNew := pr_more hb hHid.out
            clear hb hHid
            have hNewH := Lib.hid hNew
            clear hNew
            go_wp2_with fail
            refine hK.out _ _ hNewH.out (fun hHeld => ?_)
            clear hK K hNewH
            refine wpAnyH_ready (rs := [5]) (by kernel_rfl) (by simp) ?_
            refine AllReadyH.cons (by rw [List.getElem?_toArray]; rfl) (fun K hK => ?_) AllReadyH.nil
            have hHid := Lib.hid hHeld
            clear hHeld
            go_simp
            go_at_call 21; refine (J10.out _).mono ?_; rintro e vu14 ⟨rfl, hb⟩
            have hNew := pr_more hb hHid.out
            clear hb hHid
            have hNewH := Lib.hid hNew
            clear hNew
            go_wp2_with fail
            refine hK.out _ _ hNewH.out (fun hHeld => ?_)
            clear hK K hNewH
            refine wpAnyH_take (i := 6) (v := ?vu15x6) (by rw [List.getElem?_toArray]; rfl) (by kernel_rfl) (by kernel_rfl) (by kernel_rfl) ?qu15x6 (Or.inl ⟨by rfl, ?yu15x6⟩) (by assumption) ?ru15x6
            case qu15x6 => exact fun _ _ _ h => h
            case yu15x6 => (intro wz hSw; go_simp; try (with_reducible rfl))
            simp only [Act.put, List.setIfInBounds_toArray, List.set_cons_zero, List.set_cons_succ]
            refine wpAnyH_take (i := 7) (v := ?vu16x7) (by rw [List.getElem?_toArray]; rfl) (by kernel_rfl) (by kernel_rfl) (by kernel_rfl) ?qu16x7 (Or.inl ⟨by rfl, ?yu16x7⟩) (by assumption) ?ru16x7
            case qu16x7 => exact fun _ _ _ h => h
            case yu16x7 => (intro wz hSw; go_simp; try (with_reducible rfl))
            simp only [Act.put, List.setIfInBounds_toArray, List.set_cons_zero, List.set_cons_succ]
            refine wpAnyH_take (i := 8) (v := ?vu17x8) (by rw [List.getElem?_toArray]; rfl) (by kernel_rfl) (by kernel_rfl) (by kernel_rfl) ?qu17x8 (Or.inl ⟨by rfl, ?yu17x8⟩) (by assumption) ?ru17x8
            case qu17x8 => exact fun _ _ _ h => h
            case yu17x8 => (intro wz hSw; go_simp; try (with_reducible rfl))
            simp only [Act.put, List.setIfInBounds_toArray, List.set_cons_zero, List.set_cons_succ]
            refine' wpAnyH_take (i := 9) (v := _) (by rw [List.getElem?_toArray]; rfl) (by kernel_rfl) (by kernel_rfl) (by kernel_rfl) ?qu18x9 (yieldsIf_load_mid (by rfl) _ _ rfl _ _ rfl [.bool k, .int .i64 (dg z 0), .int .i64 (dg z 1), .int .i64 (dg z 2), .int .i64 (dg z 3), .int .i64 (dg z 4), .int .i64 (dg z 5), .int .i64 (dg z 6), .int .i64 (dg z 7), .int .i64 (dg z 8)] _ ?hSu18x9 ?huu18x9 ?hdu18x9 ?hiu18x9) (by assumption) ?restu18x9
            case qu18x9 => exact fun _ _ _ h => h
            case hSu18x9 => exact fun wz hSw => sg_whole hSw.1
            case huu18x9 => exact Try.underlying28
            case hdu18x9 => rfl
            case hiu18x9 => exact info28
            simp only [Act.put, List.setIfInBounds_toArray, List.set_cons_zero, List.set_cons_succ]
            refine wpAnyH_take (i := 10) (v := ?vu19x10) (by rw [List.getElem?_toArray]; rfl) (by kernel_rfl) (by kernel_rfl) (by kernel_rfl) ?qu19x10 (Or.inl ⟨by rfl, ?yu19x10⟩) (by assumption) ?ru19x10
            case qu19x10 => exact fun _ _ _ h => h
            case yu19x10 => (intro wz hSw; go_simp; try (with_reducible rfl))
            simp only [Act.put, List.setIfInBounds_toArray, List.set_cons_zero, List.set_cons_succ]
            refine wpAnyH_ready (rs := [11]) (by kernel_rfl) (by simp) ?_
            refine AllReadyH.cons (by rw [List.getElem?_toArray]; rfl) (fun K hK => ?_) AllReadyH.nil
            have hHid := Lib.hid hHeld
            clear hHeld
            go_simp
            go_at_call 14; refine (J5.out _).mono ?_; rintro e vu20 ⟨rfl, hb⟩
            have hNew := pr_more hb hHid.out
            clear hb hHid
            have hNewH := Lib.hid hNew
            clear hNew
            go_wp2_with fail
            refine hK.out _ _ hNewH.out (fun hHeld => ?_)
            clear hK K hNewH
            refine wpAnyH_ready (rs := [12]) (by kernel_rfl) (by simp) ?_
            refine AllReadyH.cons (by rw [List.getElem?_toArray]; rfl) (fun K hK => ?_) AllReadyH.nil
            have hHid := Lib.hid hHeld
            clear hHeld
            go_simp
            go_at_call 21; refine (J11.out _).mono ?_; rintro e vu21 ⟨rfl, hb⟩
            have hNew := pr_more hb hHid.out
            clear hb hHid
            have hNewH := Lib.hid hNew
            clear hNew
            go_wp2_with fail
            refine hK.out _ _ hNewH.out (fun hHeld => ?_)
            clear hK K hNewH
            refine wpAnyH_take (i := 13) (v := ?vu22x13) (by rw [List.getElem?_toArray]; rfl) (by kernel_rfl) (by kernel_rfl) (by kernel_rfl) ?qu22x13 (Or.inl ⟨by rfl, ?yu22x13⟩) (by assumption) ?ru22x13
            case qu22x13 => exact fun _ _ _ h => h
            case yu22x13 => (intro wz hSw; go_simp; try (with_reducible rfl))
            simp only [Act.put, List.setIfInBounds_toArray, List.set_cons_zero, List.set_cons_succ]
            refine wpAnyH_take (i := 14) (v := ?vu23x14) (by rw [List.getElem?_toArray]; rfl) (by kernel_rfl) (by kernel_rfl) (by kernel_rfl) ?qu23x14 (Or.inl ⟨by rfl, ?yu23x14⟩) (by assumption) ?ru23x14
            case qu23x14 => exact fun _ _ _ h => h
            case yu23x14 => (intro wz hSw; go_simp; try (with_reducible rfl))
            simp only [Act.put, List.setIfInBounds_toArray, List.set_cons_zero, List.set_cons_succ]
            refine wpAnyH_take (i := 15) (v := ?vu24x15) (by rw [List.getElem?_toArray]; rfl) (by kernel_rfl) (by kernel_rfl) (by kernel_rfl) ?qu24x15 (Or.inl ⟨by rfl, ?yu24x15⟩) (by assumption) ?ru24x15
            case qu24x15 => exact fun _ _ _ h => h
            case yu24x15 => (intro wz hSw; go_simp; try (with_reducible rfl))
            simp only [Act.put, List.setIfInBounds_toArray, List.set_cons_zero, List.set_cons_succ]
            refine wpAnyH_done (by kernel_rfl) ?_ _
            go_wp2
            go_ret
            exact ⟨rfl, hHeld.2⟩
          · have hHid := Lib.hid hHeld
            clear hHeld
            go_simp
            refine hK.out _ _ (pr_alloc hHid.out _) (fun hHeld => ?_)
            clear hK K
            have PA := Lib.hid (heap_alloc_new vu7 (.cells #[.bool false, .int .i64 0, .int .i64 0, .int .i64 0, .int .i64 0, .int .i64 0, .int .i64 0, .int .i64 0, .int .i64 0, .int .i64 0] 28))
            have GA0 := pr_far hHid.out
            have GA : Hid (g0 ≠ vu7.heap.size ∧ w.heap.size ≤ vu7.heap.size) := GA0
            clear hHid GA0
            refine wpAnyH_ready (rs := [7]) (by kernel_rfl) (by simp) ?_
            refine AllReadyH.cons (by rw [List.getElem?_toArray]; rfl) (fun K hK => ?_) AllReadyH.nil
            have hHid := Lib.hid hHeld
            clear hHeld
            go_simp
            go_at_call 17; refine (J8.out _).mono ?_; rintro e vu25 ⟨rfl, hb⟩
            have hNew := pr_more hb hHid.out
            have PAx := Lib.hid ((hb.block _ (lt_heap PA.out)).trans PA.out)
            clear PA
            have PA := PAx
            clear PAx
            clear hb hHid
            have hNewH := Lib.hid hNew
            clear hNew
            go_wp2_with fail
            refine hK.out _ _ hNewH.out (fun hHeld => ?_)
            clear hK K hNewH
            refine wpAnyH_ready (rs := [9]) (by kernel_rfl) (by simp) ?_
            refine AllReadyH.cons (by rw [List.getElem?_toArray]; rfl) (fun K hK => ?_) AllReadyH.nil
            obtain ⟨c0, c1, c2, c3, c4, c5, c6, c7, c8, c9, ff⟩ := zcells PA.out
            have hHid := Lib.hid hHeld
            clear hHeld
            go_simp
            refine hK.out _ _ (pr_store hHid.out PA.out GA.out.1 GA.out.2 _ _ _ _ _ _ _ _ _ _) (fun hHeld => ?_)
            clear hK K c0 c1 c2 c3 c4 c5 c6 c7 c8 c9 ff
            have T := Lib.hid (pr_fin (k := k) (z := z) PA.out hHid.out.2 GA.out.2)
            refine wpAnyH_done (by kernel_rfl) ?_ _
            clear hHeld PA GA hHid
            go_wp2
            refine wp_region_held_drew (S := fun w' => w'.heap[vu7.heap.size]? = some (.cells #[.bool k, .int .i64 (dg z 0), .int .i64 (dg z 1), .int .i64 (dg z 2), .int .i64 (dg z 3), .int .i64 (dg z 4), .int .i64 (dg z 5), .int .i64 (dg z 6), .int .i64 (dg z 7), .int .i64 (dg z 8)] 28 (0, 0)) ∧ Below w.heap.size w w') (by kernel_rfl) (pr_drew T.out) (fun hHeld => ?_)
            clear T
            refine wpAnyH_take (i := 0) (v := ?vu26x0) (by rw [List.getElem?_toArray]; rfl) (by kernel_rfl) (by kernel_rfl) (by kernel_rfl) ?qu26x0 (Or.inl ⟨by rfl, ?yu26x0⟩) (by assumption) ?ru26x0
            case qu26x0 => exact fun _ _ _ h => h
            case yu26x0 => (intro wz hSw; go_simp; try (with_reducible rfl))
            simp only [Act.put, List.setIfInBounds_toArray, List.set_cons_zero, List.set_cons_succ]
            refine wpAnyH_take (i := 1) (v := ?vu27x1) (by rw [List.getElem?_toArray]; rfl) (by kernel_rfl) (by kernel_rfl) (by kernel_rfl) ?qu27x1 (Or.inl ⟨by rfl, ?yu27x1⟩) (by assumption) ?ru27x1
            case qu27x1 => exact fun _ _ _ h => h
            case yu27x1 => (intro wz hSw; go_simp; try (with_reducible rfl))
            simp only [Act.put, List.setIfInBounds_toArray, List.set_cons_zero, List.set_cons_succ]
            refine wpAnyH_take (i := 2) (v := ?vu28x2) (by rw [List.getElem?_toArray]; rfl) (by kernel_rfl) (by kernel_rfl) (by kernel_rfl) ?qu28x2 (Or.inl ⟨by rfl, ?yu28x2⟩) (by assumption) ?ru28x2
            case qu28x2 => exact fun _ _ _ h => h
            case yu28x2 => (intro wz hSw; go_simp; try (with_reducible rfl))
            simp only [Act.put, List.setIfInBounds_toArray, List.set_cons_zero, List.set_cons_succ]
            refine' wpAnyH_take (i := 3) (v := _) (by rw [List.getElem?_toArray]; rfl) (by kernel_rfl) (by kernel_rfl) (by kernel_rfl) ?qu29x3 (yieldsIf_load_mid (by rfl) _ _ rfl _ _ rfl [.bool k, .int .i64 (dg z 0), .int .i64 (dg z 1), .int .i64 (dg z 2), .int .i64 (dg z 3), .int .i64 (dg z 4), .int .i64 (dg z 5), .int .i64 (dg z 6), .int .i64 (dg z 7), .int .i64 (dg z 8)] _ ?hSu29x3 ?huu29x3 ?hdu29x3 ?hiu29x3) (by assumption) ?restu29x3
            case qu29x3 => exact fun _ _ _ h => h
            case hSu29x3 => exact fun wz hSw => sg_whole hSw.1
            case huu29x3 => exact Try.underlying28
            case hdu29x3 => rfl
            case hiu29x3 => exact info28
            simp only [Act.put, List.setIfInBounds_toArray, List.set_cons_zero, List.set_cons_succ]
            refine wpAnyH_ready (rs := [4]) (by kernel_rfl) (by simp) ?_
            refine AllReadyH.cons (by rw [List.getElem?_toArray]; rfl) (fun K hK => ?_) AllReadyH.nil
            have hHid := Lib.hid hHeld
            clear hHeld
            go_simp
            go_at_call 14; refine (J9.out _).mono ?_; rintro e vu30 ⟨rfl, hb⟩
            have hNew := pr_more hb hHid.out
            clear hb hHid
            have hNewH := Lib.hid hNew
            clear hNew
            go_wp2_with fail
            refine hK.out _ _ hNewH.out (fun hHeld => ?_)
            clear hK K hNewH
            refine wpAnyH_ready (rs := [5]) (by kernel_rfl) (by simp) ?_
            refine AllReadyH.cons (by rw [List.getElem?_toArray]; rfl) (fun K hK => ?_) AllReadyH.nil
            have hHid := Lib.hid hHeld
            clear hHeld
            go_simp
            go_at_call 21; refine (J10.out _).mono ?_; rintro e vu31 ⟨rfl, hb⟩
            have hNew := pr_more hb hHid.out
            clear hb hHid
            have hNewH := Lib.hid hNew
            clear hNew
            go_wp2_with fail
            refine hK.out _ _ hNewH.out (fun hHeld => ?_)
            clear hK K hNewH
            refine wpAnyH_take (i := 6) (v := ?vu32x6) (by rw [List.getElem?_toArray]; rfl) (by kernel_rfl) (by kernel_rfl) (by kernel_rfl) ?qu32x6 (Or.inl ⟨by rfl, ?yu32x6⟩) (by assumption) ?ru32x6
            case qu32x6 => exact fun _ _ _ h => h
            case yu32x6 => (intro wz hSw; go_simp; try (with_reducible rfl))
            simp only [Act.put, List.setIfInBounds_toArray, List.set_cons_zero, List.set_cons_succ]
            refine wpAnyH_take (i := 7) (v := ?vu33x7) (by rw [List.getElem?_toArray]; rfl) (by kernel_rfl) (by kernel_rfl) (by kernel_rfl) ?qu33x7 (Or.inl ⟨by rfl, ?yu33x7⟩) (by assumption) ?ru33x7
            case qu33x7 => exact fun _ _ _ h => h
            case yu33x7 => (intro wz hSw; go_simp; try (with_reducible rfl))
            simp only [Act.put, List.setIfInBounds_toArray, List.set_cons_zero, List.set_cons_succ]
            refine wpAnyH_take (i := 8) (v := ?vu34x8) (by rw [List.getElem?_toArray]; rfl) (by kernel_rfl) (by kernel_rfl) (by kernel_rfl) ?qu34x8 (Or.inl ⟨by rfl, ?yu34x8⟩) (by assumption) ?ru34x8
            case qu34x8 => exact fun _ _ _ h => h
            case yu34x8 => (intro wz hSw; go_simp; try (with_reducible rfl))
            simp only [Act.put, List.setIfInBounds_toArray, List.set_cons_zero, List.set_cons_succ]
            refine' wpAnyH_take (i := 9) (v := _) (by rw [List.getElem?_toArray]; rfl) (by kernel_rfl) (by kernel_rfl) (by kernel_rfl) ?qu35x9 (yieldsIf_load_mid (by rfl) _ _ rfl _ _ rfl [.bool k, .int .i64 (dg z 0), .int .i64 (dg z 1), .int .i64 (dg z 2), .int .i64 (dg z 3), .int .i64 (dg z 4), .int .i64 (dg z 5), .int .i64 (dg z 6), .int .i64 (dg z 7), .int .i64 (dg z 8)] _ ?hSu35x9 ?huu35x9 ?hdu35x9 ?hiu35x9) (by assumption) ?restu35x9
            case qu35x9 => exact fun _ _ _ h => h
            case hSu35x9 => exact fun wz hSw => sg_whole hSw.1
            case huu35x9 => exact Try.underlying28
            case hdu35x9 => rfl
            case hiu35x9 => exact info28
            simp only [Act.put, List.setIfInBounds_toArray, List.set_cons_zero, List.set_cons_succ]
            refine wpAnyH_take (i := 10) (v := ?vu36x10) (by rw [List.getElem?_toArray]; rfl) (by kernel_rfl) (by kernel_rfl) (by kernel_rfl) ?qu36x10 (Or.inl ⟨by rfl, ?yu36x10⟩) (by assumption) ?ru36x10
            case qu36x10 => exact fun _ _ _ h => h
            case yu36x10 => (intro wz hSw; go_simp; try (with_reducible rfl))
            simp only [Act.put, List.setIfInBounds_toArray, List.set_cons_zero, List.set_cons_succ]
            refine wpAnyH_ready (rs := [11]) (by kernel_rfl) (by simp) ?_
            refine AllReadyH.cons (by rw [List.getElem?_toArray]; rfl) (fun K hK => ?_) AllReadyH.nil
            have hHid := Lib.hid hHeld
            clear hHeld
            go_simp
            go_at_call 14; refine (J5.out _).mono ?_; rintro e vu37 ⟨rfl, hb⟩
            have hNew := pr_more hb hHid.out
            clear hb hHid
            have hNewH := Lib.hid hNew
            clear hNew
            go_wp2_with fail
            refine hK.out _ _ hNewH.out (fun hHeld => ?_)
            clear hK K hNewH
            refine wpAnyH_ready (rs := [12]) (by kernel_rfl) (by simp) ?_
            refine AllReadyH.cons (by rw [List.getElem?_toArray]; rfl) (fun K hK => ?_) AllReadyH.nil
            have hHid := Lib.hid hHeld
            clear hHeld
            go_simp
            go_at_call 21; refine (J11.out _).mono ?_; rintro e vu38 ⟨rfl, hb⟩
            have hNew := pr_more hb hHid.out
            clear hb hHid
            have hNewH := Lib.hid hNew
            clear hNew
            go_wp2_with fail
            refine hK.out _ _ hNewH.out (fun hHeld => ?_)
            clear hK K hNewH
            refine wpAnyH_take (i := 13) (v := ?vu39x13) (by rw [List.getElem?_toArray]; rfl) (by kernel_rfl) (by kernel_rfl) (by kernel_rfl) ?qu39x13 (Or.inl ⟨by rfl, ?yu39x13⟩) (by assumption) ?ru39x13
            case qu39x13 => exact fun _ _ _ h => h
            case yu39x13 => (intro wz hSw; go_simp; try (with_reducible rfl))
            simp only [Act.put, List.setIfInBounds_toArray, List.set_cons_zero, List.set_cons_succ]
            refine wpAnyH_take (i := 14) (v := ?vu40x14) (by rw [List.getElem?_toArray]; rfl) (by kernel_rfl) (by kernel_rfl) (by kernel_rfl) ?qu40x14 (Or.inl ⟨by rfl, ?yu40x14⟩) (by assumption) ?ru40x14
            case qu40x14 => exact fun _ _ _ h => h
            case yu40x14 => (intro wz hSw; go_simp; try (with_reducible rfl))
            simp only [Act.put, List.setIfInBounds_toArray, List.set_cons_zero, List.set_cons_succ]
            refine wpAnyH_take (i := 15) (v := ?vu41x15) (by rw [List.getElem?_toArray]; rfl) (by kernel_rfl) (by kernel_rfl) (by kernel_rfl) ?qu41x15 (Or.inl ⟨by rfl, ?yu41x15⟩) (by assumption) ?ru41x15
            case qu41x15 => exact fun _ _ _ h => h
            case yu41x15 => (intro wz hSw; go_simp; try (with_reducible rfl))
            simp only [Act.put, List.setIfInBounds_toArray, List.set_cons_zero, List.set_cons_succ]
            refine wpAnyH_done (by kernel_rfl) ?_ _
            go_wp2
            go_ret
            exact ⟨rfl, hHeld.2⟩
        · have hHid := Lib.hid hHeld
          clear hHeld
          go_simp
          refine hK.out _ _ (pr_alloc hHid.out _) (fun hHeld => ?_)
          clear hK K
          have PA := Lib.hid (heap_alloc_new vu6 (.cells #[.bool false, .int .i64 0, .int .i64 0, .int .i64 0, .int .i64 0, .int .i64 0, .int .i64 0, .int .i64 0, .int .i64 0, .int .i64 0] 28))
          have GA0 := pr_far hHid.out
          have GA : Hid (g0 ≠ vu6.heap.size ∧ w.heap.size ≤ vu6.heap.size) := GA0
          clear hHid GA0
          refine wpAnyH_ready (rs := [6]) (by kernel_rfl) (by simp) ?_
          refine AllReadyH.cons (by rw [List.getElem?_toArray]; rfl) (fun K hK => ?_) AllReadyH.nil
          have hHid := Lib.hid hHeld
          clear hHeld
          go_simp
          go_at_call 18; refine (J7.out _).mono ?_; rintro e vu42 ⟨rfl, hb⟩
          have hNew := pr_more hb hHid.out
          have PAx := Lib.hid ((hb.block _ (lt_heap PA.out)).trans PA.out)
          clear PA
          have PA := PAx
          clear PAx
          clear hb hHid
          have hNewH := Lib.hid hNew
          clear hNew
          go_wp2_with fail
          refine hK.out _ _ hNewH.out (fun hHeld => ?_)
          clear hK K hNewH
          refine wpAnyH_ready (rs := [7]) (by kernel_rfl) (by simp) ?_
          refine AllReadyH.cons (by rw [List.getElem?_toArray]; rfl) (fun K hK => ?_) AllReadyH.nil
          have hHid := Lib.hid hHeld
          clear hHeld
          go_simp
          go_at_call 17; refine (J8.out _).mono ?_; rintro e vu43 ⟨rfl, hb⟩
          have hNew := pr_more hb hHid.out
          have PAx := Lib.hid ((hb.block _ (lt_heap PA.out)).trans PA.out)
          clear PA
          have PA := PAx
          clear PAx
          clear hb hHid
          have hNewH := Lib.hid hNew
          clear hNew
          go_wp2_with fail
          refine hK.out _ _ hNewH.out (fun hHeld => ?_)
          clear hK K hNewH
          refine wpAnyH_ready (rs := [9]) (by kernel_rfl) (by simp) ?_
          refine AllReadyH.cons (by rw [List.getElem?_toArray]; rfl) (fun K hK => ?_) AllReadyH.nil
          obtain ⟨c0, c1, c2, c3, c4, c5, c6, c7, c8, c9, ff⟩ := zcells PA.out
          have hHid := Lib.hid hHeld
          clear hHeld
          go_simp
          refine hK.out _ _ (pr_store hHid.out PA.out GA.out.1 GA.out.2 _ _ _ _ _ _ _ _ _ _) (fun hHeld => ?_)
          clear hK K c0 c1 c2 c3 c4 c5 c6 c7 c8 c9 ff
          have T := Lib.hid (pr_fin (k := k) (z := z) PA.out hHid.out.2 GA.out.2)
          refine wpAnyH_done (by kernel_rfl) ?_ _
          clear hHeld PA GA hHid
          go_wp2
          refine wp_region_held_drew (S := fun w' => w'.heap[vu6.heap.size]? = some (.cells #[.bool k, .int .i64 (dg z 0), .int .i64 (dg z 1), .int .i64 (dg z 2), .int .i64 (dg z 3), .int .i64 (dg z 4), .int .i64 (dg z 5), .int .i64 (dg z 6), .int .i64 (dg z 7), .int .i64 (dg z 8)] 28 (0, 0)) ∧ Below w.heap.size w w') (by kernel_rfl) (pr_drew T.out) (fun hHeld => ?_)
          clear T
          refine wpAnyH_take (i := 0) (v := ?vu44x0) (by rw [List.getElem?_toArray]; rfl) (by kernel_rfl) (by kernel_rfl) (by kernel_rfl) ?qu44x0 (Or.inl ⟨by rfl, ?yu44x0⟩) (by assumption) ?ru44x0
          case qu44x0 => exact fun _ _ _ h => h
          case yu44x0 => (intro wz hSw; go_simp; try (with_reducible rfl))
          simp only [Act.put, List.setIfInBounds_toArray, List.set_cons_zero, List.set_cons_succ]
          refine wpAnyH_take (i := 1) (v := ?vu45x1) (by rw [List.getElem?_toArray]; rfl) (by kernel_rfl) (by kernel_rfl) (by kernel_rfl) ?qu45x1 (Or.inl ⟨by rfl, ?yu45x1⟩) (by assumption) ?ru45x1
          case qu45x1 => exact fun _ _ _ h => h
          case yu45x1 => (intro wz hSw; go_simp; try (with_reducible rfl))
          simp only [Act.put, List.setIfInBounds_toArray, List.set_cons_zero, List.set_cons_succ]
          refine wpAnyH_take (i := 2) (v := ?vu46x2) (by rw [List.getElem?_toArray]; rfl) (by kernel_rfl) (by kernel_rfl) (by kernel_rfl) ?qu46x2 (Or.inl ⟨by rfl, ?yu46x2⟩) (by assumption) ?ru46x2
          case qu46x2 => exact fun _ _ _ h => h
          case yu46x2 => (intro wz hSw; go_simp; try (with_reducible rfl))
          simp only [Act.put, List.setIfInBounds_toArray, List.set_cons_zero, List.set_cons_succ]
          refine' wpAnyH_take (i := 3) (v := _) (by rw [List.getElem?_toArray]; rfl) (by kernel_rfl) (by kernel_rfl) (by kernel_rfl) ?qu47x3 (yieldsIf_load_mid (by rfl) _ _ rfl _ _ rfl [.bool k, .int .i64 (dg z 0), .int .i64 (dg z 1), .int .i64 (dg z 2), .int .i64 (dg z 3), .int .i64 (dg z 4), .int .i64 (dg z 5), .int .i64 (dg z 6), .int .i64 (dg z 7), .int .i64 (dg z 8)] _ ?hSu47x3 ?huu47x3 ?hdu47x3 ?hiu47x3) (by assumption) ?restu47x3
          case qu47x3 => exact fun _ _ _ h => h
          case hSu47x3 => exact fun wz hSw => sg_whole hSw.1
          case huu47x3 => exact Try.underlying28
          case hdu47x3 => rfl
          case hiu47x3 => exact info28
          simp only [Act.put, List.setIfInBounds_toArray, List.set_cons_zero, List.set_cons_succ]
          refine wpAnyH_ready (rs := [4]) (by kernel_rfl) (by simp) ?_
          refine AllReadyH.cons (by rw [List.getElem?_toArray]; rfl) (fun K hK => ?_) AllReadyH.nil
          have hHid := Lib.hid hHeld
          clear hHeld
          go_simp
          go_at_call 14; refine (J9.out _).mono ?_; rintro e vu48 ⟨rfl, hb⟩
          have hNew := pr_more hb hHid.out
          clear hb hHid
          have hNewH := Lib.hid hNew
          clear hNew
          go_wp2_with fail
          refine hK.out _ _ hNewH.out (fun hHeld => ?_)
          clear hK K hNewH
          refine wpAnyH_ready (rs := [5]) (by kernel_rfl) (by simp) ?_
          refine AllReadyH.cons (by rw [List.getElem?_toArray]; rfl) (fun K hK => ?_) AllReadyH.nil
          have hHid := Lib.hid hHeld
          clear hHeld
          go_simp
          go_at_call 21; refine (J10.out _).mono ?_; rintro e vu49 ⟨rfl, hb⟩
          have hNew := pr_more hb hHid.out
          clear hb hHid
          have hNewH := Lib.hid hNew
          clear hNew
          go_wp2_with fail
          refine hK.out _ _ hNewH.out (fun hHeld => ?_)
          clear hK K hNewH
          refine wpAnyH_take (i := 6) (v := ?vu50x6) (by rw [List.getElem?_toArray]; rfl) (by kernel_rfl) (by kernel_rfl) (by kernel_rfl) ?qu50x6 (Or.inl ⟨by rfl, ?yu50x6⟩) (by assumption) ?ru50x6
          case qu50x6 => exact fun _ _ _ h => h
          case yu50x6 => (intro wz hSw; go_simp; try (with_reducible rfl))
          simp only [Act.put, List.setIfInBounds_toArray, List.set_cons_zero, List.set_cons_succ]
          refine wpAnyH_take (i := 7) (v := ?vu51x7) (by rw [List.getElem?_toArray]; rfl) (by kernel_rfl) (by kernel_rfl) (by kernel_rfl) ?qu51x7 (Or.inl ⟨by rfl, ?yu51x7⟩) (by assumption) ?ru51x7
          case qu51x7 => exact fun _ _ _ h => h
          case yu51x7 => (intro wz hSw; go_simp; try (with_reducible rfl))
          simp only [Act.put, List.setIfInBounds_toArray, List.set_cons_zero, List.set_cons_succ]
          refine wpAnyH_take (i := 8) (v := ?vu52x8) (by rw [List.getElem?_toArray]; rfl) (by kernel_rfl) (by kernel_rfl) (by kernel_rfl) ?qu52x8 (Or.inl ⟨by rfl, ?yu52x8⟩) (by assumption) ?ru52x8
          case qu52x8 => exact fun _ _ _ h => h
          case yu52x8 => (intro wz hSw; go_simp; try (with_reducible rfl))
          simp only [Act.put, List.setIfInBounds_toArray, List.set_cons_zero, List.set_cons_succ]
          refine' wpAnyH_take (i := 9) (v := _) (by rw [List.getElem?_toArray]; rfl) (by kernel_rfl) (by kernel_rfl) (by kernel_rfl) ?qu53x9 (yieldsIf_load_mid (by rfl) _ _ rfl _ _ rfl [.bool k, .int .i64 (dg z 0), .int .i64 (dg z 1), .int .i64 (dg z 2), .int .i64 (dg z 3), .int .i64 (dg z 4), .int .i64 (dg z 5), .int .i64 (dg z 6), .int .i64 (dg z 7), .int .i64 (dg z 8)] _ ?hSu53x9 ?huu53x9 ?hdu53x9 ?hiu53x9) (by assumption) ?restu53x9
          case qu53x9 => exact fun _ _ _ h => h
          case hSu53x9 => exact fun wz hSw => sg_whole hSw.1
          case huu53x9 => exact Try.underlying28
          case hdu53x9 => rfl
          case hiu53x9 => exact info28
          simp only [Act.put, List.setIfInBounds_toArray, List.set_cons_zero, List.set_cons_succ]
          refine wpAnyH_take (i := 10) (v := ?vu54x10) (by rw [List.getElem?_toArray]; rfl) (by kernel_rfl) (by kernel_rfl) (by kernel_rfl) ?qu54x10 (Or.inl ⟨by rfl, ?yu54x10⟩) (by assumption) ?ru54x10
          case qu54x10 => exact fun _ _ _ h => h
          case yu54x10 => (intro wz hSw; go_simp; try (with_reducible rfl))
          simp only [Act.put, List.setIfInBounds_toArray, List.set_cons_zero, List.set_cons_succ]
          refine wpAnyH_ready (rs := [11]) (by kernel_rfl) (by simp) ?_
          refine AllReadyH.cons (by rw [List.getElem?_toArray]; rfl) (fun K hK => ?_) AllReadyH.nil
          have hHid := Lib.hid hHeld
          clear hHeld
          go_simp
          go_at_call 14; refine (J5.out _).mono ?_; rintro e vu55 ⟨rfl, hb⟩
          have hNew := pr_more hb hHid.out
          clear hb hHid
          have hNewH := Lib.hid hNew
          clear hNew
          go_wp2_with fail
          refine hK.out _ _ hNewH.out (fun hHeld => ?_)
          clear hK K hNewH
          refine wpAnyH_ready (rs := [12]) (by kernel_rfl) (by simp) ?_
          refine AllReadyH.cons (by rw [List.getElem?_toArray]; rfl) (fun K hK => ?_) AllReadyH.nil
          have hHid := Lib.hid hHeld
          clear hHeld
          go_simp
          go_at_call 21; refine (J11.out _).mono ?_; rintro e vu56 ⟨rfl, hb⟩
          have hNew := pr_more hb hHid.out
          clear hb hHid
          have hNewH := Lib.hid hNew
          clear hNew
          go_wp2_with fail
          refine hK.out _ _ hNewH.out (fun hHeld => ?_)
          clear hK K hNewH
          refine wpAnyH_take (i := 13) (v := ?vu57x13) (by rw [List.getElem?_toArray]; rfl) (by kernel_rfl) (by kernel_rfl) (by kernel_rfl) ?qu57x13 (Or.inl ⟨by rfl, ?yu57x13⟩) (by assumption) ?ru57x13
          case qu57x13 => exact fun _ _ _ h => h
          case yu57x13 => (intro wz hSw; go_simp; try (with_reducible rfl))
          simp only [Act.put, List.setIfInBounds_toArray, List.set_cons_zero, List.set_cons_succ]
          refine wpAnyH_take (i := 14) (v := ?vu58x14) (by rw [List.getElem?_toArray]; rfl) (by kernel_rfl) (by kernel_rfl) (by kernel_rfl) ?qu58x14 (Or.inl ⟨by rfl, ?yu58x14⟩) (by assumption) ?ru58x14
          case qu58x14 => exact fun _ _ _ h => h
          case yu58x14 => (intro wz hSw; go_simp; try (with_reducible rfl))
          simp only [Act.put, List.setIfInBounds_toArray, List.set_cons_zero, List.set_cons_succ]
          refine wpAnyH_take (i := 15) (v := ?vu59x15) (by rw [List.getElem?_toArray]; rfl) (by kernel_rfl) (by kernel_rfl) (by kernel_rfl) ?qu59x15 (Or.inl ⟨by rfl, ?yu59x15⟩) (by assumption) ?ru59x15
          case qu59x15 => exact fun _ _ _ h => h
          case yu59x15 => (intro wz hSw; go_simp; try (with_reducible rfl))
          simp only [Act.put, List.setIfInBounds_toArray, List.set_cons_zero, List.set_cons_succ]
          refine wpAnyH_done (by kernel_rfl) ?_ _
          go_wp2
          go_ret
          exact ⟨rfl, hHeld.2⟩
      · have hHid := Lib.hid hHeld
        clear hHeld
        go_simp
        refine hK.out _ _ (pr_alloc hHid.out _) (fun hHeld => ?_)
        clear hK K
        have PA := Lib.hid (heap_alloc_new vu5 (.cells #[.bool false, .int .i64 0, .int .i64 0, .int .i64 0, .int .i64 0, .int .i64 0, .int .i64 0, .int .i64 0, .int .i64 0, .int .i64 0] 28))
        have GA0 := pr_far hHid.out
        have GA : Hid (g0 ≠ vu5.heap.size ∧ w.heap.size ≤ vu5.heap.size) := GA0
        clear hHid GA0
        refine wpAnyH_ready (rs := [5]) (by kernel_rfl) (by simp) ?_
        refine AllReadyH.cons (by rw [List.getElem?_toArray]; rfl) (fun K hK => ?_) AllReadyH.nil
        have hHid := Lib.hid hHeld
        clear hHeld
        go_simp
        go_at_call 19; refine (J6.out _).mono ?_; rintro e vu60 ⟨rfl, hb⟩
        have hNew := pr_more hb hHid.out
        have PAx := Lib.hid ((hb.block _ (lt_heap PA.out)).trans PA.out)
        clear PA
        have PA := PAx
        clear PAx
        clear hb hHid
        have hNewH := Lib.hid hNew
        clear hNew
        go_wp2_with fail
        refine hK.out _ _ hNewH.out (fun hHeld => ?_)
        clear hK K hNewH
        refine wpAnyH_ready (rs := [6]) (by kernel_rfl) (by simp) ?_
        refine AllReadyH.cons (by rw [List.getElem?_toArray]; rfl) (fun K hK => ?_) AllReadyH.nil
        have hHid := Lib.hid hHeld
        clear hHeld
        go_simp
        go_at_call 18; refine (J7.out _).mono ?_; rintro e vu61 ⟨rfl, hb⟩
        have hNew := pr_more hb hHid.out
        have PAx := Lib.hid ((hb.block _ (lt_heap PA.out)).trans PA.out)
        clear PA
        have PA := PAx
        clear PAx
        clear hb hHid
        have hNewH := Lib.hid hNew
        clear hNew
        go_wp2_with fail
        refine hK.out _ _ hNewH.out (fun hHeld => ?_)
        clear hK K hNewH
        refine wpAnyH_ready (rs := [7]) (by kernel_rfl) (by simp) ?_
        refine AllReadyH.cons (by rw [List.getElem?_toArray]; rfl) (fun K hK => ?_) AllReadyH.nil
        have hHid := Lib.hid hHeld
        clear hHeld
        go_simp
        go_at_call 17; refine (J8.out _).mono ?_; rintro e vu62 ⟨rfl, hb⟩
        have hNew := pr_more hb hHid.out
        have PAx := Lib.hid ((hb.block _ (lt_heap PA.out)).trans PA.out)
        clear PA
        have PA := PAx
        clear PAx
        clear hb hHid
        have hNewH := Lib.hid hNew
        clear hNew
        go_wp2_with fail
        refine hK.out _ _ hNewH.out (fun hHeld => ?_)
        clear hK K hNewH
        refine wpAnyH_ready (rs := [9]) (by kernel_rfl) (by simp) ?_
        refine AllReadyH.cons (by rw [List.getElem?_toArray]; rfl) (fun K hK => ?_) AllReadyH.nil
        obtain ⟨c0, c1, c2, c3, c4, c5, c6, c7, c8, c9, ff⟩ := zcells PA.out
        have hHid := Lib.hid hHeld
        clear hHeld
        go_simp
        refine hK.out _ _ (pr_store hHid.out PA.out GA.out.1 GA.out.2 _ _ _ _ _ _ _ _ _ _) (fun hHeld => ?_)
        clear hK K c0 c1 c2 c3 c4 c5 c6 c7 c8 c9 ff
        have T := Lib.hid (pr_fin (k := k) (z := z) PA.out hHid.out.2 GA.out.2)
        refine wpAnyH_done (by kernel_rfl) ?_ _
        clear hHeld PA GA hHid
        go_wp2
        refine wp_region_held_drew (S := fun w' => w'.heap[vu5.heap.size]? = some (.cells #[.bool k, .int .i64 (dg z 0), .int .i64 (dg z 1), .int .i64 (dg z 2), .int .i64 (dg z 3), .int .i64 (dg z 4), .int .i64 (dg z 5), .int .i64 (dg z 6), .int .i64 (dg z 7), .int .i64 (dg z 8)] 28 (0, 0)) ∧ Below w.heap.size w w') (by kernel_rfl) (pr_drew T.out) (fun hHeld => ?_)
        clear T
        refine wpAnyH_take (i := 0) (v := ?vu63x0) (by rw [List.getElem?_toArray]; rfl) (by kernel_rfl) (by kernel_rfl) (by kernel_rfl) ?qu63x0 (Or.inl ⟨by rfl, ?yu63x0⟩) (by assumption) ?ru63x0
        case qu63x0 => exact fun _ _ _ h => h
        case yu63x0 => (intro wz hSw; go_simp; try (with_reducible rfl))
        simp only [Act.put, List.setIfInBounds_toArray, List.set_cons_zero, List.set_cons_succ]
        refine wpAnyH_take (i := 1) (v := ?vu64x1) (by rw [List.getElem?_toArray]; rfl) (by kernel_rfl) (by kernel_rfl) (by kernel_rfl) ?qu64x1 (Or.inl ⟨by rfl, ?yu64x1⟩) (by assumption) ?ru64x1
        case qu64x1 => exact fun _ _ _ h => h
        case yu64x1 => (intro wz hSw; go_simp; try (with_reducible rfl))
        simp only [Act.put, List.setIfInBounds_toArray, List.set_cons_zero, List.set_cons_succ]
        refine wpAnyH_take (i := 2) (v := ?vu65x2) (by rw [List.getElem?_toArray]; rfl) (by kernel_rfl) (by kernel_rfl) (by kernel_rfl) ?qu65x2 (Or.inl ⟨by rfl, ?yu65x2⟩) (by assumption) ?ru65x2
        case qu65x2 => exact fun _ _ _ h => h
        case yu65x2 => (intro wz hSw; go_simp; try (with_reducible rfl))
        simp only [Act.put, List.setIfInBounds_toArray, List.set_cons_zero, List.set_cons_succ]
        refine' wpAnyH_take (i := 3) (v := _) (by rw [List.getElem?_toArray]; rfl) (by kernel_rfl) (by kernel_rfl) (by kernel_rfl) ?qu66x3 (yieldsIf_load_mid (by rfl) _ _ rfl _ _ rfl [.bool k, .int .i64 (dg z 0), .int .i64 (dg z 1), .int .i64 (dg z 2), .int .i64 (dg z 3), .int .i64 (dg z 4), .int .i64 (dg z 5), .int .i64 (dg z 6), .int .i64 (dg z 7), .int .i64 (dg z 8)] _ ?hSu66x3 ?huu66x3 ?hdu66x3 ?hiu66x3) (by assumption) ?restu66x3
        case qu66x3 => exact fun _ _ _ h => h
        case hSu66x3 => exact fun wz hSw => sg_whole hSw.1
        case huu66x3 => exact Try.underlying28
        case hdu66x3 => rfl
        case hiu66x3 => exact info28
        simp only [Act.put, List.setIfInBounds_toArray, List.set_cons_zero, List.set_cons_succ]
        refine wpAnyH_ready (rs := [4]) (by kernel_rfl) (by simp) ?_
        refine AllReadyH.cons (by rw [List.getElem?_toArray]; rfl) (fun K hK => ?_) AllReadyH.nil
        have hHid := Lib.hid hHeld
        clear hHeld
        go_simp
        go_at_call 14; refine (J9.out _).mono ?_; rintro e vu67 ⟨rfl, hb⟩
        have hNew := pr_more hb hHid.out
        clear hb hHid
        have hNewH := Lib.hid hNew
        clear hNew
        go_wp2_with fail
        refine hK.out _ _ hNewH.out (fun hHeld => ?_)
        clear hK K hNewH
        refine wpAnyH_ready (rs := [5]) (by kernel_rfl) (by simp) ?_
        refine AllReadyH.cons (by rw [List.getElem?_toArray]; rfl) (fun K hK => ?_) AllReadyH.nil
        have hHid := Lib.hid hHeld
        clear hHeld
        go_simp
        go_at_call 21; refine (J10.out _).mono ?_; rintro e vu68 ⟨rfl, hb⟩
        have hNew := pr_more hb hHid.out
        clear hb hHid
        have hNewH := Lib.hid hNew
        clear hNew
        go_wp2_with fail
        refine hK.out _ _ hNewH.out (fun hHeld => ?_)
        clear hK K hNewH
        refine wpAnyH_take (i := 6) (v := ?vu69x6) (by rw [List.getElem?_toArray]; rfl) (by kernel_rfl) (by kernel_rfl) (by kernel_rfl) ?qu69x6 (Or.inl ⟨by rfl, ?yu69x6⟩) (by assumption) ?ru69x6
        case qu69x6 => exact fun _ _ _ h => h
        case yu69x6 => (intro wz hSw; go_simp; try (with_reducible rfl))
        simp only [Act.put, List.setIfInBounds_toArray, List.set_cons_zero, List.set_cons_succ]
        refine wpAnyH_take (i := 7) (v := ?vu70x7) (by rw [List.getElem?_toArray]; rfl) (by kernel_rfl) (by kernel_rfl) (by kernel_rfl) ?qu70x7 (Or.inl ⟨by rfl, ?yu70x7⟩) (by assumption) ?ru70x7
        case qu70x7 => exact fun _ _ _ h => h
        case yu70x7 => (intro wz hSw; go_simp; try (with_reducible rfl))
        simp only [Act.put, List.setIfInBounds_toArray, List.set_cons_zero, List.set_cons_succ]
        refine wpAnyH_take (i := 8) (v := ?vu71x8) (by rw [List.getElem?_toArray]; rfl) (by kernel_rfl) (by kernel_rfl) (by kernel_rfl) ?qu71x8 (Or.inl ⟨by rfl, ?yu71x8⟩) (by assumption) ?ru71x8
        case qu71x8 => exact fun _ _ _ h => h
        case yu71x8 => (intro wz hSw; go_simp; try (with_reducible rfl))
        simp only [Act.put, List.setIfInBounds_toArray, List.set_cons_zero, List.set_cons_succ]
        refine' wpAnyH_take (i := 9) (v := _) (by rw [List.getElem?_toArray]; rfl) (by kernel_rfl) (by kernel_rfl) (by kernel_rfl) ?qu72x9 (yieldsIf_load_mid (by rfl) _ _ rfl _ _ rfl [.bool k, .int .i64 (dg z 0), .int .i64 (dg z 1), .int .i64 (dg z 2), .int .i64 (dg z 3), .int .i64 (dg z 4), .int .i64 (dg z 5), .int .i64 (dg z 6), .int .i64 (dg z 7), .int .i64 (dg z 8)] _ ?hSu72x9 ?huu72x9 ?hdu72x9 ?hiu72x9) (by assumption) ?restu72x9
        case qu72x9 => exact fun _ _ _ h => h
        case hSu72x9 => exact fun wz hSw => sg_whole hSw.1
        case huu72x9 => exact Try.underlying28
        case hdu72x9 => rfl
        case hiu72x9 => exact info28
        simp only [Act.put, List.setIfInBounds_toArray, List.set_cons_zero, List.set_cons_succ]
        refine wpAnyH_take (i := 10) (v := ?vu73x10) (by rw [List.getElem?_toArray]; rfl) (by kernel_rfl) (by kernel_rfl) (by kernel_rfl) ?qu73x10 (Or.inl ⟨by rfl, ?yu73x10⟩) (by assumption) ?ru73x10
        case qu73x10 => exact fun _ _ _ h => h
        case yu73x10 => (intro wz hSw; go_simp; try (with_reducible rfl))
        simp only [Act.put, List.setIfInBounds_toArray, List.set_cons_zero, List.set_cons_succ]
        refine wpAnyH_ready (rs := [11]) (by kernel_rfl) (by simp) ?_
        refine AllReadyH.cons (by rw [List.getElem?_toArray]; rfl) (fun K hK => ?_) AllReadyH.nil
        have hHid := Lib.hid hHeld
        clear hHeld
        go_simp
        go_at_call 14; refine (J5.out _).mono ?_; rintro e vu74 ⟨rfl, hb⟩
        have hNew := pr_more hb hHid.out
        clear hb hHid
        have hNewH := Lib.hid hNew
        clear hNew
        go_wp2_with fail
        refine hK.out _ _ hNewH.out (fun hHeld => ?_)
        clear hK K hNewH
        refine wpAnyH_ready (rs := [12]) (by kernel_rfl) (by simp) ?_
        refine AllReadyH.cons (by rw [List.getElem?_toArray]; rfl) (fun K hK => ?_) AllReadyH.nil
        have hHid := Lib.hid hHeld
        clear hHeld
        go_simp
        go_at_call 21; refine (J11.out _).mono ?_; rintro e vu75 ⟨rfl, hb⟩
        have hNew := pr_more hb hHid.out
        clear hb hHid
        have hNewH := Lib.hid hNew
        clear hNew
        go_wp2_with fail
        refine hK.out _ _ hNewH.out (fun hHeld => ?_)
        clear hK K hNewH
        refine wpAnyH_take (i := 13) (v := ?vu76x13) (by rw [List.getElem?_toArray]; rfl) (by kernel_rfl) (by kernel_rfl) (by kernel_rfl) ?qu76x13 (Or.inl ⟨by rfl, ?yu76x13⟩) (by assumption) ?ru76x13
        case qu76x13 => exact fun _ _ _ h => h
        case yu76x13 => (intro wz hSw; go_simp; try (with_reducible rfl))
        simp only [Act.put, List.setIfInBounds_toArray, List.set_cons_zero, List.set_cons_succ]
        refine wpAnyH_take (i := 14) (v := ?vu77x14) (by rw [List.getElem?_toArray]; rfl) (by kernel_rfl) (by kernel_rfl) (by kernel_rfl) ?qu77x14 (Or.inl ⟨by rfl, ?yu77x14⟩) (by assumption) ?ru77x14
        case qu77x14 => exact fun _ _ _ h => h
        case yu77x14 => (intro wz hSw; go_simp; try (with_reducible rfl))
        simp only [Act.put, List.setIfInBounds_toArray, List.set_cons_zero, List.set_cons_succ]
        refine wpAnyH_take (i := 15) (v := ?vu78x15) (by rw [List.getElem?_toArray]; rfl) (by kernel_rfl) (by kernel_rfl) (by kernel_rfl) ?qu78x15 (Or.inl ⟨by rfl, ?yu78x15⟩) (by assumption) ?ru78x15
        case qu78x15 => exact fun _ _ _ h => h
        case yu78x15 => (intro wz hSw; go_simp; try (with_reducible rfl))
        simp only [Act.put, List.setIfInBounds_toArray, List.set_cons_zero, List.set_cons_succ]
        refine wpAnyH_done (by kernel_rfl) ?_ _
        go_wp2
        go_ret
        exact ⟨rfl, hHeld.2⟩
    · have hHid := Lib.hid hHeld
      clear hHeld
      go_simp
      refine hK.out _ _ (pr_alloc hHid.out _) (fun hHeld => ?_)
      clear hK K
      have PA := Lib.hid (heap_alloc_new vu4 (.cells #[.bool false, .int .i64 0, .int .i64 0, .int .i64 0, .int .i64 0, .int .i64 0, .int .i64 0, .int .i64 0, .int .i64 0, .int .i64 0] 28))
      have GA0 := pr_far hHid.out
      have GA : Hid (g0 ≠ vu4.heap.size ∧ w.heap.size ≤ vu4.heap.size) := GA0
      clear hHid GA0
      refine wpAnyH_ready (rs := [4]) (by kernel_rfl) (by simp) ?_
      refine AllReadyH.cons (by rw [List.getElem?_toArray]; rfl) (fun K hK => ?_) AllReadyH.nil
      have hHid := Lib.hid hHeld
      clear hHeld
      go_simp
      go_at_call 14; refine (J5.out _).mono ?_; rintro e vu79 ⟨rfl, hb⟩
      have hNew := pr_more hb hHid.out
      have PAx := Lib.hid ((hb.block _ (lt_heap PA.out)).trans PA.out)
      clear PA
      have PA := PAx
      clear PAx
      clear hb hHid
      have hNewH := Lib.hid hNew
      clear hNew
      go_wp2_with fail
      refine hK.out _ _ hNewH.out (fun hHeld => ?_)
      clear hK K hNewH
      refine wpAnyH_ready (rs := [5]) (by kernel_rfl) (by simp) ?_
      refine AllReadyH.cons (by rw [List.getElem?_toArray]; rfl) (fun K hK => ?_) AllReadyH.nil
      have hHid := Lib.hid hHeld
      clear hHeld
      go_simp
      go_at_call 19; refine (J6.out _).mono ?_; rintro e vu80 ⟨rfl, hb⟩
      have hNew := pr_more hb hHid.out
      have PAx := Lib.hid ((hb.block _ (lt_heap PA.out)).trans PA.out)
      clear PA
      have PA := PAx
      clear PAx
      clear hb hHid
      have hNewH := Lib.hid hNew
      clear hNew
      go_wp2_with fail
      refine hK.out _ _ hNewH.out (fun hHeld => ?_)
      clear hK K hNewH
      refine wpAnyH_ready (rs := [6]) (by kernel_rfl) (by simp) ?_
      refine AllReadyH.cons (by rw [List.getElem?_toArray]; rfl) (fun K hK => ?_) AllReadyH.nil
      have hHid := Lib.hid hHeld
      clear hHeld
      go_simp
      go_at_call 18; refine (J7.out _).mono ?_; rintro e vu81 ⟨rfl, hb⟩
      have hNew := pr_more hb hHid.out
      have PAx := Lib.hid ((hb.block _ (lt_heap PA.out)).trans PA.out)
      clear PA
      have PA := PAx
      clear PAx
      clear hb hHid
      have hNewH := Lib.hid hNew
      clear hNew
      go_wp2_with fail
      refine hK.out _ _ hNewH.out (fun hHeld => ?_)
      clear hK K hNewH
      refine wpAnyH_ready (rs := [7]) (by kernel_rfl) (by simp) ?_
      refine AllReadyH.cons (by rw [List.getElem?_toArray]; rfl) (fun K hK => ?_) AllReadyH.nil
      have hHid := Lib.hid hHeld
      clear hHeld
      go_simp
      go_at_call 17; refine (J8.out _).mono ?_; rintro e vu82 ⟨rfl, hb⟩
      have hNew := pr_more hb hHid.out
      have PAx := Lib.hid ((hb.block _ (lt_heap PA.out)).trans PA.out)
      clear PA
      have PA := PAx
      clear PAx
      clear hb hHid
      have hNewH := Lib.hid hNew
      clear hNew
      go_wp2_with fail
      refine hK.out _ _ hNewH.out (fun hHeld => ?_)
      clear hK K hNewH
      refine wpAnyH_ready (rs := [9]) (by kernel_rfl) (by simp) ?_
      refine AllReadyH.cons (by rw [List.getElem?_toArray]; rfl) (fun K hK => ?_) AllReadyH.nil
      obtain ⟨c0, c1, c2, c3, c4, c5, c6, c7, c8, c9, ff⟩ := zcells PA.out
      have hHid := Lib.hid hHeld
      clear hHeld
      go_simp
      refine hK.out _ _ (pr_store hHid.out PA.out GA.out.1 GA.out.2 _ _ _ _ _ _ _ _ _ _) (fun hHeld => ?_)
      clear hK K c0 c1 c2 c3 c4 c5 c6 c7 c8 c9 ff
      have T := Lib.hid (pr_fin (k := k) (z := z) PA.out hHid.out.2 GA.out.2)
      refine wpAnyH_done (by kernel_rfl) ?_ _
      clear hHeld PA GA hHid
      go_wp2
      refine wp_region_held_drew (S := fun w' => w'.heap[vu4.heap.size]? = some (.cells #[.bool k, .int .i64 (dg z 0), .int .i64 (dg z 1), .int .i64 (dg z 2), .int .i64 (dg z 3), .int .i64 (dg z 4), .int .i64 (dg z 5), .int .i64 (dg z 6), .int .i64 (dg z 7), .int .i64 (dg z 8)] 28 (0, 0)) ∧ Below w.heap.size w w') (by kernel_rfl) (pr_drew T.out) (fun hHeld => ?_)
      clear T
      refine wpAnyH_take (i := 0) (v := ?vu83x0) (by rw [List.getElem?_toArray]; rfl) (by kernel_rfl) (by kernel_rfl) (by kernel_rfl) ?qu83x0 (Or.inl ⟨by rfl, ?yu83x0⟩) (by assumption) ?ru83x0
      case qu83x0 => exact fun _ _ _ h => h
      case yu83x0 => (intro wz hSw; go_simp; try (with_reducible rfl))
      simp only [Act.put, List.setIfInBounds_toArray, List.set_cons_zero, List.set_cons_succ]
      refine wpAnyH_take (i := 1) (v := ?vu84x1) (by rw [List.getElem?_toArray]; rfl) (by kernel_rfl) (by kernel_rfl) (by kernel_rfl) ?qu84x1 (Or.inl ⟨by rfl, ?yu84x1⟩) (by assumption) ?ru84x1
      case qu84x1 => exact fun _ _ _ h => h
      case yu84x1 => (intro wz hSw; go_simp; try (with_reducible rfl))
      simp only [Act.put, List.setIfInBounds_toArray, List.set_cons_zero, List.set_cons_succ]
      refine wpAnyH_take (i := 2) (v := ?vu85x2) (by rw [List.getElem?_toArray]; rfl) (by kernel_rfl) (by kernel_rfl) (by kernel_rfl) ?qu85x2 (Or.inl ⟨by rfl, ?yu85x2⟩) (by assumption) ?ru85x2
      case qu85x2 => exact fun _ _ _ h => h
      case yu85x2 => (intro wz hSw; go_simp; try (with_reducible rfl))
      simp only [Act.put, List.setIfInBounds_toArray, List.set_cons_zero, List.set_cons_succ]
      refine' wpAnyH_take (i := 3) (v := _) (by rw [List.getElem?_toArray]; rfl) (by kernel_rfl) (by kernel_rfl) (by kernel_rfl) ?qu86x3 (yieldsIf_load_mid (by rfl) _ _ rfl _ _ rfl [.bool k, .int .i64 (dg z 0), .int .i64 (dg z 1), .int .i64 (dg z 2), .int .i64 (dg z 3), .int .i64 (dg z 4), .int .i64 (dg z 5), .int .i64 (dg z 6), .int .i64 (dg z 7), .int .i64 (dg z 8)] _ ?hSu86x3 ?huu86x3 ?hdu86x3 ?hiu86x3) (by assumption) ?restu86x3
      case qu86x3 => exact fun _ _ _ h => h
      case hSu86x3 => exact fun wz hSw => sg_whole hSw.1
      case huu86x3 => exact Try.underlying28
      case hdu86x3 => rfl
      case hiu86x3 => exact info28
      simp only [Act.put, List.setIfInBounds_toArray, List.set_cons_zero, List.set_cons_succ]
      refine wpAnyH_ready (rs := [4]) (by kernel_rfl) (by simp) ?_
      refine AllReadyH.cons (by rw [List.getElem?_toArray]; rfl) (fun K hK => ?_) AllReadyH.nil
      have hHid := Lib.hid hHeld
      clear hHeld
      go_simp
      go_at_call 14; refine (J9.out _).mono ?_; rintro e vu87 ⟨rfl, hb⟩
      have hNew := pr_more hb hHid.out
      clear hb hHid
      have hNewH := Lib.hid hNew
      clear hNew
      go_wp2_with fail
      refine hK.out _ _ hNewH.out (fun hHeld => ?_)
      clear hK K hNewH
      refine wpAnyH_ready (rs := [5]) (by kernel_rfl) (by simp) ?_
      refine AllReadyH.cons (by rw [List.getElem?_toArray]; rfl) (fun K hK => ?_) AllReadyH.nil
      have hHid := Lib.hid hHeld
      clear hHeld
      go_simp
      go_at_call 21; refine (J10.out _).mono ?_; rintro e vu88 ⟨rfl, hb⟩
      have hNew := pr_more hb hHid.out
      clear hb hHid
      have hNewH := Lib.hid hNew
      clear hNew
      go_wp2_with fail
      refine hK.out _ _ hNewH.out (fun hHeld => ?_)
      clear hK K hNewH
      refine wpAnyH_take (i := 6) (v := ?vu89x6) (by rw [List.getElem?_toArray]; rfl) (by kernel_rfl) (by kernel_rfl) (by kernel_rfl) ?qu89x6 (Or.inl ⟨by rfl, ?yu89x6⟩) (by assumption) ?ru89x6
      case qu89x6 => exact fun _ _ _ h => h
      case yu89x6 => (intro wz hSw; go_simp; try (with_reducible rfl))
      simp only [Act.put, List.setIfInBounds_toArray, List.set_cons_zero, List.set_cons_succ]
      refine wpAnyH_take (i := 7) (v := ?vu90x7) (by rw [List.getElem?_toArray]; rfl) (by kernel_rfl) (by kernel_rfl) (by kernel_rfl) ?qu90x7 (Or.inl ⟨by rfl, ?yu90x7⟩) (by assumption) ?ru90x7
      case qu90x7 => exact fun _ _ _ h => h
      case yu90x7 => (intro wz hSw; go_simp; try (with_reducible rfl))
      simp only [Act.put, List.setIfInBounds_toArray, List.set_cons_zero, List.set_cons_succ]
      refine wpAnyH_take (i := 8) (v := ?vu91x8) (by rw [List.getElem?_toArray]; rfl) (by kernel_rfl) (by kernel_rfl) (by kernel_rfl) ?qu91x8 (Or.inl ⟨by rfl, ?yu91x8⟩) (by assumption) ?ru91x8
      case qu91x8 => exact fun _ _ _ h => h
      case yu91x8 => (intro wz hSw; go_simp; try (with_reducible rfl))
      simp only [Act.put, List.setIfInBounds_toArray, List.set_cons_zero, List.set_cons_succ]
      refine' wpAnyH_take (i := 9) (v := _) (by rw [List.getElem?_toArray]; rfl) (by kernel_rfl) (by kernel_rfl) (by kernel_rfl) ?qu92x9 (yieldsIf_load_mid (by rfl) _ _ rfl _ _ rfl [.bool k, .int .i64 (dg z 0), .int .i64 (dg z 1), .int .i64 (dg z 2), .int .i64 (dg z 3), .int .i64 (dg z 4), .int .i64 (dg z 5), .int .i64 (dg z 6), .int .i64 (dg z 7), .int .i64 (dg z 8)] _ ?hSu92x9 ?huu92x9 ?hdu92x9 ?hiu92x9) (by assumption) ?restu92x9
      case qu92x9 => exact fun _ _ _ h => h
      case hSu92x9 => exact fun wz hSw => sg_whole hSw.1
      case huu92x9 => exact Try.underlying28
      case hdu92x9 => rfl
      case hiu92x9 => exact info28
      simp only [Act.put, List.setIfInBounds_toArray, List.set_cons_zero, List.set_cons_succ]
      refine wpAnyH_take (i := 10) (v := ?vu93x10) (by rw [List.getElem?_toArray]; rfl) (by kernel_rfl) (by kernel_rfl) (by kernel_rfl) ?qu93x10 (Or.inl ⟨by rfl, ?yu93x10⟩) (by assumption) ?ru93x10
      case qu93x10 => exact fun _ _ _ h => h
      case yu93x10 => (intro wz hSw; go_simp; try (with_reducible rfl))
      simp only [Act.put, List.setIfInBounds_toArray, List.set_cons_zero, List.set_cons_succ]
      refine wpAnyH_ready (rs := [11]) (by kernel_rfl) (by simp) ?_
      refine AllReadyH.cons (by rw [List.getElem?_toArray]; rfl) (fun K hK => ?_) AllReadyH.nil
      have hHid := Lib.hid hHeld
      clear hHeld
      go_simp
      go_at_call 14; refine (J5.out _).mono ?_; rintro e vu94 ⟨rfl, hb⟩
      have hNew := pr_more hb hHid.out
      clear hb hHid
      have hNewH := Lib.hid hNew
      clear hNew
      go_wp2_with fail
      refine hK.out _ _ hNewH.out (fun hHeld => ?_)
      clear hK K hNewH
      refine wpAnyH_ready (rs := [12]) (by kernel_rfl) (by simp) ?_
      refine AllReadyH.cons (by rw [List.getElem?_toArray]; rfl) (fun K hK => ?_) AllReadyH.nil
      have hHid := Lib.hid hHeld
      clear hHeld
      go_simp
      go_at_call 21; refine (J11.out _).mono ?_; rintro e vu95 ⟨rfl, hb⟩
      have hNew := pr_more hb hHid.out
      clear hb hHid
      have hNewH := Lib.hid hNew
      clear hNew
      go_wp2_with fail
      refine hK.out _ _ hNewH.out (fun hHeld => ?_)
      clear hK K hNewH
      refine wpAnyH_take (i := 13) (v := ?vu96x13) (by rw [List.getElem?_toArray]; rfl) (by kernel_rfl) (by kernel_rfl) (by kernel_rfl) ?qu96x13 (Or.inl ⟨by rfl, ?yu96x13⟩) (by assumption) ?ru96x13
      case qu96x13 => exact fun _ _ _ h => h
      case yu96x13 => (intro wz hSw; go_simp; try (with_reducible rfl))
      simp only [Act.put, List.setIfInBounds_toArray, List.set_cons_zero, List.set_cons_succ]
      refine wpAnyH_take (i := 14) (v := ?vu97x14) (by rw [List.getElem?_toArray]; rfl) (by kernel_rfl) (by kernel_rfl) (by kernel_rfl) ?qu97x14 (Or.inl ⟨by rfl, ?yu97x14⟩) (by assumption) ?ru97x14
      case qu97x14 => exact fun _ _ _ h => h
      case yu97x14 => (intro wz hSw; go_simp; try (with_reducible rfl))
      simp only [Act.put, List.setIfInBounds_toArray, List.set_cons_zero, List.set_cons_succ]
      refine wpAnyH_take (i := 15) (v := ?vu98x15) (by rw [List.getElem?_toArray]; rfl) (by kernel_rfl) (by kernel_rfl) (by kernel_rfl) ?qu98x15 (Or.inl ⟨by rfl, ?yu98x15⟩) (by assumption) ?ru98x15
      case qu98x15 => exact fun _ _ _ h => h
      case yu98x15 => (intro wz hSw; go_simp; try (with_reducible rfl))
      simp only [Act.put, List.setIfInBounds_toArray, List.set_cons_zero, List.set_cons_succ]
      refine wpAnyH_done (by kernel_rfl) ?_ _
      go_wp2
      go_ret
      exact ⟨rfl, hHeld.2⟩
  · have hHid := Lib.hid hHeld
    clear hHeld
    go_simp
    refine hK.out _ _ (pr_alloc hHid.out _) (fun hHeld => ?_)
    clear hK K
    have PA := Lib.hid (heap_alloc_new W0 (.cells #[.bool false, .int .i64 0, .int .i64 0, .int .i64 0, .int .i64 0, .int .i64 0, .int .i64 0, .int .i64 0, .int .i64 0, .int .i64 0] 28))
    have GA0 := pr_far hHid.out
    have GA : Hid (g0 ≠ W0.heap.size ∧ w.heap.size ≤ W0.heap.size) := GA0
    clear hHid GA0
    refine wpAnyH_ready (rs := [2]) (by kernel_rfl) (by simp) ?_
    refine AllReadyH.cons (by rw [List.getElem?_toArray]; rfl) (fun K hK => ?_) AllReadyH.nil
    have hHid := Lib.hid hHeld
    clear hHeld
    go_simp
    go_at_call 14; refine (J4.out _).mono ?_; rintro e vu99 ⟨rfl, hb⟩
    have hNew := pr_more hb hHid.out
    have PAx := Lib.hid ((hb.block _ (lt_heap PA.out)).trans PA.out)
    clear PA
    have PA := PAx
    clear PAx
    clear hb hHid
    have hNewH := Lib.hid hNew
    clear hNew
    go_wp2_with fail
    refine hK.out _ _ hNewH.out (fun hHeld => ?_)
    clear hK K hNewH
    refine wpAnyH_ready (rs := [4]) (by kernel_rfl) (by simp) ?_
    refine AllReadyH.cons (by rw [List.getElem?_toArray]; rfl) (fun K hK => ?_) AllReadyH.nil
    have hHid := Lib.hid hHeld
    clear hHeld
    go_simp
    go_at_call 14; refine (J5.out _).mono ?_; rintro e vu100 ⟨rfl, hb⟩
    have hNew := pr_more hb hHid.out
    have PAx := Lib.hid ((hb.block _ (lt_heap PA.out)).trans PA.out)
    clear PA
    have PA := PAx
    clear PAx
    clear hb hHid
    have hNewH := Lib.hid hNew
    clear hNew
    go_wp2_with fail
    refine hK.out _ _ hNewH.out (fun hHeld => ?_)
    clear hK K hNewH
    refine wpAnyH_ready (rs := [5]) (by kernel_rfl) (by simp) ?_
    refine AllReadyH.cons (by rw [List.getElem?_toArray]; rfl) (fun K hK => ?_) AllReadyH.nil
    have hHid := Lib.hid hHeld
    clear hHeld
    go_simp
    go_at_call 19; refine (J6.out _).mono ?_; rintro e vu101 ⟨rfl, hb⟩
    have hNew := pr_more hb hHid.out
    have PAx := Lib.hid ((hb.block _ (lt_heap PA.out)).trans PA.out)
    clear PA
    have PA := PAx
    clear PAx
    clear hb hHid
    have hNewH := Lib.hid hNew
    clear hNew
    go_wp2_with fail
    refine hK.out _ _ hNewH.out (fun hHeld => ?_)
    clear hK K hNewH
    refine wpAnyH_ready (rs := [6]) (by kernel_rfl) (by simp) ?_
    refine AllReadyH.cons (by rw [List.getElem?_toArray]; rfl) (fun K hK => ?_) AllReadyH.nil
    have hHid := Lib.hid hHeld
    clear hHeld
    go_simp
    go_at_call 18; refine (J7.out _).mono ?_; rintro e vu102 ⟨rfl, hb⟩
    have hNew := pr_more hb hHid.out
    have PAx := Lib.hid ((hb.block _ (lt_heap PA.out)).trans PA.out)
    clear PA
    have PA := PAx
    clear PAx
    clear hb hHid
    have hNewH := Lib.hid hNew
    clear hNew
    go_wp2_with fail
    refine hK.out _ _ hNewH.out (fun hHeld => ?_)
    clear hK K hNewH
    refine wpAnyH_ready (rs := [7]) (by kernel_rfl) (by simp) ?_
    refine AllReadyH.cons (by rw [List.getElem?_toArray]; rfl) (fun K hK => ?_) AllReadyH.nil
    have hHid := Lib.hid hHeld
    clear hHeld
    go_simp
    go_at_call 17; refine (J8.out _).mono ?_; rintro e vu103 ⟨rfl, hb⟩
    have hNew := pr_more hb hHid.out
    have PAx := Lib.hid ((hb.block _ (lt_heap PA.out)).trans PA.out)
    clear PA
    have PA := PAx
    clear PAx
    clear hb hHid
    have hNewH := Lib.hid hNew
    clear hNew
    go_wp2_with fail
    refine hK.out _ _ hNewH.out (fun hHeld => ?_)
    clear hK K hNewH
    refine wpAnyH_ready (rs := [9]) (by kernel_rfl) (by simp) ?_
    refine AllReadyH.cons (by rw [List.getElem?_toArray]; rfl) (fun K hK => ?_) AllReadyH.nil
    obtain ⟨c0, c1, c2, c3, c4, c5, c6, c7, c8, c9, ff⟩ := zcells PA.out
    have hHid := Lib.hid hHeld
    clear hHeld
    go_simp
    refine hK.out _ _ (pr_store hHid.out PA.out GA.out.1 GA.out.2 _ _ _ _ _ _ _ _ _ _) (fun hHeld => ?_)
    clear hK K c0 c1 c2 c3 c4 c5 c6 c7 c8 c9 ff
    have T := Lib.hid (pr_fin (k := k) (z := z) PA.out hHid.out.2 GA.out.2)
    refine wpAnyH_done (by kernel_rfl) ?_ _
    clear hHeld PA GA hHid
    go_wp2
    refine wp_region_held_drew (S := fun w' => w'.heap[W0.heap.size]? = some (.cells #[.bool k, .int .i64 (dg z 0), .int .i64 (dg z 1), .int .i64 (dg z 2), .int .i64 (dg z 3), .int .i64 (dg z 4), .int .i64 (dg z 5), .int .i64 (dg z 6), .int .i64 (dg z 7), .int .i64 (dg z 8)] 28 (0, 0)) ∧ Below w.heap.size w w') (by kernel_rfl) (pr_drew T.out) (fun hHeld => ?_)
    clear T
    refine wpAnyH_take (i := 0) (v := ?vu104x0) (by rw [List.getElem?_toArray]; rfl) (by kernel_rfl) (by kernel_rfl) (by kernel_rfl) ?qu104x0 (Or.inl ⟨by rfl, ?yu104x0⟩) (by assumption) ?ru104x0
    case qu104x0 => exact fun _ _ _ h => h
    case yu104x0 => (intro wz hSw; go_simp; try (with_reducible rfl))
    simp only [Act.put, List.setIfInBounds_toArray, List.set_cons_zero, List.set_cons_succ]
    refine wpAnyH_take (i := 1) (v := ?vu105x1) (by rw [List.getElem?_toArray]; rfl) (by kernel_rfl) (by kernel_rfl) (by kernel_rfl) ?qu105x1 (Or.inl ⟨by rfl, ?yu105x1⟩) (by assumption) ?ru105x1
    case qu105x1 => exact fun _ _ _ h => h
    case yu105x1 => (intro wz hSw; go_simp; try (with_reducible rfl))
    simp only [Act.put, List.setIfInBounds_toArray, List.set_cons_zero, List.set_cons_succ]
    refine wpAnyH_take (i := 2) (v := ?vu106x2) (by rw [List.getElem?_toArray]; rfl) (by kernel_rfl) (by kernel_rfl) (by kernel_rfl) ?qu106x2 (Or.inl ⟨by rfl, ?yu106x2⟩) (by assumption) ?ru106x2
    case qu106x2 => exact fun _ _ _ h => h
    case yu106x2 => (intro wz hSw; go_simp; try (with_reducible rfl))
    simp only [Act.put, List.setIfInBounds_toArray, List.set_cons_zero, List.set_cons_succ]
    refine' wpAnyH_take (i := 3) (v := _) (by rw [List.getElem?_toArray]; rfl) (by kernel_rfl) (by kernel_rfl) (by kernel_rfl) ?qu107x3 (yieldsIf_load_mid (by rfl) _ _ rfl _ _ rfl [.bool k, .int .i64 (dg z 0), .int .i64 (dg z 1), .int .i64 (dg z 2), .int .i64 (dg z 3), .int .i64 (dg z 4), .int .i64 (dg z 5), .int .i64 (dg z 6), .int .i64 (dg z 7), .int .i64 (dg z 8)] _ ?hSu107x3 ?huu107x3 ?hdu107x3 ?hiu107x3) (by assumption) ?restu107x3
    case qu107x3 => exact fun _ _ _ h => h
    case hSu107x3 => exact fun wz hSw => sg_whole hSw.1
    case huu107x3 => exact Try.underlying28
    case hdu107x3 => rfl
    case hiu107x3 => exact info28
    simp only [Act.put, List.setIfInBounds_toArray, List.set_cons_zero, List.set_cons_succ]
    refine wpAnyH_ready (rs := [4]) (by kernel_rfl) (by simp) ?_
    refine AllReadyH.cons (by rw [List.getElem?_toArray]; rfl) (fun K hK => ?_) AllReadyH.nil
    have hHid := Lib.hid hHeld
    clear hHeld
    go_simp
    go_at_call 14; refine (J9.out _).mono ?_; rintro e vu108 ⟨rfl, hb⟩
    have hNew := pr_more hb hHid.out
    clear hb hHid
    have hNewH := Lib.hid hNew
    clear hNew
    go_wp2_with fail
    refine hK.out _ _ hNewH.out (fun hHeld => ?_)
    clear hK K hNewH
    refine wpAnyH_ready (rs := [5]) (by kernel_rfl) (by simp) ?_
    refine AllReadyH.cons (by rw [List.getElem?_toArray]; rfl) (fun K hK => ?_) AllReadyH.nil
    have hHid := Lib.hid hHeld
    clear hHeld
    go_simp
    go_at_call 21; refine (J10.out _).mono ?_; rintro e vu109 ⟨rfl, hb⟩
    have hNew := pr_more hb hHid.out
    clear hb hHid
    have hNewH := Lib.hid hNew
    clear hNew
    go_wp2_with fail
    refine hK.out _ _ hNewH.out (fun hHeld => ?_)
    clear hK K hNewH
    refine wpAnyH_take (i := 6) (v := ?vu110x6) (by rw [List.getElem?_toArray]; rfl) (by kernel_rfl) (by kernel_rfl) (by kernel_rfl) ?qu110x6 (Or.inl ⟨by rfl, ?yu110x6⟩) (by assumption) ?ru110x6
    case qu110x6 => exact fun _ _ _ h => h
    case yu110x6 => (intro wz hSw; go_simp; try (with_reducible rfl))
    simp only [Act.put, List.setIfInBounds_toArray, List.set_cons_zero, List.set_cons_succ]
    refine wpAnyH_take (i := 7) (v := ?vu111x7) (by rw [List.getElem?_toArray]; rfl) (by kernel_rfl) (by kernel_rfl) (by kernel_rfl) ?qu111x7 (Or.inl ⟨by rfl, ?yu111x7⟩) (by assumption) ?ru111x7
    case qu111x7 => exact fun _ _ _ h => h
    case yu111x7 => (intro wz hSw; go_simp; try (with_reducible rfl))
    simp only [Act.put, List.setIfInBounds_toArray, List.set_cons_zero, List.set_cons_succ]
    refine wpAnyH_take (i := 8) (v := ?vu112x8) (by rw [List.getElem?_toArray]; rfl) (by kernel_rfl) (by kernel_rfl) (by kernel_rfl) ?qu112x8 (Or.inl ⟨by rfl, ?yu112x8⟩) (by assumption) ?ru112x8
    case qu112x8 => exact fun _ _ _ h => h
    case yu112x8 => (intro wz hSw; go_simp; try (with_reducible rfl))
    simp only [Act.put, List.setIfInBounds_toArray, List.set_cons_zero, List.set_cons_succ]
    refine' wpAnyH_take (i := 9) (v := _) (by rw [List.getElem?_toArray]; rfl) (by kernel_rfl) (by kernel_rfl) (by kernel_rfl) ?qu113x9 (yieldsIf_load_mid (by rfl) _ _ rfl _ _ rfl [.bool k, .int .i64 (dg z 0), .int .i64 (dg z 1), .int .i64 (dg z 2), .int .i64 (dg z 3), .int .i64 (dg z 4), .int .i64 (dg z 5), .int .i64 (dg z 6), .int .i64 (dg z 7), .int .i64 (dg z 8)] _ ?hSu113x9 ?huu113x9 ?hdu113x9 ?hiu113x9) (by assumption) ?restu113x9
    case qu113x9 => exact fun _ _ _ h => h
    case hSu113x9 => exact fun wz hSw => sg_whole hSw.1
    case huu113x9 => exact Try.underlying28
    case hdu113x9 => rfl
    case hiu113x9 => exact info28
    simp only [Act.put, List.setIfInBounds_toArray, List.set_cons_zero, List.set_cons_succ]
    refine wpAnyH_take (i := 10) (v := ?vu114x10) (by rw [List.getElem?_toArray]; rfl) (by kernel_rfl) (by kernel_rfl) (by kernel_rfl) ?qu114x10 (Or.inl ⟨by rfl, ?yu114x10⟩) (by assumption) ?ru114x10
    case qu114x10 => exact fun _ _ _ h => h
    case yu114x10 => (intro wz hSw; go_simp; try (with_reducible rfl))
    simp only [Act.put, List.setIfInBounds_toArray, List.set_cons_zero, List.set_cons_succ]
    refine wpAnyH_ready (rs := [11]) (by kernel_rfl) (by simp) ?_
    refine AllReadyH.cons (by rw [List.getElem?_toArray]; rfl) (fun K hK => ?_) AllReadyH.nil
    have hHid := Lib.hid hHeld
    clear hHeld
    go_simp
    go_at_call 14; refine (J5.out _).mono ?_; rintro e vu115 ⟨rfl, hb⟩
    have hNew := pr_more hb hHid.out
    clear hb hHid
    have hNewH := Lib.hid hNew
    clear hNew
    go_wp2_with fail
    refine hK.out _ _ hNewH.out (fun hHeld => ?_)
    clear hK K hNewH
    refine wpAnyH_ready (rs := [12]) (by kernel_rfl) (by simp) ?_
    refine AllReadyH.cons (by rw [List.getElem?_toArray]; rfl) (fun K hK => ?_) AllReadyH.nil
    have hHid := Lib.hid hHeld
    clear hHeld
    go_simp
    go_at_call 21; refine (J11.out _).mono ?_; rintro e vu116 ⟨rfl, hb⟩
    have hNew := pr_more hb hHid.out
    clear hb hHid
    have hNewH := Lib.hid hNew
    clear hNew
    go_wp2_with fail
    refine hK.out _ _ hNewH.out (fun hHeld => ?_)
    clear hK K hNewH
    refine wpAnyH_take (i := 13) (v := ?vu117x13) (by rw [List.getElem?_toArray]; rfl) (by kernel_rfl) (by kernel_rfl) (by kernel_rfl) ?qu117x13 (Or.inl ⟨by rfl, ?yu117x13⟩) (by assumption) ?ru117x13
    case qu117x13 => exact fun _ _ _ h => h
    case yu117x13 => (intro wz hSw; go_simp; try (with_reducible rfl))
    simp only [Act.put, List.setIfInBounds_toArray, List.set_cons_zero, List.set_cons_succ]
    refine wpAnyH_take (i := 14) (v := ?vu118x14) (by rw [List.getElem?_toArray]; rfl) (by kernel_rfl) (by kernel_rfl) (by kernel_rfl) ?qu118x14 (Or.inl ⟨by rfl, ?yu118x14⟩) (by assumption) ?ru118x14
    case qu118x14 => exact fun _ _ _ h => h
    case yu118x14 => (intro wz hSw; go_simp; try (with_reducible rfl))
    simp only [Act.put, List.setIfInBounds_toArray, List.set_cons_zero, List.set_cons_succ]
    refine wpAnyH_take (i := 15) (v := ?vu119x15) (by rw [List.getElem?_toArray]; rfl) (by kernel_rfl) (by kernel_rfl) (by kernel_rfl) ?qu119x15 (Or.inl ⟨by rfl, ?yu119x15⟩) (by assumption) ?ru119x15
    case qu119x15 => exact fun _ _ _ h => h
    case yu119x15 => (intro wz hSw; go_simp; try (with_reducible rfl))
    simp only [Act.put, List.setIfInBounds_toArray, List.set_cons_zero, List.set_cons_succ]
    refine wpAnyH_done (by kernel_rfl) ?_ _
    go_wp2
    go_ret
    exact ⟨rfl, hHeld.2⟩
end Go.Proofs.Ytbcffefailhacaa.arithParts

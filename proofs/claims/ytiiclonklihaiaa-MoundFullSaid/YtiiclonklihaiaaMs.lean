/-
  mounds.
-/
import Derived.Test.YtiiclonklihaiaaPop
namespace Go.Proofs.Ytiiclonklihaiaa
open Go.RowKit
set_option linter.unusedVariables false
def L0 (p : Nat) : List (Int × Int) := []
def L1 : Nat → List (Int × Int) := upL L0 (L0 1 ++ [(5, 0)])
def L2 : Nat → List (Int × Int) := upL L1 (L1 1 ++ [(3, 0)])
def L3 : Nat → List (Int × Int) := upL L2 [(5, 0)]
def L4 : Nat → List (Int × Int) := upL L3 []
theorem bel_at {B : Nat} {a w : World} (h : Below a.heap.size a w) (hB : B ≤ a.heap.size) : Below B a w := ⟨h.os, h.tape, h.output, h.size, fun k hk => h.block k (by omega)⟩
theorem bel_tr {B : Nat} {a w w1 : World} (h : Below B a w) (k : Below B w w1) : Below B a w1 := ⟨k.os.trans h.os, k.tape.trans h.tape, k.output.trans h.output, Nat.le_trans h.size k.size, fun i hi => (k.block i hi).trans (h.block i hi)⟩
theorem box_far {B b g L x : Nat} {vs : Nat → Value} {ls : Nat → List (Int × Int)} {w : World} {cs : Array Value} (h : MD B b g L vs ls w) (hc : w.heap[x]? = some (.cells cs 24 (0, 0))) : x ≠ g := fun e => by
  obtain ⟨cur, hg, hcc⟩ := h.top
  rw [← e, hc] at hg; injection hg with hg; injection hg with _ hg; exact absurd hg (by decide)
set_option maxRecDepth 100000 in
set_option maxHeartbeats 8000000 in
theorem mounds_any (w : World) : Calls Try.prog 11 #[] w fun e w' => e = .returned (.bool true) ∧ Below w.heap.size w w' := by
  go_enter Try.func11, Try.ntmps11
  go_wp2_with fail
  refine (new1 w).mono ?_
  rintro e w1 ⟨b, g, rfl, hM1, hB1, hb, hg⟩
  obtain ⟨B, hBd⟩ : ∃ B, B = w.heap.size := ⟨_, rfl⟩
  rw [← hBd] at hM1 hB1 hb hg
  have HBd := Lib.hid hBd
  have HGE := Lib.hid (And.intro hb hg)
  have s1 := hB1.size
  have I1 := Lib.hid (ins_yes B b g 5 0 _ L0 w1 hM1 (by omega) ⟨hb, hg⟩ (by decide) (by decide) (by rfl))
  have B1 := Lib.hid (And.intro hB1 (show B ≤ w1.heap.size by omega))
  clear hM1 hB1 hb hg s1 hBd
  go_wp2_with fail
  refine I1.out.mono ?_
  rintro e w2 ⟨rfl, v2, hM2, hB2, _⟩
  have B2 := Lib.hid (And.intro (bel_tr B1.out.1 hB2) (Nat.le_trans B1.out.2 hB2.size))
  have I2 := Lib.hid (ins_yes B b g 3 0 _ L1 w2 hM2 B2.out.2 HGE.out (by decide) (by decide) (by rfl))
  clear I1 B1 hM2 hB2
  go_wp2_with fail
  refine I2.out.mono ?_
  rintro e w3 ⟨rfl, v3, hM3, hB3, _⟩
  have B3 := Lib.hid (And.intro (bel_tr B2.out.1 hB3) (Nat.le_trans B2.out.2 hB3.size))
  have I3 := Lib.hid (ins_no B b g 4 0 _ L2 w3 hM3 (by rfl))
  have M3 := Lib.hid hM3
  clear I2 B2 hM3 hB3
  go_wp2_with fail
  refine I3.out.mono ?_
  rintro e w4 ⟨rfl, hB4⟩
  have B4 := Lib.hid (And.intro (bel_tr B3.out.1 (bel_at hB4 B3.out.2)) (Nat.le_trans B3.out.2 hB4.size))
  have P1 := Lib.hid (pop_some B b g _ L2 [(5, 0)] 3 0 w4 (M3.out.up hB4) B4.out.2 HGE.out rfl rfl)
  clear I3 B3 M3 hB4
  go_wp2_with fail
  refine P1.out.mono ?_
  rintro e w5 ⟨rfl, v5, hM5, hB5, hG5⟩
  have hx := heap_alloc_new w5 (.cells #[.int .i64 3, .int .i64 0] 24)
  have hM5a := hM5.up (bl_al (Below.refl _ _) (.cells #[.int .i64 3, .int .i64 0] 24))
  have X5 : Hid ((w5.alloc (.cells #[.int .i64 3, .int .i64 0] 24)).heap[w5.heap.size]? = some (.cells #[.int .i64 3, .int .i64 0] 24 (0, 0)) ∧ w5.heap.size ≠ g) := ⟨hx, box_far hM5a hx⟩
  have B5 : Hid (Below B w (w5.alloc (.cells #[.int .i64 3, .int .i64 0] 24)) ∧ B ≤ (w5.alloc (.cells #[.int .i64 3, .int .i64 0] 24)).heap.size) := by
    have k := bel_tr B4.out.1 hB5
    have z := Nat.le_trans B4.out.2 hB5.size
    exact ⟨k.alloc z _, by simp; omega⟩
  have P2 := Lib.hid (pop_some B b g _ L3 [] 5 0 _ hM5a B5.out.2 HGE.out rfl rfl)
  clear P1 B4 hM5 hB5 hG5 hx hM5a
  go_wp2_with fail
  refine P2.out.mono ?_
  rintro e w6 ⟨rfl, v6, hM6, hB6, hG6⟩
  have hy := heap_alloc_new w6 (.cells #[.int .i64 5, .int .i64 0] 24)
  have hM6a := hM6.up (bl_al (Below.refl _ _) (.cells #[.int .i64 5, .int .i64 0] 24))
  have hx6 := (hG6.block _ (lt_blk X5.out.1) (fun e => X5.out.2 (by injection e))).trans X5.out.1
  have X6 : Hid ((w6.alloc (.cells #[.int .i64 5, .int .i64 0] 24)).heap[w5.heap.size]? = some (.cells #[.int .i64 3, .int .i64 0] 24 (0, 0)) ∧ (w6.alloc (.cells #[.int .i64 5, .int .i64 0] 24)).heap[w6.heap.size]? = some (.cells #[.int .i64 5, .int .i64 0] 24 (0, 0))) := ⟨(Below.heap_alloc w6 _ _ (lt_blk hx6)).trans hx6, hy⟩
  have B6 : Hid (Below B w (w6.alloc (.cells #[.int .i64 5, .int .i64 0] 24)) ∧ B ≤ (w6.alloc (.cells #[.int .i64 5, .int .i64 0] 24)).heap.size) := by
    have k := bel_tr B5.out.1 hB6
    have z := Nat.le_trans B5.out.2 hB6.size
    exact ⟨k.alloc z _, by simp; omega⟩
  have P3 := Lib.hid (pop_none B b g _ L4 _ hM6a rfl)
  clear P2 B5 X5 hM6 hB6 hG6 hy hx6 hM6a
  go_wp2_with fail
  refine P3.out.mono ?_
  rintro e w7 ⟨rfl, hB7⟩
  have hB8 := bl_al hB7 (.cells #[.int .i64 0, .int .i64 0] 24)
  have y0 := cell_of_row _ w5.heap.size 0 _ _ _ ((hB8.block _ (lt_blk X6.out.1)).trans X6.out.1)
  have y1 := cell_of_row _ w6.heap.size 0 _ _ _ ((hB8.block _ (lt_blk X6.out.2)).trans X6.out.2)
  have FN := Lib.hid (bel_tr B6.out.1 (bel_at hB8 B6.out.2))
  clear P3 B6 X6 hB7 hB8
  go_wp2
  go_ret
  exact ⟨rfl, by rw [← HBd.out]; exact FN.out⟩
end Go.Proofs.Ytiiclonklihaiaa

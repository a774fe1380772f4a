/-
  What Has answers.
-/
import Derived.Test.YtnenpgndghdheaaDoorOps3
import Derived.ChangeKeysEq
namespace Go.Proofs.YtnenpgndghdheaaDoor
open Go.RowKit
set_option linter.unusedVariables false
theorem eq_two (a0 a1 b0 b1 : Int) (w : World) : (Op.equalIn 10000 24 (.agg #[.int .u64 a0, .int .u64 a1]) (.agg #[.int .u64 b0, .int .u64 b1])).run Tryd.prog w = .ok (a0 == b0 && a1 == b1) w := by
  have h3 : ∀ (a b : Int) (w : World), (Op.equalIn 9999 22 (.int .u64 a) (.int .u64 b)).run Tryd.prog w = .ok (a == b) w := fun a b w => run_equalIn_int w 9998 22 .u64 .u64 a b Tryd.underlying22
  rw [run_equalIn_array w 9999 (n := 2) (e := 22) (i := (Tryd.prog.info? 22).get (by kernel_rfl)) _ _ Tryd.underlying24 (by kernel_rfl)]
  have hc : Tryd.prog.cellsOf 22 = 1 := by kernel_rfl
  rw [hc]
  simp [List.range_succ, Op.eqItems, part, go_sem, h3]
  by_cases e0 : a0 = b0
  rotate_left
  · simp [e0]
  rw [if_pos e0]
  by_cases e1 : a1 = b1 <;> simp [e0, e1]
theorem mem_one (i j : Nat) (h1 : i < 128) (h2 : j < 128) : mem (lo (bit (i : Int))) (hi (bit (i : Int))) j = decide (j = i) := by
  have hb := bit_test (i : Int) j h2
  by_cases h : j < 64
  · rw [mem_lo h]
    unfold lo
    have := Nat.testBit_mod_two_pow (bit (i : Int)) 64 j
    rw [show (2 : Nat) ^ 64 = 18446744073709551616 from rfl] at this
    rw [this, hb]
    simp only [h, decide_true, Bool.true_and]
    congr 1
    simp only [eq_iff_iff]; omega
  · rw [mem_hi h]
    unfold hi
    have := Nat.testBit_div_two_pow (n := 64) (bit (i : Int)) (j - 64)
    rw [show (2 : Nat) ^ 64 = 18446744073709551616 from rfl] at this
    rw [this, show j - 64 + 64 = j by omega, hb]
    congr 1
    simp only [eq_iff_iff]; omega
theorem none_zero {a b : Nat} (ha : a < 18446744073709551616) (hb : b < 18446744073709551616) (h : ∀ j, j < 128 → mem a b j = false) : a = 0 ∧ b = 0 := by
  constructor
  · apply Nat.eq_of_testBit_eq
    intro j
    rw [Nat.zero_testBit]
    by_cases hj : j < 64
    · rw [← mem_lo (x := a) (y := b) hj]; exact h j (by omega)
    · exact Nat.testBit_lt_two_pow (Nat.lt_of_lt_of_le ha (by rw [show 18446744073709551616 = 2 ^ 64 from rfl]; exact Nat.pow_le_pow_right (by decide) (by omega)))
  · apply Nat.eq_of_testBit_eq
    intro j
    rw [Nat.zero_testBit]
    by_cases hj : j < 64
    · have := h (j + 64) (by omega)
      rw [mem_hi (by omega)] at this
      simpa using this
    · exact Nat.testBit_lt_two_pow (Nat.lt_of_lt_of_le hb (by rw [show 18446744073709551616 = 2 ^ 64 from rfl]; exact Nat.pow_le_pow_right (by decide) (by omega)))
theorem has_of (x y i : Nat) (hi0 : i < 128) (hx : x < 18446744073709551616) (hy : y < 18446744073709551616) : ((((x &&& lo (bit (i : Int)) : Nat) : Int) == 0) && (((y &&& hi (bit (i : Int)) : Nat) : Int) == 0)) = !mem x y i := by
  have hm : ∀ j, j < 128 → mem (x &&& lo (bit (i : Int))) (y &&& hi (bit (i : Int))) j = (mem x y j && decide (j = i)) := fun j hj => by rw [mem_and, mem_one i j hi0 hj]
  have la : x &&& lo (bit (i : Int)) < 18446744073709551616 := Nat.lt_of_le_of_lt Nat.and_le_left hx
  have lb : y &&& hi (bit (i : Int)) < 18446744073709551616 := Nat.lt_of_le_of_lt Nat.and_le_left hy
  by_cases h : mem x y i = true
  · rw [h]
    have h2 := hm i hi0
    rw [h] at h2
    generalize x &&& lo (bit (i : Int)) = a at *
    generalize y &&& hi (bit (i : Int)) = b at *
    by_cases e : a = 0 ∧ b = 0
    · obtain ⟨rfl, rfl⟩ := e
      exfalso
      have : mem 0 0 i = false := by unfold mem; split <;> exact Nat.zero_testBit _
      rw [this] at h2
      simp at h2
    · have : ¬ ((a : Int) = 0 ∧ (b : Int) = 0) := by omega
      simp only [Bool.not_true]
      by_cases e1 : a = 0
      · have : ¬ b = 0 := fun q => e ⟨e1, q⟩
        simp [this]
      · simp [e1]
  · have hf : mem x y i = false := by simpa using h
    obtain ⟨e1, e2⟩ := none_zero la lb (fun j hj => by
      rw [hm j hj]
      by_cases e : j = i
      · subst e; rw [hf]; rfl
      · simp [e])
    rw [e1, e2, hf]
    rfl
set_option maxHeartbeats 1000000 in
theorem has_any (x y : Nat) (hx : x < 18446744073709551616) (hy : y < 18446744073709551616) (k : Nat) (h1 : k < 128) (w : World) :
    Calls Tryd.prog 20 #[.agg #[.int .u64 x, .int .u64 y], .int .i64 k] w fun e w' => e = .returned (.bool (mem x y k)) ∧ Below w.heap.size w w' := by
  have hh := has_of x y k h1 hx hy
  have B0 := bl_al (Below.refl w.heap.size w) (.cells #[.int .u64 x, .int .u64 y] 24)
  have q : (w.alloc (.cells #[.int .u64 x, .int .u64 y] 24)).heap[w.heap.size]? = some (.cells #[.int .u64 x, .int .u64 y] 24 (0, 0)) := by
    show (w.heap.push (Obj.cells #[.int .u64 x, .int .u64 y] 24))[w.heap.size]? = some (Obj.cells #[.int .u64 x, .int .u64 y] 24)
    simp
  have H1 := Lib.hid (fun W => single_any (k : Int) W)
  have H2 := Lib.hid (fun W => and_any x y (lo (bit (k : Int))) (hi (bit (k : Int))) hx hy (lo_lt _) (hi_lt _ (bit_lt _)) W)
  have hq := fun (W : World) => eq_two ((x &&& lo (bit (k : Int)) : Nat) : Int) ((y &&& hi (bit (k : Int)) : Nat) : Int) 0 0 W
  rw [hh] at hq
  clear hh
  generalize mem x y k = r at *
  generalize x &&& lo (bit (k : Int)) = a0 at *
  generalize y &&& hi (bit (k : Int)) = a1 at *
  generalize lo (bit (k : Int)) = f0 at *
  generalize hi (bit (k : Int)) = f1 at *
  go_enter Tryd.func20, Tryd.ntmps20
  go_wp2
  have B := Lib.hid B0
  have Q := Lib.hid q
  clear B0 q
  generalize w.alloc (.cells #[.int .u64 x, .int .u64 y] 24) = X at *
  obtain ⟨c0, c1⟩ := two_keep (Below.refl _ _) Q.out
  go_region_with (first
    | (go_at_call 27; with_reducible refine (H1.out _).mono ?_; rintro e w1 ⟨rfl, hb1⟩; obtain ⟨k0, k1⟩ := two_keep hb1 Q.out)
    | (go_at_call 8; with_reducible refine (H2.out _).mono ?_; rintro e w2 ⟨rfl, hb2⟩; have hb3 := bl_tr hb1 hb2; obtain ⟨m0, m1⟩ := two_keep hb3 Q.out))
  all_goals
    go_wp2
    go_ret
    exact ⟨by cases r <;> rfl, B.out.trans ((bl_undr hb3).mono B.out.size)⟩
end Go.Proofs.YtnenpgndghdheaaDoor

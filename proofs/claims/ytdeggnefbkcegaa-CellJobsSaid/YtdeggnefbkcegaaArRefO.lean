/-
  What the reference's Of answers.
-/
import Derived.Test.YtdeggnefbkcegaaArRef
import Derived.Laws.Bits64b
namespace Go.Proofs.Ytdeggnefbkcegaa.ar
open Go.RowKit
set_option linter.unusedVariables false


def un (n k : Nat) : Int := ((n / BB ^ k : Nat) : Int)
theorem un_zero (n : Nat) : un n 0 = n := by unfold un; simp
theorem un_b (n k : Nat) (h : n < 18446744073709551616) : 0 ≤ un n k ∧ un n k < 18446744073709551616 := by
  have := Nat.div_le_self n (BB ^ k)
  unfold un
  generalize n / BB ^ k = m at *
  omega
theorem un_and (n k : Nat) (h : n < 18446744073709551616) : bits .and .u64 (un n k) 2147483647 = dg n k := by
  have h0 := Nat.div_le_self n (BB ^ k)
  have h1 := bits_and_u64_nat (n / BB ^ k) 2147483647 (by omega) (by omega)
  have e : n / BB ^ k &&& 2147483647 = n / BB ^ k % 2147483648 := Nat.and_two_pow_sub_one_eq_mod _ 31
  rw [e] at h1
  unfold un dg dgn; rw [BB_eq] at *
  exact h1
theorem un_next (n k : Nat) : un n k / 2147483648 = un n (k + 1) := by
  have e : n / BB ^ (k + 1) = n / BB ^ k / BB := by rw [Nat.pow_succ, Nat.div_div_eq_div_mul]
  unfold un; rw [e, BB_eq]; omega
attribute [irreducible] un
theorem prt_three (n : Nat) (h : n < 18446744073709551616) : prt n 3 = bgA n := by
  have f : ∀ j, 3 ≤ j → dg n j = 0 := by
    intro j hj; unfold dg
    rw [dgn_far (n := 3) (Nat.lt_of_lt_of_le h (by decide)) hj]; rfl
  simp [prt, pc, bgA, f 3 (by omega), f 4 (by omega), f 5 (by omega), f 6 (by omega), f 7 (by omega), f 8 (by omega)]
structure BO (w wr : World) (n k : Nat) : Prop where
  br : wr.heap[w.heap.size]? = some (.cells #[.int .i64 0, .int .i64 0, .int .i64 0, .int .i64 0, .int .i64 0, .int .i64 0, .int .i64 0, .int .i64 0, .int .i64 0] 76 (0, 0))
  bc : wr.heap[w.heap.size + 1]? = some (.cells (prt n k) 76 (0, 0))
  bl : Below w.heap.size w wr
theorem BO.start (w : World) (n : Nat) : BO w ((w.alloc (.cells #[.int .i64 0, .int .i64 0, .int .i64 0, .int .i64 0, .int .i64 0, .int .i64 0, .int .i64 0, .int .i64 0, .int .i64 0] 76)).alloc (.cells #[.int .i64 0, .int .i64 0, .int .i64 0, .int .i64 0, .int .i64 0, .int .i64 0, .int .i64 0, .int .i64 0, .int .i64 0] 76)) n 0 := by
  refine ⟨heap_alloc2_old w _ _, ?_, bl_al (bl_al (Below.refl _ _) _) _⟩
  rw [prt_zero]; exact heap_alloc2_new w _ _
theorem BO.cc {w wr : World} {n k : Nat} (h : BO w wr n k) (hk : k < 9) : wr.cell? ⟨w.heap.size + 1, k, none⟩ = some (.int .i64 0) := by rw [cell_of_row _ _ _ _ _ _ h.bc, prt_at n k hk]
theorem BO.fc {w wr : World} {n k : Nat} (h : BO w wr n k) (j : Nat) : wr.frozen? ⟨w.heap.size + 1, j, none⟩ = false := frozen_of_row _ _ _ _ _ h.bc
theorem BO.step {w wr : World} {n k : Nat} (h : BO w wr n k) (hk : k < 9) : BO w (wr.setCell ⟨w.heap.size + 1, k, none⟩ (.int .i64 (dg n k))) n (k + 1) := by
  refine ⟨?_, ?_, h.bl.setCell (by show _ ≤ _ + 1; omega) _⟩
  · rw [heap_setCell_other _ _ _ _ (by show _ ≠ _ + 1; omega)]; exact h.br
  · rw [heap_setCell_same _ _ _ _ _ _ h.bc, prt_set n k hk]
theorem BO.out {w wr : World} {n : Nat} (hn : n < 18446744073709551616) (h : BO w wr n 3) :
    wr.cell? ⟨w.heap.size + 1, 0, none⟩ = some (.int .i64 (dg n 0)) ∧ wr.cell? ⟨w.heap.size + 1, 1, none⟩ = some (.int .i64 (dg n 1)) ∧ wr.cell? ⟨w.heap.size + 1, 2, none⟩ = some (.int .i64 (dg n 2)) ∧ wr.cell? ⟨w.heap.size + 1, 3, none⟩ = some (.int .i64 (dg n 3)) ∧ wr.cell? ⟨w.heap.size + 1, 4, none⟩ = some (.int .i64 (dg n 4)) ∧ wr.cell? ⟨w.heap.size + 1, 5, none⟩ = some (.int .i64 (dg n 5)) ∧ wr.cell? ⟨w.heap.size + 1, 6, none⟩ = some (.int .i64 (dg n 6)) ∧ wr.cell? ⟨w.heap.size + 1, 7, none⟩ = some (.int .i64 (dg n 7)) ∧ wr.cell? ⟨w.heap.size + 1, 8, none⟩ = some (.int .i64 (dg n 8)) ∧
    wr.cell? ⟨w.heap.size, 0, none⟩ = some (.int .i64 0) ∧ wr.cell? ⟨w.heap.size, 1, none⟩ = some (.int .i64 0) ∧ wr.cell? ⟨w.heap.size, 2, none⟩ = some (.int .i64 0) ∧ wr.cell? ⟨w.heap.size, 3, none⟩ = some (.int .i64 0) ∧ wr.cell? ⟨w.heap.size, 4, none⟩ = some (.int .i64 0) ∧ wr.cell? ⟨w.heap.size, 5, none⟩ = some (.int .i64 0) ∧ wr.cell? ⟨w.heap.size, 6, none⟩ = some (.int .i64 0) ∧ wr.cell? ⟨w.heap.size, 7, none⟩ = some (.int .i64 0) ∧ wr.cell? ⟨w.heap.size, 8, none⟩ = some (.int .i64 0) ∧ (∀ j, wr.frozen? ⟨w.heap.size, j, none⟩ = false) := by
  have hc := h.bc; rw [prt_three n hn] at hc
  have C := fun j (hj : j < 9) => (cell_of_row wr _ j _ _ _ hc).trans (bgA_at n j hj)
  have R := fun j => cell_of_row wr _ j _ _ _ h.br
  exact ⟨C 0 (by decide), C 1 (by decide), C 2 (by decide), C 3 (by decide), C 4 (by decide), C 5 (by decide), C 6 (by decide), C 7 (by decide), C 8 (by decide), R 0, R 1, R 2, R 3, R 4, R 5, R 6, R 7, R 8, fun j => frozen_of_row _ _ _ _ _ h.br⟩
set_option maxRecDepth 100000 in
theorem of_walk (a : Int) (n : Nat) (a1 : -9223372036854775808 ≤ a) (a2 : a ≤ 9223372036854775807) (hb : n < 18446744073709551616) (w : World)
    (hs : (a < 0 ∧ IntKind.u64.wrap (-IntKind.u64.wrap a) = un n 0) ∨ (0 ≤ a ∧ IntKind.u64.wrap a = un n 0)) :
    Calls Try.prog 47 #[.int .i64 a] w fun e w' => e = .returned (.agg #[.int .i64 (dg n 0), .int .i64 (dg n 1), .int .i64 (dg n 2), .int .i64 (dg n 3), .int .i64 (dg n 4), .int .i64 (dg n 5), .int .i64 (dg n 6), .int .i64 (dg n 7), .int .i64 (dg n 8)]) ∧ Below w.heap.size w w' := by
  have S := BO.start w n
  have HB := Lib.hid hb
  clear hb
  rcases hs with ⟨hlt, e0⟩ | ⟨hge, e0⟩
  all_goals
    go_enter Try.func47, Try.ntmps47
    go_wp2_with fail
    go_loopw [4, 5] (fun s t wr => ∃ k : Nat, k ≤ 3 ∧ t = .int .i64 k ∧ s = .int .u64 (un n k) ∧ BO w wr n k) (fun _ t _ => 3 - (intOf t).toNat)
    case atStart => exact ⟨0, by omega, rfl, rfl, S⟩
    case round =>
      obtain ⟨k, hk, rfl, rfl, hb⟩ := hrel
      clear S e0
      by_cases h3 : k < 3
      · have fc := hb.cc (by omega)
        have ff := hb.fc k
        have e1 := un_and n k HB.out
        have e2 := un_next n k
        obtain ⟨u1, u2⟩ := un_b n k HB.out
        obtain ⟨d1, d2⟩ := dg_b n k
        have k1 : (0 : Int) ≤ (k : Int) := by omega
        have k2 : (k : Int) < 9 := by omega
        have st := hb.step (by omega)
        clear hb
        go_wp2
        go_roundw
        case rel => exact ⟨k + 1, by omega, by go_num, rfl, st⟩
        case measure => simp [intOf]; omega
      · obtain rfl : k = 3 := by omega
        have F := BO.out HB.out hb
        have bl := hb.bl
        have BR := Lib.hid hb.br
        obtain ⟨c0, c1, c2, c3, c4, c5, c6, c7, c8, r0, r1, r2, r3, r4, r5, r6, r7, r8, ff⟩ := F
        clear hb h3 hk
        go_wp2
        exact bodyPost_ret (results_cell_row Try.results47 _ _ w.heap.size 76 _ (0, 0) _ rfl (nine _ _ BR.out _ _ _ _ _ _ _ _ _) Try.underlying76 rfl (by kernel_rfl)) rfl ⟨rfl, nine_below bl _ (by omega) _ _ _ _ _ _ _ _ _⟩
theorem of_any (a : Int) (a1 : -9223372036854775808 ≤ a) (a2 : a ≤ 9223372036854775807) (w : World) :
    Calls Try.prog 47 #[.int .i64 a] w fun e w' => e = .returned (.agg #[.int .i64 (dg a.natAbs 0), .int .i64 (dg a.natAbs 1), .int .i64 (dg a.natAbs 2), .int .i64 (dg a.natAbs 3), .int .i64 (dg a.natAbs 4), .int .i64 (dg a.natAbs 5), .int .i64 (dg a.natAbs 6), .int .i64 (dg a.natAbs 7), .int .i64 (dg a.natAbs 8)]) ∧ Below w.heap.size w w' := by
  refine of_walk a a.natAbs a1 a2 (by omega) w ?_
  rw [un_zero]
  rcases Int.lt_or_le a 0 with h | h
  · exact Or.inl ⟨h, size_neg a h a1⟩
  · exact Or.inr ⟨h, by rw [IntKind.wrap_u64]; omega⟩
end Go.Proofs.Ytdeggnefbkcegaa.ar

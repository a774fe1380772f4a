/-
  The walk through kurganlaw23.CountNews.
-/
import Derived.Test.YtoncmgkpfjkmgaaCnt
namespace Go.Proofs.Ytoncmgkpfjkmgaa
open Go.RowKit Go.MuLone
set_option linter.unusedVariables false
def fineB (x y z : Int) : Bool := decide (0 ≤ x ∧ x ≤ 2 ∧ 0 ≤ y ∧ 1 ≤ z ∧ z ≤ 16)
set_option maxHeartbeats 1000000 in
theorem fine_any (x y z : Int) (w : World) : Calls Try.prog 18 #[.int .i64 4, .int .i64 x, .int .i64 y, .int .i64 z] w fun e w' => e = .returned (.bool (fineB x y z)) ∧ w = w' := by
  have hw : IntKind.i64.wrap ((4 : Int) - 2) = 2 := by decide
  have HF := Lib.hid (show fineB x y z = decide (0 ≤ x ∧ x ≤ 2 ∧ 0 ≤ y ∧ 1 ≤ z ∧ z ≤ 16) from rfl)
  by_cases h1 : 0 ≤ x
  · have d1 : decide (0 ≤ x) = true := decide_eq_true h1
    by_cases h2 : x ≤ 2
    · have d2 : decide (x ≤ 2) = true := decide_eq_true h2
      by_cases h3 : 0 ≤ y
      · have d3 : decide (0 ≤ y) = true := decide_eq_true h3
        by_cases h4 : 1 ≤ z
        · have d4 : decide (1 ≤ z) = true := decide_eq_true h4
          have e : fineB x y z = decide (z ≤ 16) := by unfold fineB; simp [h1, h2, h3, h4]
          rw [e]
          go_enter Try.func18, Try.ntmps18
          go_wp2
          go_ret
          exact ⟨rfl, rfl⟩
        · have d4 : decide (1 ≤ z) = false := decide_eq_false h4
          have e : fineB x y z = false := by unfold fineB; simp [h4]
          rw [e]
          go_enter Try.func18, Try.ntmps18
          go_wp2
          go_ret
          exact ⟨rfl, rfl⟩
      · have d3 : decide (0 ≤ y) = false := decide_eq_false h3
        have e : fineB x y z = false := by unfold fineB; simp [h3]
        rw [e]
        go_enter Try.func18, Try.ntmps18
        go_wp2
        go_ret
        exact ⟨rfl, rfl⟩
    · have d2 : decide (x ≤ 2) = false := decide_eq_false h2
      have e : fineB x y z = false := by unfold fineB; simp [h2]
      rw [e]
      go_enter Try.func18, Try.ntmps18
      go_wp2
      go_ret
      exact ⟨rfl, rfl⟩
  · have d1 : decide (0 ≤ x) = false := decide_eq_false h1
    have e : fineB x y z = false := by unfold fineB; simp [h1]
    rw [e]
    go_enter Try.func18, Try.ntmps18
    go_wp2
    go_ret
    exact ⟨rfl, rfl⟩
theorem nthA (x : Nat) (y z : Int) (h : x ≤ 2) : nth (((List.replicate 4 (0 : Int)).set x y).set (x + 1) z) x = y := by
  rw [nth_set _ _ _ _ (by simp; omega), if_neg (by omega), nth_set _ _ _ _ (by simp; omega), if_pos rfl]
theorem nthB (x : Nat) (y z : Int) (h : x ≤ 2) : nth (((List.replicate 4 (0 : Int)).set x y).set (x + 1) z) (x + 1) = z := by
  rw [nth_set _ _ _ _ (by simp; omega), if_pos rfl]
set_option maxRecDepth 100000 in
set_option maxHeartbeats 8000000 in
theorem countNews_walk (x y z : Int) (w : World) (hx : (Lit.int .i64 x).wf = true) (hy : (Lit.int .i64 y).wf = true) (hz : (Lit.int .i64 z).wf = true) :
    Calls Try.prog 3 #[.int .i64 x, .int .i64 y, .int .i64 z] w fun e w' => e = .returned (.bool true) ∧ Below w.heap.size w w' := by
  clear hx hy hz
  have N := Lib.hid (new_ok 4 (by omega) w)
  have C := Lib.hid (fun W => counts_any W)
  have FI := Lib.hid (fun W => fine_any x y z W)
  by_cases hf : 0 ≤ x ∧ x ≤ 2 ∧ 0 ≤ y ∧ 1 ≤ z ∧ z ≤ 16
  · obtain ⟨X, rfl⟩ : ∃ X : Nat, x = X := ⟨x.toNat, by omega⟩
    have hX : X ≤ 2 := by omega
    have e1 : fineB X y z = true := by unfold fineB; exact decide_eq_true hf
    rw [e1] at FI
    have G := Lib.hid (fun g b W (hM : MB 0 g b (List.replicate 4 0) 0 0 0 0 0 false W) => new_good g b X (List.replicate 4 0) 0 0 0 0 0 false y z (by simp; omega) (by simp) (by omega) (by omega) (by omega) (by omega) (by omega) W hM)
    have HA := Lib.hid (nthA X y z hX)
    have HB := Lib.hid (nthB X y z hX)
    generalize hl3 : (((List.replicate 4 (0 : Int)).set X y).set (X + 1) z) = l3 at *
    have zz1 : (y == y) = true := by simp
    have zz2 : (z == z) = true := by simp
    clear hf e1 hX hl3
    go_enter Try.func3, Try.ntmps3
    go_wp2_with fail
    refine N.out.mono ?_; rintro e w1 ⟨g, b, rfl, hg, hb, hm, hbl⟩
    have M := Lib.hid hm
    have B := Lib.hid hbl
    have P := Lib.hid (show w.heap.size ≤ g ∧ w.heap.size ≤ b from ⟨hg, hb⟩)
    clear hm hbl hg hb N
    go_wp2_with fail
    refine (G.out g b _ M.out).mono ?_; rintro e w2 ⟨q, rfl, hq, f1, f2⟩
    have S := Lib.hid f1
    have B := Lib.hid (f2.below B.out (by intro i hi; simp at hi; have := P.out; omega) B.out.size)
    clear hq f1 f2 G M
    go_wp2_with fail
    refine (new_nil 0 0 1 _).mono ?_; rintro e w3 ⟨rfl, rfl⟩
    go_wp2_with fail
    refine (none_any _).mono ?_; rintro e w3 ⟨rfl, rfl⟩
    go_wp2_with fail
    refine (more_nil 1 _).mono ?_; rintro e w3 ⟨rfl, rfl⟩
    go_wp2_with fail
    refine (none_any _).mono ?_; rintro e w3 ⟨rfl, rfl⟩
    go_wp2_with fail
    refine (now_nil _).mono ?_; rintro e w3 ⟨rfl, rfl⟩
    go_wp2_with fail
    refine (C.out _).mono ?_; rintro e w3 ⟨rfl, hb⟩
    have S := Lib.hid (S.out.keep (Tw.of (S := []) hb) (by simp) (by simp) (by simp))
    have B := Lib.hid (bl_tr B.out hb)
    clear hb C
    go_wp2_with fail
    refine (none_any _).mono ?_; rintro e w4 ⟨rfl, rfl⟩
    go_wp2_with fail
    refine (openN_nil _).mono ?_; rintro e w4 ⟨rfl, rfl⟩
    go_wp2_with fail
    refine (none_any _).mono ?_; rintro e w4 ⟨rfl, rfl⟩
    go_wp2_with fail
    refine (workingN_nil _).mono ?_; rintro e w4 ⟨rfl, rfl⟩
    go_wp2_with fail
    refine (none_any _).mono ?_; rintro e w4 ⟨rfl, rfl⟩
    go_wp2_with fail
    refine (leave_nil _).mono ?_; rintro e w4 ⟨rfl, rfl⟩
    go_wp2_with fail
    refine (over_nil _).mono ?_; rintro e w4 ⟨rfl, rfl⟩
    go_wp2_with fail
    refine (step_nilA _).mono ?_; rintro e w4 ⟨rfl, rfl⟩
    go_wp2_with fail
    refine (left_nil _).mono ?_; rintro e w4 ⟨rfl, rfl⟩
    go_wp2_with fail
    refine (FI.out _).mono ?_; rintro e w4 ⟨rfl, rfl⟩
    go_wp2_with fail
    refine (now_any q g b X l3 (0 + 2) _ S.out).mono ?_; rintro e w4 ⟨rfl, f1, f2⟩
    rw [HA.out, HB.out]
    have S := Lib.hid f1
    have B := Lib.hid (f2.below B.out (by intro i hi; simp at hi; have := P.out; omega) B.out.size)
    clear f1 f2
    go_wp2_with fail
    refine (openN_any q g b X l3 (0 + 2) (by omega) (by omega) _ S.out).mono ?_; rintro e w5 ⟨rfl, f1, f2⟩
    rw [HA.out]
    have S := Lib.hid f1
    have B := Lib.hid (f2.below B.out (by intro i hi; simp at hi; have := P.out; omega) B.out.size)
    clear f1 f2
    go_wp2_with fail
    refine (workingN_any q g b X l3 (0 + 2 + 1) (by omega) (by omega) _ S.out).mono ?_; rintro e w6 ⟨rfl, f1, f2⟩
    rw [HB.out]
    have B := Lib.hid (f2.below B.out (by intro i hi; simp at hi; have := P.out; omega) B.out.size)
    clear f1 f2 S
    go_wp2
    go_ret
    exact ⟨rfl, B.out⟩
  · have e1 : fineB x y z = false := by unfold fineB; exact decide_eq_false hf
    rw [e1] at FI
    have G := Lib.hid (fun g b W (hM : MB 0 g b (List.replicate 4 0) 0 0 0 0 0 false W) => new_bad g b (List.replicate 4 0) 0 0 0 0 0 false x y z (by simp) (by simp; omega) W hM)
    clear hf e1
    go_enter Try.func3, Try.ntmps3
    go_wp2_with fail
    refine N.out.mono ?_; rintro e w1 ⟨g, b, rfl, hg, hb, hm, hbl⟩
    have M := Lib.hid hm
    have B := Lib.hid hbl
    clear hm hbl hg hb N
    go_wp2_with fail
    refine (G.out g b _ M.out).mono ?_; rintro e w2 ⟨rfl, rfl⟩
    clear G M
    go_wp2_with fail
    refine (new_nil 0 0 1 _).mono ?_; rintro e w3 ⟨rfl, rfl⟩
    go_wp2_with fail
    refine (none_any _).mono ?_; rintro e w3 ⟨rfl, rfl⟩
    go_wp2_with fail
    refine (more_nil 1 _).mono ?_; rintro e w3 ⟨rfl, rfl⟩
    go_wp2_with fail
    refine (none_any _).mono ?_; rintro e w3 ⟨rfl, rfl⟩
    go_wp2_with fail
    refine (now_nil _).mono ?_; rintro e w3 ⟨rfl, rfl⟩
    go_wp2_with fail
    refine (C.out _).mono ?_; rintro e w3 ⟨rfl, hb⟩
    have B := Lib.hid (bl_tr B.out hb)
    clear hb C
    go_wp2_with fail
    refine (none_any _).mono ?_; rintro e w4 ⟨rfl, rfl⟩
    go_wp2_with fail
    refine (openN_nil _).mono ?_; rintro e w4 ⟨rfl, rfl⟩
    go_wp2_with fail
    refine (none_any _).mono ?_; rintro e w4 ⟨rfl, rfl⟩
    go_wp2_with fail
    refine (workingN_nil _).mono ?_; rintro e w4 ⟨rfl, rfl⟩
    go_wp2_with fail
    refine (none_any _).mono ?_; rintro e w4 ⟨rfl, rfl⟩
    go_wp2_with fail
    refine (leave_nil _).mono ?_; rintro e w4 ⟨rfl, rfl⟩
    go_wp2_with fail
    refine (over_nil _).mono ?_; rintro e w4 ⟨rfl, rfl⟩
    go_wp2_with fail
    refine (step_nilA _).mono ?_; rintro e w4 ⟨rfl, rfl⟩
    go_wp2_with fail
    refine (left_nil _).mono ?_; rintro e w4 ⟨rfl, rfl⟩
    go_wp2_with fail
    refine (FI.out _).mono ?_; rintro e w4 ⟨rfl, rfl⟩
    go_wp2
    go_ret
    exact ⟨rfl, B.out⟩
end Go.Proofs.Ytoncmgkpfjkmgaa

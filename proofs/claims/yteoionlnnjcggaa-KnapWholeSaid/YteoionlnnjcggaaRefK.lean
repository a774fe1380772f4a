/-
  What the reference's Check answers of every knapsack, and of every problem of no kind, without rows, or too great.
-/
import Derived.Test.YteoionlnnjcggaaChk4
namespace Go.Proofs.Yteoionlnnjcggaa
open Go.RowKit
set_option linter.unusedVariables false

set_option maxRecDepth 100000 in
set_option maxHeartbeats 2000000 in
theorem refk_none (K N C : Int) (hK : K < 1 ∨ 3 < K) (wa va ca : Option Addr) (wn vn cn wc vc cc : Nat) (w : World) :
    Calls Try.prog 14 #[.agg #[.int .i64 K, .int .i64 N, .int .i64 C, .slice wa wn wc, .slice va vn vc, .slice ca cn cc]] w
      fun e w' => e = .returned (.int .i64 14) ∧ Below w.heap.size w w' := by
  by_cases h : K < 1
  · clear hK
    go_enter Try.func14, Try.ntmps14
    go_wp2
    go_ret
    exact ⟨rfl, bl_al (Below.refl _ _) _⟩
  · have h3 : 3 < K := by omega
    clear hK
    go_enter Try.func14, Try.ntmps14
    go_wp2
    go_ret
    exact ⟨rfl, bl_al (Below.refl _ _) _⟩
set_option maxRecDepth 100000 in
set_option maxHeartbeats 2000000 in
theorem refk_arg (K N C : Int) (k1 : 1 ≤ K) (k3 : K ≤ 3) (h1 : N < 1) (wa va ca : Option Addr) (wn vn cn wc vc cc : Nat) (w : World) :
    Calls Try.prog 14 #[.agg #[.int .i64 K, .int .i64 N, .int .i64 C, .slice wa wn wc, .slice va vn vc, .slice ca cn cc]] w
      fun e w' => e = .returned (.int .i64 1) ∧ Below w.heap.size w w' := by
  go_enter Try.func14, Try.ntmps14
  go_wp2
  go_ret
  exact ⟨rfl, bl_al (Below.refl _ _) _⟩
set_option maxRecDepth 100000 in
set_option maxHeartbeats 2000000 in
theorem refk_big (K N C : Int) (k1 : 1 ≤ K) (k3 : K ≤ 3) (h1 : ¬ N < 1) (h2 : (K = 1 ∧ 64 < N) ∨ (K ≠ 1 ∧ 24 < N)) (wa va ca : Option Addr) (wn vn cn wc vc cc : Nat) (w : World) :
    Calls Try.prog 14 #[.agg #[.int .i64 K, .int .i64 N, .int .i64 C, .slice wa wn wc, .slice va vn vc, .slice ca cn cc]] w
      fun e w' => e = .returned (.int .i64 5) ∧ Below w.heap.size w w' := by
  rcases h2 with ⟨rfl, h2⟩ | ⟨h4, h2⟩
  · clear k1 k3
    go_enter Try.func14, Try.ntmps14
    go_wp2
    go_ret
    exact ⟨rfl, bl_al (Below.refl _ _) _⟩
  · have k2 : 1 < K := by omega
    go_enter Try.func14, Try.ntmps14
    go_wp2
    go_ret
    exact ⟨rfl, bl_al (Below.refl _ _) _⟩
set_option maxRecDepth 100000 in
set_option maxHeartbeats 2000000 in
theorem refk_form (N C : Int) (h1 : ¬ N < 1) (h2 : N ≤ 64) (wn vn cn : Nat) (h3 : ¬ ((wn : Int) = N ∧ (vn : Int) = N ∧ cn = 0)) (wa va ca : Option Addr) (wc vc cc : Nat) (w : World) :
    Calls Try.prog 14 #[.agg #[.int .i64 1, .int .i64 N, .int .i64 C, .slice wa wn wc, .slice va vn vc, .slice ca cn cc]] w
      fun e w' => e = .returned (.int .i64 8) ∧ Below w.heap.size w w' := by
  by_cases g1 : (wn : Int) = N
  · subst g1
    by_cases g2 : vn = wn
    · subst g2
      have g3 : ¬ (cn : Int) = 0 := by
        intro h
        exact h3 ⟨rfl, rfl, by omega⟩
      clear h3
      go_enter Try.func14, Try.ntmps14
      go_wp2
      go_ret
      exact ⟨rfl, bl_al (Below.refl _ _) _⟩
    · have g3 : ¬ (vn : Int) = (wn : Int) := by omega
      clear h3
      go_enter Try.func14, Try.ntmps14
      go_wp2
      go_ret
      exact ⟨rfl, bl_al (Below.refl _ _) _⟩
  · clear h3
    go_enter Try.func14, Try.ntmps14
    go_wp2
    go_ret
    exact ⟨rfl, bl_al (Below.refl _ _) _⟩
set_option maxRecDepth 100000 in
set_option maxHeartbeats 4000000 in
theorem refk_items (C : Int) (wl vl : List Int) (wa va ca : Option Addr) (wc vc cc : Nat) (w : World) (hw : Ints w wa wl) (hv : Ints w va vl) (hlen : vl.length = wl.length) (h1 : 1 ≤ wl.length) (hl : wl.length ≤ 64) :
    Calls Try.prog 14 #[.agg #[.int .i64 1, .int .i64 wl.length, .int .i64 C, .slice wa wl.length wc, .slice va vl.length vc, .slice ca 0 cc]] w
      fun e w' => e = .returned (.int .i64 (if num C = 0 then itemsE wl vl else num C)) ∧ Below w.heap.size w w' := by
  have EC := Lib.hid (fun W => number_any C W)
  have HW := Lib.hid hw
  have HV := Lib.hid hv
  have h1' : ¬ (wl.length : Int) < 1 := by omega
  have h2' : (wl.length : Int) ≤ 64 := by omega
  clear hw hv
  rw [hlen]
  by_cases hC : num C = 0
  · rw [if_pos hC]
    go_enter Try.func14, Try.ntmps14
    go_wp2_with fail
    refine (EC.out _).mono ?_; rintro e w1 ⟨rfl, rfl⟩
    go_wp2
    go_loop [4] (fun i => ∃ k : Nat, k ≤ wl.length ∧ i = .int .i64 k ∧ Hid (itemsE wl vl = itemsE (wl.drop k) (vl.drop k))) (fun i => wl.length - (intOf i).toNat)
    case atStart => exact ⟨0, by omega, rfl, rfl⟩
    case round =>
      obtain ⟨k, hk, rfl, HE⟩ := hrel
      by_cases hlt : k < wl.length
      · obtain ⟨b, o, rfl, hb, hc⟩ := HW.out k hlt
        obtain ⟨b2, o2, rfl, hb2, hc2⟩ := HV.out k (by omega)
        have hit := Lib.hid (itemsE_at hlt (show k < vl.length by omega))
        generalize wl[k]?.getD 0 = x at *
        generalize vl[k]?.getD 0 = y at *
        have EX := Lib.hid (fun W => number_any x W)
        have EY := Lib.hid (fun W => number_any y W)
        by_cases hx : num x = 0
        · by_cases hy : num y = 0
          · go_wp2_with fail
            refine (EX.out _).mono ?_; rintro e w1 ⟨rfl, rfl⟩
            go_wp2_with fail
            refine (EY.out _).mono ?_; rintro e w1 ⟨rfl, rfl⟩
            go_wp2
            go_round
            case rel => exact ⟨k + 1, by omega, by go_num, HE.out.trans (hit.out.trans (by rw [if_pos hx, if_pos hy]))⟩
            case measure => simp [intOf]; omega
          · go_wp2_with fail
            refine (EX.out _).mono ?_; rintro e w1 ⟨rfl, rfl⟩
            go_wp2_with fail
            refine (EY.out _).mono ?_; rintro e w1 ⟨rfl, rfl⟩
            go_wp2
            go_ret
            exact ⟨ret_i (HE.out.trans (hit.out.trans (by rw [if_pos hx, if_neg hy]))).symm, bl_al (Below.refl _ _) _⟩
        · go_wp2_with fail
          refine (EX.out _).mono ?_; rintro e w1 ⟨rfl, rfl⟩
          go_wp2
          go_ret
          exact ⟨ret_i (HE.out.trans (hit.out.trans (by rw [if_neg hx]))).symm, bl_al (Below.refl _ _) _⟩
      · go_wp2
        go_ret
        exact ⟨ret_i (HE.out.trans (itemsE_end (by omega))).symm, bl_al (Below.refl _ _) _⟩
  · rw [if_neg hC]
    go_enter Try.func14, Try.ntmps14
    go_wp2_with fail
    refine (EC.out _).mono ?_; rintro e w1 ⟨rfl, rfl⟩
    go_wp2
    go_ret
    exact ⟨rfl, bl_al (Below.refl _ _) _⟩
end Go.Proofs.Yteoionlnnjcggaa

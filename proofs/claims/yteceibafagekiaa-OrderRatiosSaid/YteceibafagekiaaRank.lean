/-
  What order.Rank answers.
-/
import Derived.Test.YteceibafagekiaaIs2
namespace Go.Proofs.Yteceibafagekiaa
open Go.RowKit
set_option linter.unusedVariables false

/-- how many of the m numbers behind place k are less than that at k -/
def lsc (p : List Int) (k : Nat) : Nat → Int
  | 0 => 0
  | m + 1 => lsc p k m + (if nth p (k + 1 + m) < nth p k then 1 else 0)
def rk (p : List Int) (n : Nat) : Nat → Int
  | 0 => 0
  | k + 1 => rk p n k * ((n : Int) - k) + lsc p k (n - (k + 1))
def ff (n : Nat) : Nat → Int
  | 0 => 1
  | k + 1 => ff n k * ((n : Int) - k)
theorem lsc_zero (p : List Int) (k : Nat) : lsc p k 0 = 0 := rfl
theorem lsc_yes (p : List Int) (k m : Nat) (h : nth p (k + 1 + m) < nth p k) : lsc p k (m + 1) = lsc p k m + 1 := by simp only [lsc]; rw [if_pos h]
theorem lsc_no (p : List Int) (k m : Nat) (h : ¬ nth p (k + 1 + m) < nth p k) : lsc p k (m + 1) = lsc p k m := by simp only [lsc]; rw [if_neg h, Int.add_zero]
theorem lsc_bd (p : List Int) (k : Nat) : ∀ m, 0 ≤ lsc p k m ∧ lsc p k m ≤ m
  | 0 => by rw [lsc_zero]; omega
  | m + 1 => by
    have := lsc_bd p k m
    by_cases h : nth p (k + 1 + m) < nth p k
    · rw [lsc_yes p k m h]; omega
    · rw [lsc_no p k m h]; omega
theorem rk_zero (p : List Int) (n : Nat) : rk p n 0 = 0 := rfl
theorem rk_succ (p : List Int) (n k : Nat) : rk p n (k + 1) = rk p n k * ((n : Int) - k) + lsc p k (n - (k + 1)) := rfl
theorem rk_bd (p : List Int) (n : Nat) : ∀ k, k ≤ n → 0 ≤ rk p n k ∧ rk p n k + 1 ≤ ff n k
  | 0, _ => by rw [rk_zero]; exact ⟨by omega, by show (0 : Int) + 1 ≤ 1; omega⟩
  | k + 1, hk => by
    obtain ⟨h1, h2⟩ := rk_bd p n k (by omega)
    have l := lsc_bd p k (n - (k + 1))
    have m1 := Int.mul_nonneg h1 (show 0 ≤ (n : Int) - k by omega)
    have m2 := Int.mul_le_mul_of_nonneg_right h2 (show 0 ≤ (n : Int) - k by omega)
    rw [Int.add_mul, Int.one_mul] at m2
    rw [rk_succ]
    refine ⟨by omega, ?_⟩
    show _ ≤ ff n k * ((n : Int) - k)
    omega
theorem ff_le : ∀ n, n < 21 → ∀ k, k < 21 → k ≤ n → ff n k ≤ 2432902008176640000 := by decide +kernel
theorem rk_all (p : List Int) (n k : Nat) (hn : n ≤ 20) (hk : k < n) : 0 ≤ rk p n k * ((n : Int) - k) ∧ rk p n k * ((n : Int) - k) ≤ 2432902008176640000 ∧ 0 ≤ rk p n k ∧ rk p n k ≤ 2432902008176640000 := by
  have a := rk_bd p n k (by omega)
  have b := rk_bd p n (k + 1) (by omega)
  have c := ff_le n (by omega) (k + 1) (by omega) (by omega)
  have d := ff_le n (by omega) k (by omega) (by omega)
  have l := lsc_bd p k (n - (k + 1))
  have m1 := Int.mul_nonneg a.1 (show 0 ≤ (n : Int) - k by omega)
  rw [rk_succ] at b
  exact ⟨m1, by omega, a.1, by omega⟩
attribute [irreducible] lsc rk ff
open Classical in
/-- what Rank answers -/
noncomputable def rankR (p : List Int) : Int × Int := if ¬ isP p then (0, 1) else if 20 < p.length then (0, 5) else (rk p p.length p.length, 0)
theorem rank_bad {p : List Int} (h : ¬ isP p) : rankR p = (0, 1) := by unfold rankR; rw [if_pos h]
theorem rank_big {p : List Int} (h : isP p) (h2 : 20 < p.length) : rankR p = (0, 5) := by unfold rankR; rw [if_neg (by simp [h]), if_pos h2]
theorem rank_ok {p : List Int} (h : isP p) (h2 : ¬ 20 < p.length) : rankR p = (rk p p.length p.length, 0) := by unfold rankR; rw [if_neg (by simp [h]), if_neg h2]
attribute [irreducible] rankR
open Classical in
set_option maxRecDepth 100000 in
set_option maxHeartbeats 2000000 in
theorem rank_any (p : List Int) (hn : p.length ≤ 1000) (a : Option Addr) (c : Nat) (hc : p.length ≤ c) (hc2 : c ≤ 9223372036854775807) (w : World) (hI : Ints w a p) :
    Calls Try.prog 19 #[.slice a p.length c] w fun e w' => e = .returned (.tuple #[.int .i64 (rankR p).1, .int .i64 (rankR p).2]) ∧ Below w.heap.size w w' := by
  have HIs := Lib.hid (is_any p hn a c w hI)
  by_cases h1 : isP p
  · have e1 : decide (isP p) = true := by simpa using h1
    rw [e1] at HIs
    by_cases h2 : 20 < p.length
    · rw [rank_big h1 h2]
      clear hI h1 e1
      generalize p.length = n at *
      have h2' : (20 : Int) < (n : Int) := by omega
      go_enter Try.func19, Try.ntmps19
      go_wp2_with fail
      refine HIs.out.mono ?_; rintro e w1 ⟨rfl, hb1⟩
      go_wp2
      go_ret2
      exact ⟨rfl, hb1⟩
    · rw [rank_ok h1 h2]
      have HI := Lib.hid (fun (W : World) (h : Below w.heap.size w W) j (hj : j < p.length) => hI.keep h j hj)
      clear hI h1 e1
      generalize p.length = n at *
      have h2' : ¬ (20 : Int) < (n : Int) := by omega
      go_enter Try.func19, Try.ntmps19
      go_wp2_with fail
      refine HIs.out.mono ?_; rintro e w1 ⟨rfl, hb1⟩
      have HB := Lib.hid hb1
      clear hb1 HIs
      go_wp2
      go_loop [4, 19] (fun r i => ∃ k : Nat, k ≤ n ∧ r = .int .i64 (rk p n k) ∧ i = .int .i64 k) (fun _ i => n - (intOf i).toNat)
      case atStart => exact ⟨0, by omega, by rw [rk_zero], rfl⟩
      case round =>
        obtain ⟨k, hk, rfl, rfl⟩ := hrel
        by_cases hlt : k < n
        · obtain ⟨b, o, rfl, lb, cb⟩ := HI.out w1 HB.out k hlt
          obtain ⟨m1, m2, m3, m4⟩ := rk_all p n k (by omega) hlt
          have HS := Lib.hid (rk_succ p n k)
          have hmul : ∃ P, P = rk p n k * ((n : Int) - k) := ⟨_, rfl⟩
          obtain ⟨P, hP⟩ := hmul
          rw [← hP] at m1 m2 HS
          have hP' := hP.symm
          clear hP
          generalize rk p n k = R at *
          by_cases hlast : k + 1 = n
          · have HF := Lib.hid (show rk p n (k + 1) = P from by rw [HS.out, show n - (k + 1) = 0 by omega, lsc_zero, Int.add_zero])
            rw [hlast] at HF
            have s1 : ((k : Int) + 1) = (n : Int) := by omega
            clear HS
            have s2 : (0 : Int) ≤ (k : Int) + 1 := by omega
            by_cases hcn : c = n
            · subst hcn
              go_wp2
              go_loop [4, 35] (fun r i => r = .int .i64 P ∧ i = .int .i64 0) (fun _ _ => 0)
              case atStart => exact ⟨rfl, rfl⟩
              case round =>
                obtain ⟨rfl, rfl⟩ := hrel
                go_wp2
                go_round
                case rel => exact ⟨c, by omega, by rw [HF.out], by first | rfl | go_num⟩
                case measure => simp [intOf]; omega
            · have hcn2 : n < c := by omega
              go_wp2
              go_loop [4, 35] (fun r i => r = .int .i64 P ∧ i = .int .i64 0) (fun _ _ => 0)
              case atStart => exact ⟨rfl, rfl⟩
              case round =>
                obtain ⟨rfl, rfl⟩ := hrel
                go_wp2
                go_round
                case rel => exact ⟨n, by omega, by rw [HF.out], by first | rfl | go_num⟩
                case measure => simp [intOf]; omega
          · have s2 : (0 : Int) ≤ (k : Int) + 1 := by omega
            have s3 : (k : Int) + 1 ≤ (n : Int) := by omega
            have s4 : k + 1 < c := by omega
            have HL := Lib.hid (lsc_bd p k)
            have HY := Lib.hid (lsc_yes p k)
            have HN := Lib.hid (lsc_no p k)
            have H0 := Lib.hid (lsc_zero p k)
            go_wp2
            go_loop [4, 35] (fun r i => ∃ m : Nat, m ≤ n - (k + 1) ∧ r = .int .i64 (P + lsc p k m) ∧ i = .int .i64 m) (fun _ i => (n - (k + 1)) - (intOf i).toNat)
            case atStart => exact ⟨0, by omega, by rw [H0.out, Int.add_zero], rfl⟩
            case round =>
              obtain ⟨m, hm, rfl, rfl⟩ := hrel
              obtain ⟨l1, l2⟩ := HL.out m
              by_cases hmlt : m < n - (k + 1)
              · obtain ⟨b2, o2, e2, lb2, cb2⟩ := HI.out w1 HB.out (k + 1 + m) (by omega)
                simp only [Option.some.injEq, Addr.mk.injEq, and_true] at e2
                obtain ⟨rfl, rfl⟩ := e2
                rw [show o + (k + 1 + m) = o + (k + 1) + m by omega] at cb2
                by_cases hx : nth p (k + 1 + m) < nth p k
                · have h3 := Lib.hid (HY.out m (by omega))
                  generalize nth p (k + 1 + m) = t at *
                  generalize nth p k = s at *
                  generalize lsc p k m = L at *
                  go_wp2
                  go_round
                  case rel => exact ⟨m + 1, by omega, by rw [h3.out, ← Int.add_assoc], by go_num⟩
                  case measure => simp [intOf]; omega
                · have h3 := Lib.hid (HN.out m (by omega))
                  generalize nth p (k + 1 + m) = t at *
                  generalize nth p k = s at *
                  generalize lsc p k m = L at *
                  go_wp2
                  go_round
                  case rel => exact ⟨m + 1, by omega, by rw [h3.out], by go_num⟩
                  case measure => simp [intOf]; omega
              · obtain rfl : m = n - (k + 1) := by omega
                have hS := Lib.hid HS.out
                generalize lsc p k (n - (k + 1)) = L at *
                go_wp2
                go_round
                case rel => exact ⟨k + 1, by omega, by rw [hS.out], by go_num⟩
                case measure => simp [intOf]; omega
        · obtain rfl : n = k := by omega
          go_wp2
          go_ret2
          exact ⟨rfl, HB.out⟩
  · have e1 : decide (isP p) = false := by simpa using h1
    rw [e1] at HIs
    rw [rank_bad h1]
    clear hI h1 e1
    generalize p.length = n at *
    go_enter Try.func19, Try.ntmps19
    go_wp2_with fail
    refine HIs.out.mono ?_; rintro e w1 ⟨rfl, hb1⟩
    go_wp2
    go_ret2
    exact ⟨rfl, hb1⟩
end Go.Proofs.Yteceibafagekiaa

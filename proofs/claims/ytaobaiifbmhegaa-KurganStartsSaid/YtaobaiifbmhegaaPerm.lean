/-
  What the reference's Perm answers.
-/
import Derived.Test.YtaobaiifbmhegaaBd
namespace Go.Proofs.Ytaobaiifbmhegaa
open Go.RowKit
set_option linter.unusedVariables false

def cnt (x : List Int) (k i : Nat) : Nat := (x.take i).count (k : Int)
theorem cnt_zero (x : List Int) (k : Nat) : cnt x k 0 = 0 := by unfold cnt; simp
theorem cnt_hit (x : List Int) (k i : Nat) (hi : i < x.length) (h : nth x i = (k : Int)) : cnt x k (i + 1) = cnt x k i + 1 := by
  unfold cnt
  rw [List.take_succ_eq_append_getElem hi, List.count_append, ← nth_at x i hi, h]
  simp
theorem cnt_miss (x : List Int) (k i : Nat) (hi : i < x.length) (h : ¬ nth x i = (k : Int)) : cnt x k (i + 1) = cnt x k i := by
  unfold cnt
  rw [List.take_succ_eq_append_getElem hi, List.count_append, ← nth_at x i hi]
  rw [List.count_singleton]
  simp [h]
theorem cnt_all (x : List Int) (k : Nat) : cnt x k x.length = x.count (k : Int) := by unfold cnt; rw [List.take_length]
theorem cnt_le (x : List Int) (k i : Nat) (hi : i ≤ x.length) : cnt x k i ≤ i := by
  unfold cnt
  have := List.count_le_length (a := (k : Int)) (l := x.take i)
  simp at this
  omega
attribute [irreducible] cnt
set_option maxHeartbeats 1000000 in
theorem perm_core (x : List Int) (b : Bool) (hb : b = true ↔ ∀ k, k < x.length → x.count (k : Int) = 1) (hl : x.length ≤ 1000) (a : Option Addr) (c : Nat) (w : World) (hI : Ints w a x) :
    Calls Try.prog 37 #[.slice a x.length c, .int .i64 x.length] w fun e w' => e = .returned (.bool b) ∧ w = w' := by
  have HB := Lib.hid hb
  have H1 := Lib.hid (cnt_hit x)
  have H2 := Lib.hid (cnt_miss x)
  have H0 := Lib.hid (cnt_zero x)
  have HA := Lib.hid (cnt_all x)
  have HL := Lib.hid (cnt_le x)
  have HI := Lib.hid (fun j (hj : j < x.length) => ints_nth hI (j := j) hj)
  clear hb hI
  generalize x.length = n at *
  go_enter Try.func37, Try.ntmps37
  go_wp2
  go_loop [5] (fun i => ∃ k : Nat, k ≤ n ∧ i = .int .i64 k ∧ Hid (∀ j, j < k → x.count (j : Int) = 1)) (fun i => n - (intOf i).toNat)
  case atStart => exact ⟨0, by omega, rfl, fun j hj => absurd hj (by omega)⟩
  case round =>
    obtain ⟨k, hk, rfl, HK⟩ := hrel
    by_cases hlt : k < n
    · go_wp2
      go_loop [6, 7] (fun f i => ∃ j : Nat, j ≤ n ∧ f = .int .i64 (cnt x k j) ∧ i = .int .i64 j) (fun _ i => n - (intOf i).toNat)
      case atStart => exact ⟨0, by omega, by rw [H0.out]; rfl, rfl⟩
      case round =>
        obtain ⟨j, hj, rfl, rfl⟩ := hrel
        by_cases hlt2 : j < n
        · obtain ⟨b1, o1, rfl, hb1, hc1⟩ := HI.out j hlt2
          have h1 := Lib.hid (H1.out k j hlt2)
          have h2 := Lib.hid (H2.out k j hlt2)
          have h3 := HL.out k j (by omega)
          generalize nth x j = t at *
          by_cases ht : t = (k : Int)
          · have h4 := Lib.hid (h1.out ht)
            subst ht
            clear h1 h2
            generalize cnt x k j = f at *
            go_wp2
            go_round
            case rel => exact ⟨j + 1, by omega, by rw [h4.out]; go_num, by go_num⟩
            case measure => simp [intOf]; omega
          · have h4 := Lib.hid (h2.out ht)
            have ht' : (t == (k : Int)) = false := by simp [ht]
            clear h1 h2
            generalize cnt x k j = f at *
            go_wp2
            go_round
            case rel => exact ⟨j + 1, by omega, by rw [h4.out], by go_num⟩
            case measure => simp [intOf]; omega
        · obtain rfl : n = j := by omega
          have ha := HA.out k
          by_cases h1 : x.count (k : Int) = 1
          · have HK2 : Hid (∀ j, j < k + 1 → x.count (j : Int) = 1) := fun j hj => by
              rcases Nat.lt_or_ge j k with h | h
              · exact HK.out j h
              · obtain rfl : j = k := by omega
                exact h1
            rw [ha, h1]
            clear ha h1
            go_wp2
            go_round
            case rel => exact ⟨k + 1, by omega, by go_num, HK2⟩
            case measure => simp [intOf]; omega
          · have hbf : b = false := by
              cases b
              · rfl
              · exact absurd (HB.out.1 rfl k hlt) h1
            subst hbf
            rw [ha]
            generalize x.count (k : Int) = f at *
            have h1' : ((f : Int) == 1) = false := by simp; omega
            have h1'' : ((f : Int) != 1) = true := by simp; omega
            clear ha h1
            go_wp2
            go_ret
            exact ⟨rfl, rfl⟩
    · obtain rfl : n = k := by omega
      have hbt : b = true := HB.out.2 HK.out
      subst hbt
      go_wp2
      go_ret
      exact ⟨rfl, rfl⟩
open Classical in
theorem perm_any (x : List Int) (N : Int) (hN : 1 ≤ N) (hl : x.length ≤ 1000) (a : Option Addr) (c : Nat) (w : World) (hI : Ints w a x) :
    Calls Try.prog 37 #[.slice a x.length c, .int .i64 N] w fun e w' => e = .returned (.bool (decide ((x.length : Int) = N ∧ permP x N.toNat))) ∧ w = w' := by
  by_cases h : (x.length : Int) = N
  · subst h
    refine perm_core x _ ?_ hl a c w hI
    simp only [decide_eq_true_eq, true_and, Int.toNat_natCast]
    exact (perm_count x x.length rfl).symm
  · have e : decide ((x.length : Int) = N ∧ permP x N.toNat) = false := by simp [h]
    rw [e]
    generalize x.length = n at *
    clear e hI
    go_enter Try.func37, Try.ntmps37
    go_wp2
    go_ret
    exact ⟨rfl, rfl⟩
end Go.Proofs.Ytaobaiifbmhegaa

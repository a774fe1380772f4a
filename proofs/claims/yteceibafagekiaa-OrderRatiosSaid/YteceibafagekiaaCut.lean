/-
  What cut and the reference's Is answer.
-/
import Derived.Test.YteceibafagekiaaClone
namespace Go.Proofs.Yteceibafagekiaa
open Go.RowKit
set_option linter.unusedVariables false

def cnt (x : List Int) (k i : Nat) : Nat := (x.take i).count (k : Int)
theorem cnt_zero (x : List Int) (k : Nat) : cnt x k 0 = 0 := by unfold cnt; simp
theorem cnt_hit (x : List Int) (k i : Nat) (hi : i < x.length) (h : nth x i = (k : Int)) : cnt x k (i + 1) = cnt x k i + 1 := by
  unfold cnt
  rw [List.take_succ_eq_append_getElem hi, List.count_append, ← nth_at x i hi, h]
  simp
theorem cnt_miss (x : List Int) (k i : Nat) (hi : i < x.length) (h : ¬ nth x i = (k : Int)) : cnt x k (i + 1) = cnt x k i := by
  unfold cnt
  rw [List.take_succ_eq_append_getElem hi, List.count_append, ← nth_at x i hi]
  rw [List.count_singleton]
  simp [h]
theorem cnt_all (x : List Int) (k : Nat) : cnt x k x.length = x.count (k : Int) := by unfold cnt; rw [List.take_length]
theorem cnt_le (x : List Int) (k i : Nat) (hi : i ≤ x.length) : cnt x k i ≤ i := by
  unfold cnt
  have := List.count_le_length (a := (k : Int)) (l := x.take i)
  simp at this
  omega
attribute [irreducible] cnt
set_option maxHeartbeats 1000000 in
theorem refIs_core (x : List Int) (b : Bool) (hb : b = true ↔ ∀ k, k < x.length → x.count (k : Int) = 1) (hl : x.length ≤ 1000) (a : Option Addr) (c : Nat) (w : World) (hI : Ints w a x) :
    Calls Try.prog 18 #[.slice a x.length c] w fun e w' => e = .returned (.bool b) ∧ w = w' := by
  have HB := Lib.hid hb
  have H1 := Lib.hid (cnt_hit x)
  have H2 := Lib.hid (cnt_miss x)
  have H0 := Lib.hid (cnt_zero x)
  have HA := Lib.hid (cnt_all x)
  have HL := Lib.hid (cnt_le x)
  have HI := Lib.hid (fun j (hj : j < x.length) => hI j hj)
  clear hb hI
  generalize x.length = n at *
  go_enter Try.func18, Try.ntmps18
  go_wp2
  go_loop [3] (fun i => ∃ k : Nat, k ≤ n ∧ i = .int .i64 k ∧ Hid (∀ j, j < k → x.count (j : Int) = 1)) (fun i => n - (intOf i).toNat)
  case atStart => exact ⟨0, by omega, rfl, fun j hj => absurd hj (by omega)⟩
  case round =>
    obtain ⟨k, hk, rfl, HK⟩ := hrel
    by_cases hlt : k < n
    · go_wp2
      go_loop [4, 5] (fun f i => ∃ j : Nat, j ≤ n ∧ f = .int .i64 (cnt x k j) ∧ i = .int .i64 j) (fun _ i => n - (intOf i).toNat)
      case atStart => exact ⟨0, by omega, by rw [H0.out]; rfl, rfl⟩
      case round =>
        obtain ⟨j, hj, rfl, rfl⟩ := hrel
        by_cases hlt2 : j < n
        · obtain ⟨b1, o1, rfl, hb1, hc1⟩ := HI.out j hlt2
          have h1 := Lib.hid (H1.out k j hlt2)
          have h2 := Lib.hid (H2.out k j hlt2)
          have h3 := HL.out k j (by omega)
          generalize nth x j = t at *
          by_cases ht : t = (k : Int)
          · have h4 := Lib.hid (h1.out ht)
            subst ht
            clear h1 h2
            generalize cnt x k j = f at *
            go_wp2
            go_round
            case rel => exact ⟨j + 1, by omega, by rw [h4.out]; go_num, by go_num⟩
            case measure => simp [intOf]; omega
          · have h4 := Lib.hid (h2.out ht)
            have ht' : (t == (k : Int)) = false := by simp [ht]
            clear h1 h2
            generalize cnt x k j = f at *
            go_wp2
            go_round
            case rel => exact ⟨j + 1, by omega, by rw [h4.out], by go_num⟩
            case measure => simp [intOf]; omega
        · obtain rfl : n = j := by omega
          have ha := HA.out k
          by_cases h1 : x.count (k : Int) = 1
          · have HK2 : Hid (∀ j, j < k + 1 → x.count (j : Int) = 1) := fun j hj => by
              rcases Nat.lt_or_ge j k with h | h
              · exact HK.out j h
              · obtain rfl : j = k := by omega
                exact h1
            rw [ha, h1]
            clear ha h1
            go_wp2
            go_round
            case rel => exact ⟨k + 1, by omega, by go_num, HK2⟩
            case measure => simp [intOf]; omega
          · have hbf : b = false := by
              cases b
              · rfl
              · exact absurd (HB.out.1 rfl k hlt) h1
            subst hbf
            rw [ha]
            generalize x.count (k : Int) = f at *
            have h1' : ((f : Int) == 1) = false := by simp; omega
            have h1'' : ((f : Int) != 1) = true := by simp; omega
            clear ha h1
            go_wp2
            go_ret
            exact ⟨rfl, rfl⟩
    · obtain rfl : n = k := by omega
      have hbt : b = true := HB.out.2 HK.out
      subst hbt
      go_wp2
      go_ret
      exact ⟨rfl, rfl⟩
open Classical in
theorem refIs_any (p : List Int) (hl : p.length ≤ 1000) (a : Option Addr) (c : Nat) (w : World) (hI : Ints w a p) :
    Calls Try.prog 18 #[.slice a p.length c] w fun e w' => e = .returned (.bool (decide (isP p))) ∧ w = w' :=
  refIs_core p _ (by simp only [decide_eq_true_eq]; exact Iff.rfl) hl a c w hI
/-- a list that came in: its first K numbers -/
def Arg (K : Nat) (W : World) (a : Option Addr) (n c : Nat) (l : List Int) : Prop :=
  (a = none ∧ n = 0 ∧ c = 0 ∧ l = []) ∨ (∃ ad, a = some ad ∧ n = 0 ∧ c ≤ 9223372036854775807 ∧ l = []) ∨
  ∃ b o, a = some ⟨b, o, none⟩ ∧ n ≤ c ∧ c ≤ 9223372036854775807 ∧ b < W.heap.size ∧ (∀ j, j < l.length → W.cell? ⟨b, o + j, none⟩ = some (.int .i64 (nth l j))) ∧ ((n ≤ K ∧ l.length = n) ∨ (K < n ∧ l.length = K))
theorem Arg.keep {K : Nat} {W W1 : World} {a : Option Addr} {n c : Nat} {l : List Int} (h : Arg K W a n c l) (hb : Below W.heap.size W W1) : Arg K W1 a n c l := by
  rcases h with h | h | ⟨b, o, e, h1, h2, h3, h4, h5⟩
  · exact Or.inl h
  · exact Or.inr (Or.inl h)
  · exact Or.inr (Or.inr ⟨b, o, e, h1, h2, Nat.lt_of_lt_of_le h3 hb.size, fun j hj => (hb.cell (p := ⟨b, o + j, none⟩) h3).trans (h4 j hj), h5⟩)
theorem Arg.len {K : Nat} {W : World} {a : Option Addr} {n c : Nat} {l : List Int} (h : Arg K W a n c l) : l.length ≤ K := by
  rcases h with ⟨_, _, _, rfl⟩ | ⟨_, _, _, _, rfl⟩ | ⟨b, o, e, h1, h2, h3, h4, h5⟩
  · simp
  · simp
  · omega
set_option maxHeartbeats 1000000 in
theorem cut_any (K : Nat) (hK : K ≤ 1000) (l : List Int) (a : Option Addr) (n c : Nat) (w : World) (h : Arg K w a n c l) :
    Calls Try.prog 8 #[.slice a n c, .int .i64 K] w fun e w' => ∃ g cap, e = .returned (.slice (some ⟨g, 0, none⟩) l.length cap) ∧ Own w.heap.size g l.length cap l w w' := by
  obtain ⟨i0, hi, hz0, hz1, hz2⟩ := info_parts info3
  have ho := own0 w
  rcases h with ⟨rfl, rfl, rfl, rfl⟩ | ⟨ad, rfl, rfl, q2, rfl⟩ | ⟨b, o, rfl, q1, q2, q3, q4, q5⟩
  · have hm : min (0 : Int) (K : Int) = 0 := by omega
    have HO : Hid (Own w.heap.size w.heap.size 0 0 [] w (w.alloc (.cells #[] 3))) := ⟨rfl, Nat.le_refl _, ho, bl_al (Below.refl _ _) _⟩
    simp only [List.length_nil]
    go_enter Try.func8, Try.ntmps8
    go_wp2
    go_ret
    exact ⟨_, _, rfl, HO.out⟩
  · have hm : min (0 : Int) (K : Int) = 0 := by omega
    simp only [List.length_nil]
    go_enter Try.func8, Try.ntmps8
    go_wp2_with (at_builtin; refine wpList_append_own _ rfl _ _ 22 rfl w.heap.size 3 i0 (.int .i64 0) 1 8 Try.underlying22 hi hz0 hz1 hz2 rfl (by decide) _ _ _ rfl ho ad 0 c [] rfl rfl (fun j u h => by simp at h) (by simp) (by decide) (by decide) (by simp) ?_)
    intro v' w1 hown hgrow hne
    obtain ⟨g, cap, rfl⟩ := own_form hown (by simpa using hne)
    have HB := Lib.hid ((bl_al (Below.refl _ _) _).grown hgrow (by simp) (fun j hj => by simp [Value.ownBlock] at hj; omega) : Below w.heap.size w w1)
    have HO := Lib.hid hown
    clear hgrow hown hne
    go_wp2
    go_ret
    exact ⟨g, _, rfl, own_of (l := []) HO.out HB.out⟩
  · have HNs := Lib.hid (app_src q3 q4)
    have HOf := Lib.hid (fun (w1 : World) (g cap : Nat) h1 h2 => own_of (w := w) (w1 := w1) (g := g) (cap := cap) (l := l) h1 h2)
    clear q4
    generalize hn : l.length = m at *
    have HN := Lib.hid hn
    clear hn
    rcases q5 with ⟨q5, rfl⟩ | ⟨q5, rfl⟩
    · have hm : min (m : Int) (K : Int) = (m : Int) := by omega
      go_enter Try.func8, Try.ntmps8
      go_wp2_with (at_builtin; refine wpList_append_own _ rfl _ _ 22 rfl w.heap.size 3 i0 (.int .i64 0) 1 8 Try.underlying22 hi hz0 hz1 hz2 rfl (by decide) _ _ _ rfl ho ⟨b, o, none⟩ _ c (l.map (Value.int .i64)) rfl (by simp [HN.out]) HNs.out (by simp [Value.oneCell']) (by unfold maxLen; omega) (by omega) (by simp) ?_)
      intro v' w1 hown hgrow hne
      obtain ⟨g, cap, rfl⟩ := own_form hown hne
      have HB := Lib.hid ((bl_al (Below.refl _ _) _).grown hgrow (by simp) (fun j hj => by simp [Value.ownBlock] at hj; omega) : Below w.heap.size w w1)
      have HO := Lib.hid hown
      clear hgrow hown hne
      go_wp2
      go_ret
      exact ⟨g, _, rfl, HOf.out w1 g _ (by simpa using HO.out) HB.out⟩
    · have hm : min (n : Int) (m : Int) = (m : Int) := by omega
      go_enter Try.func8, Try.ntmps8
      go_wp2_with (at_builtin; refine wpList_append_own _ rfl _ _ 22 rfl w.heap.size 3 i0 (.int .i64 0) 1 8 Try.underlying22 hi hz0 hz1 hz2 rfl (by decide) _ _ _ rfl ho ⟨b, o, none⟩ _ c (l.map (Value.int .i64)) rfl (by simp [HN.out]) HNs.out (by simp [Value.oneCell']) (by unfold maxLen; omega) (by omega) (by simp) ?_)
      intro v' w1 hown hgrow hne
      obtain ⟨g, cap, rfl⟩ := own_form hown hne
      have HB := Lib.hid ((bl_al (Below.refl _ _) _).grown hgrow (by simp) (fun j hj => by simp [Value.ownBlock] at hj; omega) : Below w.heap.size w w1)
      have HO := Lib.hid hown
      clear hgrow hown hne
      go_wp2
      go_ret
      exact ⟨g, _, rfl, HOf.out w1 g _ (by simpa using HO.out) HB.out⟩
end Go.Proofs.Yteceibafagekiaa

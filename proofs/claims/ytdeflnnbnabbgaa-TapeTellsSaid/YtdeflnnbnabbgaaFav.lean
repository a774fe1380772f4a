/-
  What Favor, Round, may and the reference's Fine and Favor answer.
-/
import Derived.Test.YtdeflnnbnabbgaaBase
namespace Go.Proofs.Ytdeflnnbnabbgaa
open Go.RowKit
set_option linter.unusedVariables false

/-- pick j of those that favor one -/
def fvAt (n who e : Nat) (j : Nat) : Int := if j % e = e - 1 then ((j / e % n : Nat) : Int) else (who : Int)
def FV (n who e k : Nat) : List Int := (List.range k).map (fvAt n who e)
/-- the first k of them, then noughts -/
def FM (n who e count k : Nat) : List Int := (List.range count).map fun j => if j < k then fvAt n who e j else 0
theorem FV_len (n who e k : Nat) : (FV n who e k).length = k := by simp [FV]
theorem FV_nth (n who e k j : Nat) (h : j < k) : nth (FV n who e k) j = fvAt n who e j := by
  rw [nth_at _ j (by rw [FV_len]; exact h)]; simp [FV]
theorem FV_zero (n who e : Nat) : FV n who e 0 = [] := rfl
theorem FV_succ (n who e k : Nat) : FV n who e (k + 1) = FV n who e k ++ [fvAt n who e k] := by simp [FV, List.range_succ]
theorem FM_len (n who e count k : Nat) : (FM n who e count k).length = count := by simp [FM]
theorem FM_nth (n who e count k j : Nat) (h : j < count) : nth (FM n who e count k) j = if j < k then fvAt n who e j else 0 := by
  rw [nth_at _ j (by rw [FM_len]; exact h)]; simp [FM]
theorem FM_zero (n who e count : Nat) : List.replicate count 0 = FM n who e count 0 := nth_ext _ _ (by rw [FM_len]; simp) (fun i hi => by
  simp at hi
  rw [FM_nth _ _ _ _ _ i hi, if_neg (by omega), nth_at _ i (by simpa using hi)]; simp)
theorem FM_all (n who e count : Nat) : FM n who e count count = FV n who e count := nth_ext _ _ (by rw [FM_len, FV_len]) (fun i hi => by
  rw [FM_len] at hi
  rw [FM_nth _ _ _ _ _ i hi, if_pos hi, FV_nth _ _ _ _ i hi])
theorem FM_set (n who e count k : Nat) (v : Int) (hv : v = fvAt n who e k) (h : k < count) : (FM n who e count k).set k v = FM n who e count (k + 1) := nth_ext _ _ (by simp [FM_len]) (fun i hi => by
  simp [FM_len] at hi
  rw [nth_set _ _ _ _ (by rw [FM_len]; omega), FM_nth n who e count (k + 1) i hi]
  by_cases h1 : k = i
  · subst h1; rw [if_pos rfl, if_pos (by omega)]; exact hv
  · rw [if_neg h1, FM_nth n who e count k i hi]
    by_cases h2 : i < k
    · rw [if_pos h2, if_pos (by omega)]
    · rw [if_neg h2, if_neg (by omega)])
theorem fv_yes (n who e k : Nat) (h : k % e = e - 1) : ((k / e % n : Nat) : Int) = fvAt n who e k := by unfold fvAt; rw [if_pos h]
theorem fv_no (n who e k : Nat) (h : ¬ k % e = e - 1) : (who : Int) = fvAt n who e k := by unfold fvAt; rw [if_neg h]
theorem FM_set2 (n who e count k : Nat) (u v : Int) (hv : v = fvAt n who e k) (h : k < count) : ((FM n who e count k).set k u).set k v = FM n who e count (k + 1) := by
  rw [List.set_set]; exact FM_set n who e count k v hv h
theorem div_step (e k : Nat) (he : 1 ≤ e) : (k + 1) / e = k / e + if k % e = e - 1 then 1 else 0 := by
  rw [Nat.succ_div]
  congr 1
  by_cases h : k % e = e - 1
  · rw [if_pos h, if_pos]
    refine Nat.dvd_of_mod_eq_zero ?_
    have hd := Nat.div_add_mod k e
    have : k + 1 = e * (k / e + 1) := by rw [Nat.mul_add]; omega
    rw [this]
    exact Nat.mul_mod_right _ _
  · rw [if_neg h, if_neg]
    intro hd
    have h1 := Nat.mod_eq_zero_of_dvd hd
    have h2 := Nat.mod_lt k (show e > 0 by omega)
    rw [Nat.add_mod] at h1
    by_cases e1 : e = 1
    · subst e1; omega
    · rw [Nat.mod_eq_of_lt (show 1 < e by omega), Nat.mod_eq_of_lt (by omega)] at h1
      omega
attribute [irreducible] FV FM fvAt

/-- so many picks of so many -/
def okN (n c : Int) : Prop := 1 ≤ n ∧ n ≤ 16 ∧ 0 ≤ c ∧ c ≤ 1000000
theorem may_yes (n c : Int) (h : okN n c) (w : World) : Calls Try.prog 23 #[.int .i64 n, .int .i64 c] w fun e w' => e = .returned (.bool true) ∧ w = w' := by
  obtain ⟨h1, h2, h3, h4⟩ := h
  go_enter Try.func23, Try.ntmps23
  go_wp2
  go_ret
  exact ⟨rfl, rfl⟩
theorem may_no (n c : Int) (h : ¬ okN n c) (w : World) : Calls Try.prog 23 #[.int .i64 n, .int .i64 c] w fun e w' => e = .returned (.bool false) ∧ w = w' := by
  unfold okN at h
  by_cases h1 : 1 ≤ n
  · by_cases h2 : n ≤ 16
    · by_cases h3 : 0 ≤ c
      · have h4 : decide (c ≤ 1000000) = false := decide_eq_false (by omega)
        clear h
        go_enter Try.func23, Try.ntmps23
        go_wp2
        go_ret
        exact ⟨rfl, rfl⟩
      · have h4 : decide (0 ≤ c) = false := decide_eq_false h3
        clear h h3
        go_enter Try.func23, Try.ntmps23
        go_wp2
        go_ret
        exact ⟨rfl, rfl⟩
    · have h4 : decide (n ≤ 16) = false := decide_eq_false h2
      clear h h2
      go_enter Try.func23, Try.ntmps23
      go_wp2
      go_ret
      exact ⟨rfl, rfl⟩
  · have h4 : decide (1 ≤ n) = false := decide_eq_false h1
    clear h h1
    go_enter Try.func23, Try.ntmps23
    go_wp2
    go_ret
    exact ⟨rfl, rfl⟩
theorem fine_yes (n c : Int) (h : okN n c) (w : World) : Calls Try.prog 22 #[.int .i64 n, .int .i64 c] w fun e w' => e = .returned (.bool true) ∧ w = w' := by
  obtain ⟨h1, h2, h3, h4⟩ := h
  go_enter Try.func22, Try.ntmps22
  go_wp2
  go_ret
  exact ⟨rfl, rfl⟩
theorem fine_no (n c : Int) (h : ¬ okN n c) (w : World) : Calls Try.prog 22 #[.int .i64 n, .int .i64 c] w fun e w' => e = .returned (.bool false) ∧ w = w' := by
  unfold okN at h
  by_cases h1 : 1 ≤ n
  · by_cases h2 : n ≤ 16
    · by_cases h3 : 0 ≤ c
      · have h4 : decide (c ≤ 1000000) = false := decide_eq_false (by omega)
        clear h
        go_enter Try.func22, Try.ntmps22
        go_wp2
        go_ret
        exact ⟨rfl, rfl⟩
      · have h4 : decide (0 ≤ c) = false := decide_eq_false h3
        clear h h3
        go_enter Try.func22, Try.ntmps22
        go_wp2
        go_ret
        exact ⟨rfl, rfl⟩
    · have h4 : decide (n ≤ 16) = false := decide_eq_false h2
      clear h h2
      go_enter Try.func22, Try.ntmps22
      go_wp2
      go_ret
      exact ⟨rfl, rfl⟩
  · have h4 : decide (1 ≤ n) = false := decide_eq_false h1
    clear h h1
    go_enter Try.func22, Try.ntmps22
    go_wp2
    go_ret
    exact ⟨rfl, rfl⟩


/-- the picks that are asked for are made -/
def okF (n who e c : Int) : Prop := okN n c ∧ 0 ≤ who ∧ who < n ∧ 1 ≤ e
theorem favor_no (n who e c : Int) (h : ¬ okF n who e c) (w : World) : Calls Try.prog 17 #[.int .i64 n, .int .i64 who, .int .i64 e, .int .i64 c] w fun E w' => E = .returned (.slice none 0 0) ∧ w = w' := by
  unfold okF at h
  by_cases h1 : okN n c
  · have HM := Lib.hid (fun W => may_yes n c h1 W)
    have h1' := h1
    clear h1
    obtain ⟨_, _, _, _⟩ := h1'
    by_cases h2 : who < 0
    · clear h
      go_enter Try.func17, Try.ntmps17
      go_wp2_with fail
      refine (HM.out _).mono ?_; rintro e w1 ⟨rfl, rfl⟩
      go_wp2
      go_ret
      exact ⟨rfl, rfl⟩
    · have d2 : decide (who < 0) = false := decide_eq_false h2
      by_cases h3 : n ≤ who
      · clear h
        go_enter Try.func17, Try.ntmps17
        go_wp2_with fail
        refine (HM.out _).mono ?_; rintro e w1 ⟨rfl, rfl⟩
        go_wp2
        go_ret
        exact ⟨rfl, rfl⟩
      · have d3 : decide (n ≤ who) = false := decide_eq_false h3
        have h4 : e < 1 := by
          rcases Int.lt_or_le e 1 with h4 | h4
          · exact h4
          · exact absurd ⟨⟨by assumption, by assumption, by assumption, by assumption⟩, by omega, by omega, h4⟩ h
        clear h h3 h2
        go_enter Try.func17, Try.ntmps17
        go_wp2_with fail
        refine (HM.out _).mono ?_; rintro e w1 ⟨rfl, rfl⟩
        go_wp2
        go_ret
        exact ⟨rfl, rfl⟩
  · have HM := Lib.hid (fun W => may_no n c h1 W)
    clear h h1
    go_enter Try.func17, Try.ntmps17
    go_wp2_with fail
    refine (HM.out _).mono ?_; rintro e w1 ⟨rfl, rfl⟩
    go_wp2
    go_ret
    exact ⟨rfl, rfl⟩
set_option maxRecDepth 100000 in
set_option maxHeartbeats 4000000 in
theorem favor_ok (n who e count : Nat) (hn1 : 1 ≤ n) (hn : n ≤ 16) (hw : who < n) (he : 1 ≤ e) (he2 : e ≤ 9223372036854775807) (hc : count ≤ 2500) (w : World) :
    Calls Try.prog 17 #[.int .i64 n, .int .i64 who, .int .i64 e, .int .i64 count] w fun E w' => ∃ g, E = .returned (.slice (some ⟨g, 0, none⟩) count count) ∧ Own w.heap.size g count count (FV n who e count) w w' := by
  obtain ⟨i0, hi, hz0, hz1, hz2⟩ := info_parts info3
  have HM := Lib.hid (fun W => may_yes n count ⟨by omega, by omega, by omega, by omega⟩ W)
  have g1 : ¬ (who : Int) < 0 := by omega
  have g2 : ¬ (n : Int) ≤ (who : Int) := by omega
  have g3 : ¬ (e : Int) < 1 := by omega
  have g4 : (0 : Int) < (n : Int) := by omega
  have g5 : (0 : Int) < (e : Int) := by omega
  have HB := Lib.hid (Below.refl w.heap.size w)
  go_enter Try.func17, Try.ntmps17
  go_wp2_with fail
  refine (HM.out _).mono ?_; rintro E w1 ⟨rfl, rfl⟩
  go_wp2_with (at_make; refine wpList_make_full _ rfl _ _ 22 rfl w.heap.size 3 i0 (.int .i64 0) 1 Try.underlying22 hi hz0 hz1 .i64 .i64 _ _ count rfl rfl rfl rfl (by rw [hz2]; omega) (by unfold maxLen; omega) HB.out.size ?_)
  intro w2 hown hgrow
  have hb2 : Below w.heap.size w w2 := HB.out.grown hgrow HB.out.size (fun j hj => by cases hj)
  have A0 := Lib.hid (made_own' HB.out.size hown hb2)
  clear hown hgrow hb2
  generalize hgl : w.heap.size = gl at *
  rw [FM_zero n who e count] at A0
  have HS := Lib.hid (FM_set n who e count)
  have HS2 := Lib.hid (FM_set2 n who e count)
  have HY := Lib.hid (fv_yes n who e)
  have HNo := Lib.hid (fv_no n who e)
  have HA := Lib.hid (FM_all n who e count)
  go_wp2
  go_loopw [10, 32] (fun _ i wr => ∃ k : Nat, k ≤ count ∧ i = .int .i64 k ∧ Hid (Own gl gl count count (FM n who e count k) w wr)) (fun _ i _ => count - (intOf i).toNat)
  case atStart => exact ⟨0, by omega, rfl, A0⟩
  case round =>
    clear A0
    obtain ⟨k, hk, rfl, HO⟩ := hrel
    by_cases hlt : k < count
    · have c1 := HO.out.cell k hlt
      have c2 := HO.out.frozen k
      have q1 : ((k : Int)).tmod (e : Int) = ((k % e : Nat) : Int) := rfl
      have q2 : ((k : Int)).tdiv (e : Int) = ((k / e : Nat) : Int) := rfl
      have q3 : (((k / e : Nat) : Int)).tmod (n : Int) = ((k / e % n : Nat) : Int) := rfl
      by_cases hm : k % e = e - 1
      · have hy := HY.out k hm
        have HN : Hid (Own gl gl count count (FM n who e count (k + 1)) w ((wr.setCell ⟨gl, k, none⟩ (.int .i64 who)).setCell ⟨gl, k, none⟩ (.int .i64 ((k / e % n : Nat) : Int)))) := by
          show Own _ _ _ _ _ _ _
          rw [← HS2.out k who _ hy hlt]
          exact (HO.out.set k who).set k _
        have t1 : (((k % e : Nat) : Int) == (e : Int) - 1) = true := by simp; omega
        have b1 : k / e ≤ k := Nat.div_le_self k e
        generalize nth (FM n who e count k) k = old at *
        generalize k / e % n = R at *
        generalize k / e = D at *
        generalize hM : k % e = M at *
        clear hM hy hm
        go_wp2
        go_roundw
        case rel => exact ⟨k + 1, by omega, by go_num, HN⟩
        case measure => simp [intOf]; omega
      · have hy := HNo.out k hm
        have HN : Hid (Own gl gl count count (FM n who e count (k + 1)) w (wr.setCell ⟨gl, k, none⟩ (.int .i64 who))) := by
          show Own _ _ _ _ _ _ _
          rw [← HS.out k who hy hlt]
          exact HO.out.set k who
        have t1 : (((k % e : Nat) : Int) == (e : Int) - 1) = false := by simp; omega
        generalize nth (FM n who e count k) k = old at *
        generalize k / e % n = R at *
        generalize k / e = D at *
        generalize hM : k % e = M at *
        clear hM hy hm
        go_wp2
        go_roundw
        case rel => exact ⟨k + 1, by omega, by go_num, HN⟩
        case measure => simp [intOf]; omega
    · obtain rfl : k = count := by omega
      rw [HA.out] at HO
      go_wp2
      go_ret
      exact ⟨_, rfl, by rw [hgl]; exact HO.out⟩
end Go.Proofs.Ytdeflnnbnabbgaa

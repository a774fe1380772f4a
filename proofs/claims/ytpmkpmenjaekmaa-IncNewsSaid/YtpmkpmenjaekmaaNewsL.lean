/-
  The walk through kurganlaw22.IncNews.
-/
import Derived.Test.YtpmkpmenjaekmaaIcE
namespace Go.Proofs.Ytpmkpmenjaekmaa
open Go.RowKit Go.MuLone
set_option linter.unusedVariables false
theorem nthA (x : Nat) (y : Int) (h : x ≤ 2) : nth ((List.replicate 3 (0 : Int)).set x y) x = y := by
  rw [nth_set _ _ _ _ (by simp; omega), if_pos rfl]
set_option maxRecDepth 100000 in
set_option maxHeartbeats 8000000 in
theorem incNews_walk (x y z : Int) (w : World) (hx : (Lit.int .i64 x).wf = true) (hy : (Lit.int .i64 y).wf = true) (hz : (Lit.int .i64 z).wf = true) :
    Calls Try.prog 3 #[.int .i64 x, .int .i64 y, .int .i64 z] w fun e w' => e = .returned (.bool true) ∧ Below w.heap.size w w' := by
  clear hx hy hz
  have N := Lib.hid (new_ok 3 (by omega) w)
  have C := Lib.hid (fun W => incs_any W)
  have FI := Lib.hid (fun W => reffine_any z W)
  by_cases hf : 0 ≤ x ∧ x ≤ 2 ∧ 1 ≤ y ∧ y ≤ 16 ∧ fineB z = true
  · obtain ⟨X, rfl⟩ : ∃ X : Nat, x = X := ⟨x.toNat, by omega⟩
    obtain ⟨Y, rfl⟩ : ∃ Y : Nat, y = Y := ⟨y.toNat, by omega⟩
    have hz := fine_yes hf.2.2.2.2
    obtain ⟨Z, rfl⟩ : ∃ Z : Nat, z = Z := ⟨z.toNat, by omega⟩
    have hX : X ≤ 2 := by omega
    rw [hf.2.2.2.2] at FI
    have G := Lib.hid (fun g b W (hM : MB 0 g b (List.replicate 3 0) 0 0 0 0 0 false W) => new_good g b X Y Z 0 (List.replicate 3 0) 0 0 0 0 0 false (.slice none 0 0) [] (by simp) (by simp; omega) (by simp) (by omega) (by omega) (by omega) (by omega) (by omega) W hM (.inl ⟨rfl, rfl⟩))
    have HA := Lib.hid (nthA X ((Z : Int) * 16) hX)
    generalize hl3 : ((List.replicate 3 (0 : Int)).set X ((Z : Int) * 16)) = l3 at *
    have zz1 : ((Z : Int) == (Z : Int)) = true := by simp
    have x0 : decide ((X : Int) < 0) = false := decide_eq_false (by omega)
    have x1 : decide (2 < (X : Int)) = false := decide_eq_false (by omega)
    have y0 : decide ((Y : Int) < 1) = false := decide_eq_false (by omega)
    have y1 : decide (16 < (Y : Int)) = false := decide_eq_false (by omega)
    have x1n : ¬ 2 < X := by omega
    have y1n : ¬ 16 < Y := by omega
    have ZF := Lib.hid (show 1 ≤ Y by omega)
    clear hf hX hl3 hz
    go_enter Try.func3, Try.ntmps3
    go_wp2_with fail
    refine N.out.mono ?_; rintro e w1 ⟨g, b, rfl, hg, hb, hm, hbl⟩
    have M := Lib.hid hm
    have B := Lib.hid hbl
    have P := Lib.hid (show w.heap.size ≤ g ∧ w.heap.size ≤ b from ⟨hg, hb⟩)
    clear hm hbl hg hb N
    go_wp2_with fail
    refine (G.out g b _ M.out).mono ?_; rintro e w2 ⟨q, kb, vs, rfl, hq, hk, f1, _, f2⟩
    have S := Lib.hid f1
    have B := Lib.hid (f2.below B.out (by intro i hi; simp at hi; have := P.out; omega) B.out.size)
    clear hq f1 f2 G M hk
    go_wp2_with fail
    refine (new_nil 0 1 (.slice none 0 0) 0 _).mono ?_; rintro e w3 ⟨rfl, rfl⟩
    go_wp2_with fail
    refine (none_any _).mono ?_; rintro e w3 ⟨rfl, rfl⟩
    go_wp2_with fail
    refine (best_nil _).mono ?_; rintro e w3 ⟨rfl, rfl⟩
    go_wp2_with fail
    refine (C.out _).mono ?_; rintro e w4 ⟨rfl, hb⟩
    have S := Lib.hid (S.out.up hb)
    have B := Lib.hid (bl_tr B.out hb)
    clear hb C
    go_wp2_with fail
    refine (none_any _).mono ?_; rintro e w5 ⟨rfl, rfl⟩
    go_wp2_with fail
    refine (look_nil _).mono ?_; rintro e w5 ⟨rfl, rfl⟩
    go_wp2_with fail
    refine (none_any _).mono ?_; rintro e w5 ⟨rfl, rfl⟩
    go_wp2_with fail
    refine (offer_nil 0 (.slice none 0 0) 0 _).mono ?_; rintro e w5 ⟨rfl, rfl⟩
    go_wp2_with fail
    refine (over_nil _).mono ?_; rintro e w5 ⟨rfl, rfl⟩
    go_wp2_with fail
    refine (step_nilA _).mono ?_; rintro e w5 ⟨rfl, rfl⟩
    go_wp2_with fail
    refine (taken_nil _).mono ?_; rintro e w5 ⟨rfl, rfl⟩
    go_wp2_with fail
    refine (FI.out _).mono ?_; rintro e w5 ⟨rfl, rfl⟩
    clear FI
    go_wp2_with fail
    refine (offer_who (Y : Int) (.slice none 0 0) 0 (.inr (by omega)) S.out).mono ?_; rintro e w5 ⟨rfl, rfl⟩
    go_wp2_with fail
    refine (offer_who (-1) (.slice none 0 0) 0 (.inl (by omega)) S.out).mono ?_; rintro e w5 ⟨rfl, rfl⟩
    go_wp2_with fail
    refine (offer_cost 0 (.slice none 0 0) (-1) (by omega) (by have := ZF.out; omega) (fine_not (by omega)) S.out).mono ?_; rintro e w5 ⟨rfl, rfl⟩
    go_wp2_with fail
    refine (offer_cost 0 (.slice none 0 0) 1125899906842625 (by omega) (by have := ZF.out; omega) (fine_not (by omega)) S.out).mono ?_; rintro e w5 ⟨rfl, rfl⟩
    go_wp2_with fail
    have LK := Lib.hid (lookN_any (by omega) (by omega) S.out)
    rw [HA.out, show (Z : Int) * 16 / 16 = Z by omega] at LK
    refine LK.out.mono ?_; rintro e w5 ⟨rfl, f1, f2⟩
    have B := Lib.hid (f2.below B.out (by intro i hi; simp at hi; have := P.out; omega) B.out.size)
    clear f1 f2 S LK
    go_wp2
    go_ret
    exact ⟨rfl, B.out⟩
  · have hbad : x < 0 ∨ ((List.replicate 3 (0 : Int)).length : Int) ≤ x ∨ y < 1 ∨ 16 < y ∨ fineB z = false := by
      simp only [List.length_replicate]
      by_cases h : fineB z = true
      · have : ¬ (0 ≤ x ∧ x ≤ 2 ∧ 1 ≤ y ∧ y ≤ 16) := fun h2 => hf ⟨h2.1, h2.2.1, h2.2.2.1, h2.2.2.2, h⟩
        omega
      · exact .inr (.inr (.inr (.inr (by simpa using h))))
    have hb3 : x < 0 ∨ 2 < x ∨ y < 1 ∨ 16 < y ∨ fineB z = false := by
      rcases hbad with h | h | h | h | h
      · exact .inl h
      · exact .inr (.inl (by simp at h; omega))
      · exact .inr (.inr (.inl h))
      · exact .inr (.inr (.inr (.inl h)))
      · exact .inr (.inr (.inr (.inr h)))
    have G := Lib.hid (fun g b W (hM : MB 0 g b (List.replicate 3 0) 0 0 0 0 0 false W) => new_bad g b (List.replicate 3 0) 0 0 0 0 0 false x y (.slice none 0 0) z (by simp) hbad W hM)
    have HB := Lib.hid hb3
    clear hf hbad hb3
    by_cases h1 : x < 0
    · clear HB FI
      go_enter Try.func3, Try.ntmps3
      go_wp2_with fail
      refine N.out.mono ?_; rintro e w1 ⟨g, b, rfl, hg, hb, hm, hbl⟩
      have B := Lib.hid hbl
      have M := Lib.hid hm
      clear hm hbl hg hb N
      go_wp2_with fail
      refine (G.out g b _ M.out).mono ?_; rintro e w2 ⟨rfl, rfl⟩
      clear G M
      go_wp2_with fail
      refine (new_nil 0 1 (.slice none 0 0) 0 _).mono ?_; rintro e w3 ⟨rfl, rfl⟩
      go_wp2_with fail
      refine (none_any _).mono ?_; rintro e w3 ⟨rfl, rfl⟩
      go_wp2_with fail
      refine (best_nil _).mono ?_; rintro e w3 ⟨rfl, rfl⟩
      go_wp2_with fail
      refine (C.out _).mono ?_; rintro e w4 ⟨rfl, hb⟩
      have B := Lib.hid (bl_tr B.out hb)
      clear hb C
      go_wp2_with fail
      refine (none_any _).mono ?_; rintro e w5 ⟨rfl, rfl⟩
      go_wp2_with fail
      refine (look_nil _).mono ?_; rintro e w5 ⟨rfl, rfl⟩
      go_wp2_with fail
      refine (none_any _).mono ?_; rintro e w5 ⟨rfl, rfl⟩
      go_wp2_with fail
      refine (offer_nil 0 (.slice none 0 0) 0 _).mono ?_; rintro e w5 ⟨rfl, rfl⟩
      go_wp2_with fail
      refine (over_nil _).mono ?_; rintro e w5 ⟨rfl, rfl⟩
      go_wp2_with fail
      refine (step_nilA _).mono ?_; rintro e w5 ⟨rfl, rfl⟩
      go_wp2_with fail
      refine (taken_nil _).mono ?_; rintro e w5 ⟨rfl, rfl⟩
      go_wp2
      go_ret
      exact ⟨rfl, B.out⟩
    have d1 : decide (x < 0) = false := decide_eq_false h1
    by_cases h2 : 2 < x
    · clear HB FI
      go_enter Try.func3, Try.ntmps3
      go_wp2_with fail
      refine N.out.mono ?_; rintro e w1 ⟨g, b, rfl, hg, hb, hm, hbl⟩
      have B := Lib.hid hbl
      have M := Lib.hid hm
      clear hm hbl hg hb N
      go_wp2_with fail
      refine (G.out g b _ M.out).mono ?_; rintro e w2 ⟨rfl, rfl⟩
      clear G M
      go_wp2_with fail
      refine (new_nil 0 1 (.slice none 0 0) 0 _).mono ?_; rintro e w3 ⟨rfl, rfl⟩
      go_wp2_with fail
      refine (none_any _).mono ?_; rintro e w3 ⟨rfl, rfl⟩
      go_wp2_with fail
      refine (best_nil _).mono ?_; rintro e w3 ⟨rfl, rfl⟩
      go_wp2_with fail
      refine (C.out _).mono ?_; rintro e w4 ⟨rfl, hb⟩
      have B := Lib.hid (bl_tr B.out hb)
      clear hb C
      go_wp2_with fail
      refine (none_any _).mono ?_; rintro e w5 ⟨rfl, rfl⟩
      go_wp2_with fail
      refine (look_nil _).mono ?_; rintro e w5 ⟨rfl, rfl⟩
      go_wp2_with fail
      refine (none_any _).mono ?_; rintro e w5 ⟨rfl, rfl⟩
      go_wp2_with fail
      refine (offer_nil 0 (.slice none 0 0) 0 _).mono ?_; rintro e w5 ⟨rfl, rfl⟩
      go_wp2_with fail
      refine (over_nil _).mono ?_; rintro e w5 ⟨rfl, rfl⟩
      go_wp2_with fail
      refine (step_nilA _).mono ?_; rintro e w5 ⟨rfl, rfl⟩
      go_wp2_with fail
      refine (taken_nil _).mono ?_; rintro e w5 ⟨rfl, rfl⟩
      go_wp2
      go_ret
      exact ⟨rfl, B.out⟩
    have d2 : decide (2 < x) = false := decide_eq_false h2
    by_cases h3 : y < 1
    · clear HB FI
      go_enter Try.func3, Try.ntmps3
      go_wp2_with fail
      refine N.out.mono ?_; rintro e w1 ⟨g, b, rfl, hg, hb, hm, hbl⟩
      have B := Lib.hid hbl
      have M := Lib.hid hm
      clear hm hbl hg hb N
      go_wp2_with fail
      refine (G.out g b _ M.out).mono ?_; rintro e w2 ⟨rfl, rfl⟩
      clear G M
      go_wp2_with fail
      refine (new_nil 0 1 (.slice none 0 0) 0 _).mono ?_; rintro e w3 ⟨rfl, rfl⟩
      go_wp2_with fail
      refine (none_any _).mono ?_; rintro e w3 ⟨rfl, rfl⟩
      go_wp2_with fail
      refine (best_nil _).mono ?_; rintro e w3 ⟨rfl, rfl⟩
      go_wp2_with fail
      refine (C.out _).mono ?_; rintro e w4 ⟨rfl, hb⟩
      have B := Lib.hid (bl_tr B.out hb)
      clear hb C
      go_wp2_with fail
      refine (none_any _).mono ?_; rintro e w5 ⟨rfl, rfl⟩
      go_wp2_with fail
      refine (look_nil _).mono ?_; rintro e w5 ⟨rfl, rfl⟩
      go_wp2_with fail
      refine (none_any _).mono ?_; rintro e w5 ⟨rfl, rfl⟩
      go_wp2_with fail
      refine (offer_nil 0 (.slice none 0 0) 0 _).mono ?_; rintro e w5 ⟨rfl, rfl⟩
      go_wp2_with fail
      refine (over_nil _).mono ?_; rintro e w5 ⟨rfl, rfl⟩
      go_wp2_with fail
      refine (step_nilA _).mono ?_; rintro e w5 ⟨rfl, rfl⟩
      go_wp2_with fail
      refine (taken_nil _).mono ?_; rintro e w5 ⟨rfl, rfl⟩
      go_wp2
      go_ret
      exact ⟨rfl, B.out⟩
    have d3 : decide (y < 1) = false := decide_eq_false h3
    by_cases h4 : 16 < y
    · clear HB FI
      go_enter Try.func3, Try.ntmps3
      go_wp2_with fail
      refine N.out.mono ?_; rintro e w1 ⟨g, b, rfl, hg, hb, hm, hbl⟩
      have B := Lib.hid hbl
      have M := Lib.hid hm
      clear hm hbl hg hb N
      go_wp2_with fail
      refine (G.out g b _ M.out).mono ?_; rintro e w2 ⟨rfl, rfl⟩
      clear G M
      go_wp2_with fail
      refine (new_nil 0 1 (.slice none 0 0) 0 _).mono ?_; rintro e w3 ⟨rfl, rfl⟩
      go_wp2_with fail
      refine (none_any _).mono ?_; rintro e w3 ⟨rfl, rfl⟩
      go_wp2_with fail
      refine (best_nil _).mono ?_; rintro e w3 ⟨rfl, rfl⟩
      go_wp2_with fail
      refine (C.out _).mono ?_; rintro e w4 ⟨rfl, hb⟩
      have B := Lib.hid (bl_tr B.out hb)
      clear hb C
      go_wp2_with fail
      refine (none_any _).mono ?_; rintro e w5 ⟨rfl, rfl⟩
      go_wp2_with fail
      refine (look_nil _).mono ?_; rintro e w5 ⟨rfl, rfl⟩
      go_wp2_with fail
      refine (none_any _).mono ?_; rintro e w5 ⟨rfl, rfl⟩
      go_wp2_with fail
      refine (offer_nil 0 (.slice none 0 0) 0 _).mono ?_; rintro e w5 ⟨rfl, rfl⟩
      go_wp2_with fail
      refine (over_nil _).mono ?_; rintro e w5 ⟨rfl, rfl⟩
      go_wp2_with fail
      refine (step_nilA _).mono ?_; rintro e w5 ⟨rfl, rfl⟩
      go_wp2_with fail
      refine (taken_nil _).mono ?_; rintro e w5 ⟨rfl, rfl⟩
      go_wp2
      go_ret
      exact ⟨rfl, B.out⟩
    have d4 : decide (16 < y) = false := decide_eq_false h4
    have h5 : fineB z = false := by
      rcases HB.out with h | h | h | h | h
      · omega
      · omega
      · omega
      · omega
      · exact h
    rw [h5] at FI
    clear HB
    go_enter Try.func3, Try.ntmps3
    go_wp2_with fail
    refine N.out.mono ?_; rintro e w1 ⟨g, b, rfl, hg, hb, hm, hbl⟩
    have B := Lib.hid hbl
    have M := Lib.hid hm
    clear hm hbl hg hb N
    go_wp2_with fail
    refine (G.out g b _ M.out).mono ?_; rintro e w2 ⟨rfl, rfl⟩
    clear G M
    go_wp2_with fail
    refine (new_nil 0 1 (.slice none 0 0) 0 _).mono ?_; rintro e w3 ⟨rfl, rfl⟩
    go_wp2_with fail
    refine (none_any _).mono ?_; rintro e w3 ⟨rfl, rfl⟩
    go_wp2_with fail
    refine (best_nil _).mono ?_; rintro e w3 ⟨rfl, rfl⟩
    go_wp2_with fail
    refine (C.out _).mono ?_; rintro e w4 ⟨rfl, hb⟩
    have B := Lib.hid (bl_tr B.out hb)
    clear hb C
    go_wp2_with fail
    refine (none_any _).mono ?_; rintro e w5 ⟨rfl, rfl⟩
    go_wp2_with fail
    refine (look_nil _).mono ?_; rintro e w5 ⟨rfl, rfl⟩
    go_wp2_with fail
    refine (none_any _).mono ?_; rintro e w5 ⟨rfl, rfl⟩
    go_wp2_with fail
    refine (offer_nil 0 (.slice none 0 0) 0 _).mono ?_; rintro e w5 ⟨rfl, rfl⟩
    go_wp2_with fail
    refine (over_nil _).mono ?_; rintro e w5 ⟨rfl, rfl⟩
    go_wp2_with fail
    refine (step_nilA _).mono ?_; rintro e w5 ⟨rfl, rfl⟩
    go_wp2_with fail
    refine (taken_nil _).mono ?_; rintro e w5 ⟨rfl, rfl⟩
    go_wp2_with fail
    refine (FI.out _).mono ?_; rintro e w6 ⟨rfl, rfl⟩
    go_wp2
    go_ret
    exact ⟨rfl, B.out⟩
end Go.Proofs.Ytpmkpmenjaekmaa

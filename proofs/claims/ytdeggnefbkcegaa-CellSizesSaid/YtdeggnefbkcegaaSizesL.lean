/-
  The walk through kurganlaw16.CellSizes.
-/
import Derived.Test.YtdeggnefbkcegaaPacksL
namespace Go.Proofs.Ytdeggnefbkcegaa
open Go.RowKit Go.MuLone
set_option linter.unusedVariables false
set_option maxRecDepth 100000 in
set_option maxHeartbeats 4000000 in
theorem sizes_core (z0 z q : Int) (hz : (3000 < z0 ∧ z0 ≤ 1048576 ∧ z0.tmod 3 = q ∧ z0 % 3 = q ∧ 0 ≤ q ∧ q ≤ 2 ∧ z = 1048576 - q) ∨ (z0 = z ∧ (z0 ≤ 3000 ∨ 1048576 < z0))) (w : World) :
    Calls Try.prog 4 #[.int .i64 z0] w fun e w' => e = .returned (.bool true) ∧ Below w.heap.size w w' := by
  by_cases hbad : z < 0 ∨ 1048576 < z
  · have HN := Lib.hid (fun W => new_no z hbad W)
    have HC := Lib.hid cells_any
    rcases hz with ⟨z1, z2, z3, z4, z5, z6, rfl⟩ | ⟨rfl, hz⟩
    · omega
    · by_cases h0 : z0 < 0
      · have d1 : decide (3000 < z0) = false := decide_eq_false (by omega)
        clear hz hbad
        go_enter Try.func4, Try.ntmps4
        go_wp2_with fail
        refine (HN.out _).mono ?_; rintro e w1 ⟨rfl, rfl⟩
        go_wp2_with fail
        refine (HC.out _).mono ?_; rintro e w1 ⟨rfl, hb⟩
        have B := Lib.hid hb
        clear hb
        go_wp2
        go_ret
        exact ⟨rfl, B.out⟩
      · have h1 : 1048576 < z0 := by omega
        have d1 : decide (z0 ≤ 1048576) = false := decide_eq_false (by omega)
        have d2 : decide (z0 < 0) = false := decide_eq_false (by omega)
        clear hz hbad
        go_enter Try.func4, Try.ntmps4
        go_wp2_with fail
        refine (HN.out _).mono ?_; rintro e w1 ⟨rfl, rfl⟩
        go_wp2_with fail
        refine (HC.out _).mono ?_; rintro e w1 ⟨rfl, hb⟩
        have B := Lib.hid hb
        clear hb
        go_wp2
        go_ret
        exact ⟨rfl, B.out⟩
  · obtain ⟨n, hn⟩ : ∃ n : Nat, (n : Int) = z := ⟨z.toNat, by omega⟩
    have HN : Hid (∀ W, Calls Try.prog 17 #[.int .i64 z] W (NewOf n W)) := fun W => hn ▸ new_ok n (by omega) W
    have hl : ((List.replicate n (0 : Int)).length : Int) = z := by rw [List.length_replicate]; exact hn
    have HC := Lib.hid cells_any
    have HG : Hid (∀ g b X, MB 0 g b (List.replicate n 0) 0 0 0 0 0 false X → Calls Try.prog 7 #[.pointer (some ⟨g, 0, none⟩), .int .i64 z] X (Did (.tuple #[.int .i64 0, .int .i64 11]) g b (List.replicate n 0) 0 0 0 0 0 false X)) := fun g b X h => get_miss g b _ 0 0 0 0 0 false z (.inr (by omega)) X h
    have HS : Hid (∀ g b X, MB 0 g b (List.replicate n 0) 0 0 0 0 0 false X → Calls Try.prog 12 #[.pointer (some ⟨g, 0, none⟩)] X fun e w' => e = .returned (.int .i64 z) ∧ X = w') := fun g b X h => by
      have := size_any 0 g b _ 0 0 0 0 0 false X h
      rwa [hl] at this
    have HT : Hid (∀ g b X, MB 0 g b (List.replicate n 0) 0 0 0 0 0 false X → Calls Try.prog 13 #[.pointer (some ⟨g, 0, none⟩)] X (Did (.int .i64 0) g b (List.replicate n 0) 0 0 0 0 0 false X)) := fun g b X h => steps_any g b _ 0 0 0 0 0 false X h
    have HP1 : Hid (∀ g b X, MB 0 g b (List.replicate n 0) 0 0 0 0 0 false X → Calls Try.prog 16 #[.pointer (some ⟨g, 0, none⟩), .int .i64 z] X fun e w' => e = .returned (.int .i64 0) ∧ X = w') := fun g b X h => peek_no g b _ 0 0 0 0 0 false z (.inr (by omega)) X h
    have HP2 : Hid (∀ g b X, MB 0 g b (List.replicate n 0) 0 0 0 0 0 false X → Calls Try.prog 16 #[.pointer (some ⟨g, 0, none⟩), .int .i64 (-1)] X fun e w' => e = .returned (.int .i64 0) ∧ X = w') := fun g b X h => peek_no g b _ 0 0 0 0 0 false (-1) (.inl (by decide)) X h
    have hz0 : 0 ≤ z := by omega
    have hz1 : z ≤ 1048576 := by omega
    have d0 : decide (z < 0) = false := decide_eq_false (by omega)
    have d9 : decide (1048576 < z) = false := decide_eq_false (by omega)
    clear hbad hl hn
    rcases hz with ⟨z1, z2, z3, z4, z5, z6, rfl⟩ | ⟨rfl, hz⟩
    all_goals
      (try have d1 : decide (3000 < z0) = false := decide_eq_false (by omega))
      (try clear hz)
      go_enter Try.func4, Try.ntmps4
      go_wp2_with fail
      refine (HN.out _).mono ?_; rintro e w1 ⟨g, b, rfl, hg, hb, m1, b1⟩
      have M := Lib.hid m1
      have B := Lib.hid b1
      have G := Lib.hid hg
      have G2 := Lib.hid hb
      clear hg hb m1 b1 HN
      go_wp2_with fail
      refine (HG.out g b _ M.out).mono ?_; rintro e w2 ⟨rfl, m, c⟩
      have B2 := Lib.hid (c.below B.out G.out G2.out B.out.size)
      have M2 := Lib.hid m
      clear m c M B HG
      go_wp2_with fail
      refine (HC.out _).mono ?_; rintro e w3 ⟨rfl, hb⟩
      have B3 := Lib.hid (bl_tr B2.out hb)
      have M3 := Lib.hid (M2.out.keep hb)
      clear hb M2 B2 HC
      go_wp2_with fail
      refine (HS.out g b _ M3.out).mono ?_; rintro e w4 ⟨rfl, rfl⟩
      go_wp2_with fail
      refine (HT.out g b _ M3.out).mono ?_; rintro e w5 ⟨rfl, m, c⟩
      have B5 := Lib.hid (c.below B3.out G.out G2.out B3.out.size)
      have M5 := Lib.hid m
      clear m c M3 B3 HT
      go_wp2_with fail
      refine (HP1.out g b _ M5.out).mono ?_; rintro e w6 ⟨rfl, rfl⟩
      go_wp2_with fail
      refine (HP2.out g b _ M5.out).mono ?_; rintro e w6 ⟨rfl, rfl⟩
      go_wp2
      go_ret
      exact ⟨rfl, B5.out⟩
theorem cellSizes_walk (n : Int) (w : World) : Calls Try.prog 4 #[.int .i64 n] w fun e w' => e = .returned (.bool true) ∧ Below w.heap.size w w' := by
  by_cases h : 3000 < n ∧ n ≤ 1048576
  · exact sizes_core n (1048576 - n % 3) (n % 3) (.inl ⟨h.1, h.2, Int.tmod_eq_emod_of_nonneg (by omega), rfl, by omega, by omega, rfl⟩) w
  · exact sizes_core n n 0 (.inr ⟨rfl, by omega⟩) w
end Go.Proofs.Ytdeggnefbkcegaa

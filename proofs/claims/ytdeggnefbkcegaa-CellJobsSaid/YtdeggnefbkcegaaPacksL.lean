/-
  cells() is true; the walks through CellPacks and CellSizes.
-/
import Derived.Test.YtdeggnefbkcegaaOps
import Derived.Test.YtdeggnefbkcegaaPack
namespace Go.Proofs.Ytdeggnefbkcegaa
open Go.RowKit Go.MuLone
set_option linter.unusedVariables false
set_option maxRecDepth 100000 in
set_option maxHeartbeats 2000000 in
theorem cells_any (w : World) : Calls Try.prog 10 #[] w fun e w' => e = .returned (.bool true) ∧ Below w.heap.size w w' := by
  have HN := Lib.hid (fun W => new_ok 2 (by decide) W)
  have HP : Hid (∀ W, Calls Try.prog 20 #[.int .i64 2, .int .i64 5] W fun e w' => e = .returned (.int .i64 8589934598) ∧ W = w') := fun W => by
    have h := pack_any 2 5 W
    rwa [show pk 2 5 = 8589934598 by decide +kernel] at h
  have K1 : Hid (∀ g b X, MB 0 g b [0, 0] 0 0 0 0 0 false X → Calls Try.prog 8 #[.pointer (some ⟨g, 0, none⟩), .int .i64 1, .int .i64 0, .int .i64 7] X (Did (.tuple #[.bool true, .int .i64 0]) g b [0, 7] 1 3 1 0 7 true X)) := fun g b X h => by
    have k := cas_ok g b [0, 0] 0 0 0 0 0 false 1 0 0 7 7 true 1 rfl (by decide) (by decide +kernel) (.inl ⟨rfl, rfl, rfl⟩) (by decide) (by decide) X h
    exact k
  have K2 : Hid (∀ g b X, MB 0 g b [0, 7] 1 3 1 0 7 true X → Calls Try.prog 8 #[.pointer (some ⟨g, 0, none⟩), .int .i64 1, .int .i64 0, .int .i64 8] X (Did (.tuple #[.bool false, .int .i64 0]) g b [0, 7] 2 3 1 7 7 false X)) := fun g b X h => by
    have k := cas_ok g b [0, 7] 1 3 1 0 7 true 1 7 0 8 7 false 1 rfl (by decide) (by decide +kernel) (.inr ⟨by decide, rfl, rfl⟩) (by decide) (by decide) X h
    exact k
  have K3 : Hid (∀ g b X, MB 0 g b [0, 7] 2 3 1 7 7 false X → Calls Try.prog 7 #[.pointer (some ⟨g, 0, none⟩), .int .i64 1] X (Did (.tuple #[.int .i64 7, .int .i64 0]) g b [0, 7] 3 1 1 7 7 true X)) := fun g b X h => by
    have k := get_ok g b [0, 7] 2 3 1 7 7 false 1 7 1 rfl (by decide) (by decide +kernel) (by decide) (by decide) X h
    exact k
  have K4 : Hid (∀ g b X, MB 0 g b [0, 7] 3 1 1 7 7 true X → Calls Try.prog 13 #[.pointer (some ⟨g, 0, none⟩)] X (Did (.int .i64 3) g b [0, 7] 3 1 1 7 7 true X)) := fun g b X h => steps_any g b [0, 7] 3 1 1 7 7 true X h
  go_enter Try.func10, Try.ntmps10
  go_wp2_with fail
  refine (HN.out _).mono ?_; rintro e w1 ⟨g, b, rfl, hg, hb, m1, b1⟩
  have M := Lib.hid m1
  have B := Lib.hid b1
  have G := Lib.hid hg
  have G2 := Lib.hid hb
  clear hg hb m1 b1 HN
  go_wp2_with fail
  refine (K1.out g b _ M.out).mono ?_; rintro e w2 ⟨rfl, m, c⟩
  have B2 := Lib.hid (c.below B.out G.out G2.out B.out.size)
  have M2 := Lib.hid m
  clear m c M B K1
  go_wp2_with fail
  refine (K2.out g b _ M2.out).mono ?_; rintro e w3 ⟨rfl, m, c⟩
  have B3 := Lib.hid (c.below B2.out G.out G2.out B2.out.size)
  have M3 := Lib.hid m
  clear m c M2 B2 K2
  go_wp2_with fail
  refine (K3.out g b _ M3.out).mono ?_; rintro e w4 ⟨rfl, m, c⟩
  have B4 := Lib.hid (c.below B3.out G.out G2.out B3.out.size)
  have M4 := Lib.hid m
  clear m c M3 B3 K3
  go_wp2_with fail
  refine (K4.out g b _ M4.out).mono ?_; rintro e w5 ⟨rfl, m, c⟩
  have B5 := Lib.hid (c.below B4.out G.out G2.out B4.out.size)
  clear m c M4 B4 K4
  go_wp2_with fail
  refine (HP.out _).mono ?_; rintro e w6 ⟨rfl, rfl⟩
  go_wp2
  go_ret
  exact ⟨rfl, B5.out⟩
set_option maxRecDepth 100000 in
set_option maxHeartbeats 2000000 in
theorem packs_core (v p o P U V X at_ y : Int) (h1 : pk v p = P) (h2 : P / 4294967296 % 1073741824 = V) (h3 : P % 4294967296 - 1 = at_) (h4 : pk (V + 1) o = U) (h5 : U / 4294967296 % 1073741824 = X) (h6 : U % 4294967296 - 1 = y) (h7 : pk V at_ = P)
    (V0 : 0 ≤ V ∧ V ≤ 1073741823) (hX : (V + 1) % 1073741824 = X) (P0 : 0 ≤ P ∧ P ≤ 4611686018427387903) (U0 : 0 ≤ U ∧ U ≤ 4611686018427387903) (hne : U ≠ P)
    (ha : ((p < 0 ∨ 2147483646 < p) ∧ at_ = -1) ∨ (0 ≤ p ∧ p ≤ 2147483646 ∧ at_ = p)) (hy : ((o < 0 ∨ 2147483646 < o) ∧ y = -1) ∨ (0 ≤ o ∧ o ≤ 2147483646 ∧ y = o)) (w : World) :
    Calls Try.prog 5 #[.int .i64 v, .int .i64 p, .int .i64 o] w fun e w' => e = .returned (.bool true) ∧ Below w.heap.size w w' := by
  have A1 : Hid (∀ W, Calls Try.prog 20 #[.int .i64 v, .int .i64 p] W fun e w' => e = .returned (.int .i64 P) ∧ W = w') := fun W => h1 ▸ pack_any v p W
  have A2 : Hid (∀ W, Calls Try.prog 21 #[.int .i64 P] W fun e w' => e = .returned (.tuple #[.int .i64 V, .int .i64 at_]) ∧ W = w') := fun W => by
    have := unpack_any P P0.1 P0.2 W
    rwa [h2, h3] at this
  have A3 : Hid (∀ W, Calls Try.prog 22 #[.int .i64 P, .int .i64 o] W fun e w' => e = .returned (.int .i64 U) ∧ W = w') := fun W => by
    have := up_any P o P0.1 P0.2 W
    rwa [h2, h4] at this
  have A4 : Hid (∀ W, Calls Try.prog 21 #[.int .i64 U] W fun e w' => e = .returned (.tuple #[.int .i64 X, .int .i64 y]) ∧ W = w') := fun W => by
    have := unpack_any U U0.1 U0.2 W
    rwa [h5, h6] at this
  have A5 : Hid (∀ W, Calls Try.prog 23 #[.int .i64 v, .int .i64 p] W fun e w' => e = .returned (.int .i64 P) ∧ W = w') := fun W => h1 ▸ rpack_any v p W
  have A6 : Hid (∀ W, Calls Try.prog 23 #[.int .i64 (V + 1), .int .i64 o] W fun e w' => e = .returned (.int .i64 U) ∧ W = w') := fun W => h4 ▸ rpack_any (V + 1) o W
  have A7 : Hid (∀ W, Calls Try.prog 20 #[.int .i64 V, .int .i64 at_] W fun e w' => e = .returned (.int .i64 P) ∧ W = w') := fun W => by
    have := pack_any V at_ W
    rwa [h7] at this
  have e1 : (V + 1).tmod 1073741824 = X := by rw [Int.tmod_eq_emod_of_nonneg (by omega)]; exact hX
  have u1 : (U != P) = true := by simpa using hne
  have z1 : decide (0 ≤ P) = true := decide_eq_true P0.1
  have z2 : (P == P) = true := by simp
  have z3 : (U == U) = true := by simp
  clear h1 h2 h3 h4 h5 h6 h7 hne
  rcases ha with ⟨p1 | p1, rfl⟩ | ⟨p1, p2, rfl⟩ <;> rcases hy with ⟨o1 | o1, rfl⟩ | ⟨o1, o2, rfl⟩
  all_goals
    (try have d1 : decide (p < 0) = false := decide_eq_false (by omega))
    (try have d2 : decide (2147483646 < p) = false := decide_eq_false (by omega))
    (try have d3 : decide (o < 0) = false := decide_eq_false (by omega))
    (try have d4 : decide (2147483646 < o) = false := decide_eq_false (by omega))
    (try have d1 : decide (at_ < 0) = false := decide_eq_false (by omega))
    (try have d2 : decide (2147483646 < at_) = false := decide_eq_false (by omega))
    (try have d3 : decide (y < 0) = false := decide_eq_false (by omega))
    (try have d4 : decide (2147483646 < y) = false := decide_eq_false (by omega))
    go_enter Try.func5, Try.ntmps5
    go_wp2_with fail
    refine (A1.out _).mono ?_; rintro e w1 ⟨rfl, rfl⟩
    go_wp2_with fail
    refine (A2.out _).mono ?_; rintro e w1 ⟨rfl, rfl⟩
    go_wp2_with fail
    refine (A3.out _).mono ?_; rintro e w1 ⟨rfl, rfl⟩
    go_wp2_with fail
    refine (A4.out _).mono ?_; rintro e w1 ⟨rfl, rfl⟩
    go_wp2_with fail
    refine (cells_any _).mono ?_; rintro e w1 ⟨rfl, hb⟩
    have HB := Lib.hid hb
    clear hb
    go_wp2_with fail
    refine (A5.out _).mono ?_; rintro e w2 ⟨rfl, rfl⟩
    go_wp2_with fail
    refine (A6.out _).mono ?_; rintro e w2 ⟨rfl, rfl⟩
    go_wp2_with fail
    refine (A7.out _).mono ?_; rintro e w2 ⟨rfl, rfl⟩
    go_wp2
    go_ret
    exact ⟨rfl, HB.out⟩
theorem cellPacks_walk (v p o : Int) (w : World) : Calls Try.prog 5 #[.int .i64 v, .int .i64 p, .int .i64 o] w fun e w' => e = .returned (.bool true) ∧ Below w.heap.size w w' := by
  have a1 := pl_bd p
  have a2 := pl_bd o
  have e1 := pk_eq v p
  have f1 : pk v p / 4294967296 % 1073741824 = v % 1073741824 := by omega
  have f2 : pk v p % 4294967296 - 1 = pl p := by omega
  have e2 := pk_eq (v % 1073741824 + 1) o
  have hpp : pl (pl p) = pl p := by
    by_cases h : 0 ≤ p ∧ p ≤ 2147483646
    · rw [pl_in p h, pl_in p h]
    · rw [pl_out p h]; exact pl_out _ (by omega)
  refine packs_core v p o (pk v p) (pk (v % 1073741824 + 1) o) (v % 1073741824) ((v % 1073741824 + 1) % 1073741824) (pl p) (pl o) rfl f1 f2 rfl (by omega) (by omega) (by rw [pk_eq, pk_eq, hpp]; omega) (by omega) rfl (by omega) (by omega) (by omega) ?_ ?_ w
  · by_cases h : 0 ≤ p ∧ p ≤ 2147483646
    · exact .inr ⟨h.1, h.2, pl_in p h⟩
    · exact .inl ⟨by omega, pl_out p h⟩
  · by_cases h : 0 ≤ o ∧ o ≤ 2147483646
    · exact .inr ⟨h.1, h.2, pl_in o h⟩
    · exact .inl ⟨by omega, pl_out o h⟩
end Go.Proofs.Ytdeggnefbkcegaa

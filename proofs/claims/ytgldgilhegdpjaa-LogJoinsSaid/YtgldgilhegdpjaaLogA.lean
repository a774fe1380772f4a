/-
  Which of two lists stands ahead: slices.Compare, log.Ahead, the reference's Ahead.
-/
import Derived.Test.YtgldgilhegdpjaaBase
namespace Go.Proofs.Ytgldgilhegdpjaa
open Go.RowKit
set_option linter.unusedVariables false
def lexc : List Int → List Int → Int
  | [], [] => 0
  | [], _ :: _ => -1
  | _ :: _, [] => 1
  | a :: p, b :: q => if a < b then -1 else if b < a then 1 else lexc p q
theorem drop_nth (p : List Int) (k : Nat) (h : k < p.length) : p.drop k = nth p k :: p.drop (k + 1) := by
  rw [nth_at p k h]; exact List.drop_eq_getElem_cons h
theorem lexc_step (p q : List Int) (k : Nat) (h1 : k < p.length) (h2 : k < q.length) : lexc (p.drop k) (q.drop k) = if nth p k < nth q k then -1 else if nth q k < nth p k then 1 else lexc (p.drop (k + 1)) (q.drop (k + 1)) := by
  rw [drop_nth p k h1, drop_nth q k h2]; rfl
theorem lexc_endl (p q : List Int) (k : Nat) (h1 : k < p.length) (h2 : q.length ≤ k) : lexc (p.drop k) (q.drop k) = 1 := by
  rw [drop_nth p k h1, List.drop_eq_nil_of_le h2]; rfl
theorem lexc_endr (p q : List Int) (k : Nat) (h1 : k < q.length) (h2 : p.length ≤ k) : lexc (p.drop k) (q.drop k) = -1 := by
  rw [drop_nth q k h1, List.drop_eq_nil_of_le h2]; rfl
theorem lexc_ends (p q : List Int) (k : Nat) (h1 : q.length ≤ k) (h2 : p.length ≤ k) : lexc (p.drop k) (q.drop k) = 0 := by
  rw [List.drop_eq_nil_of_le h1, List.drop_eq_nil_of_le h2]; rfl
theorem lexc_neg (p : List Int) : ∀ q, lexc q p = - lexc p q := by
  induction p with
  | nil => intro q; cases q <;> simp [lexc]
  | cons a p ih =>
    intro q
    cases q with
    | nil => simp [lexc]
    | cons b q =>
      simp only [lexc]
      split
      · rw [if_neg (by omega)]
      · split
        · rfl
        · exact ih q
theorem lexc_zero (p : List Int) : ∀ q, lexc p q = 0 ↔ p = q := by
  induction p with
  | nil => intro q; cases q <;> simp [lexc]
  | cons a p ih =>
    intro q
    cases q with
    | nil => simp [lexc]
    | cons b q =>
      simp only [lexc, List.cons.injEq]
      split
      · simp; omega
      · split
        · simp; omega
        · rw [ih q]
          constructor
          · intro h; exact ⟨by omega, h⟩
          · intro h; exact h.2
def ahd (p q : List Int) : Bool := decide (lexc p q < 0)
theorem nan_any (a : Int) (w : World) : Calls Try.prog 25 #[.int .i64 a] w fun e w' => e = .returned (.bool false) ∧ w = w' := by
  have e1 : (a != a) = false := by simp
  go_enter Try.func25, Try.ntmps25
  go_wp2
  go_ret
  exact ⟨rfl, rfl⟩
theorem cmp_any (a b : Int) (w : World) : Calls Try.prog 23 #[.int .i64 a, .int .i64 b] w fun e w' => e = .returned (.int .i64 (if a < b then -1 else if b < a then 1 else 0)) ∧ w = w' := by
  have NN := Lib.hid nan_any
  by_cases h1 : a < b
  · rw [if_pos h1]
    go_enter Try.func23, Try.ntmps23
    go_wp2_with fail
    refine (NN.out _ _).mono ?_; rintro e w1 ⟨rfl, rfl⟩
    go_wp2_with fail
    refine (NN.out _ _).mono ?_; rintro e w1 ⟨rfl, rfl⟩
    go_wp2
    go_ret
    exact ⟨rfl, rfl⟩
  · rw [if_neg h1]
    by_cases h2 : b < a
    · rw [if_pos h2]
      go_enter Try.func23, Try.ntmps23
      go_wp2_with fail
      refine (NN.out _ _).mono ?_; rintro e w1 ⟨rfl, rfl⟩
      go_wp2_with fail
      refine (NN.out _ _).mono ?_; rintro e w1 ⟨rfl, rfl⟩
      go_wp2
      go_ret
      exact ⟨rfl, rfl⟩
    · rw [if_neg h2]
      go_enter Try.func23, Try.ntmps23
      go_wp2_with fail
      refine (NN.out _ _).mono ?_; rintro e w1 ⟨rfl, rfl⟩
      go_wp2_with fail
      refine (NN.out _ _).mono ?_; rintro e w1 ⟨rfl, rfl⟩
      go_wp2
      go_ret
      exact ⟨rfl, rfl⟩
set_option maxHeartbeats 1000000 in
theorem compare_any (p q : List Int) (hn : p.length ≤ 1000) (hm : q.length ≤ 1000) (a b : Option Addr) (ac bc : Nat) (w : World) (h1 : Ints w a p) (h2 : Ints w b q) :
    Calls Try.prog 19 #[.slice a p.length ac, .slice b q.length bc] w fun e w' => e = .returned (.int .i64 (lexc p q)) ∧ w = w' := by
  have HX := Lib.hid (fun j (hj : j < p.length) => h1 j hj)
  have HY := Lib.hid (fun j (hj : j < q.length) => h2 j hj)
  have S := Lib.hid (lexc_step p q)
  have SL := Lib.hid (lexc_endl p q)
  have SR := Lib.hid (lexc_endr p q)
  have SE := Lib.hid (lexc_ends p q)
  have CM := Lib.hid cmp_any
  have Z := Lib.hid (show lexc p q = lexc (p.drop 0) (q.drop 0) from rfl)
  clear h1 h2
  generalize lexc p q = r at *
  generalize p.length = n at *
  generalize q.length = m at *
  go_enter Try.func19, Try.ntmps19
  go_wp2
  go_loop [11] (fun i => ∃ k : Nat, k ≤ n ∧ k ≤ m ∧ i = .int .i64 k ∧ Hid (r = lexc (p.drop k) (q.drop k))) (fun i => n - (intOf i).toNat)
  case atStart => exact ⟨0, by omega, by omega, rfl, Z⟩
  case round =>
    obtain ⟨k, hk, hkm, rfl, HE⟩ := hrel
    by_cases hlt : k < n
    · have i1 : (k : Int) < (n : Int) := by omega
      by_cases hlm : k < m
      · have i2 : ¬ (m : Int) ≤ (k : Int) := by omega
        have i3 : (k : Int) < (m : Int) := by omega
        obtain ⟨b1, o1, rfl, l1, c1⟩ := HX.out k hlt
        obtain ⟨b2, o2, rfl, l2, c2⟩ := HY.out k hlm
        have E := HE.out
        rw [S.out k hlt hlm] at E
        generalize nth p k = x at *
        generalize nth q k = y at *
        replace E := Lib.hid E
        by_cases hz : x = y
        · have E2 : Hid (r = lexc (p.drop (k + 1)) (q.drop (k + 1))) := Lib.hid (by have := E.out; rw [if_neg (by omega), if_neg (by omega)] at this; exact this)
          clear E HE
          have C1 : Hid (Calls Try.prog 23 #[.int .i64 x, .int .i64 y] w fun e w' => e = .returned (.int .i64 0) ∧ w = w') := Lib.hid ((CM.out x y w).mono (by rintro e w' ⟨rfl, rfl⟩; exact ⟨by rw [if_neg (by omega), if_neg (by omega)], rfl⟩))
          clear hz CM
          go_wp2_with fail
          refine C1.out.mono ?_; rintro e w1 ⟨rfl, rfl⟩
          go_wp2
          go_round
          case rel => exact ⟨k + 1, by omega, by omega, by go_num, E2⟩
          case measure => simp [intOf]; omega
        · have C1 : Hid (Calls Try.prog 23 #[.int .i64 x, .int .i64 y] w fun e w' => e = .returned (.int .i64 r) ∧ w = w') := Lib.hid ((CM.out x y w).mono (by
            rintro e w' ⟨rfl, rfl⟩
            refine ⟨?_, rfl⟩
            rw [E.out]
            by_cases h : x < y
            · rw [if_pos h, if_pos h]
            · rw [if_neg h, if_neg h, if_pos (by omega), if_pos (by omega)]))
          have e0 : (r != 0) = true := by
            have := E.out
            simp only [bne_iff_ne, ne_eq]
            rw [this]
            split
            · omega
            · rw [if_pos (by omega)]; omega
          clear E HE hz CM
          go_wp2_with fail
          refine C1.out.mono ?_; rintro e w1 ⟨rfl, rfl⟩
          go_wp2
          go_ret
          exact ⟨rfl, rfl⟩
      · have i2 : (m : Int) ≤ (k : Int) := by omega
        obtain ⟨b1, o1, rfl, l1, c1⟩ := HX.out k hlt
        obtain rfl : r = 1 := HE.out.trans (SL.out k hlt (by omega))
        generalize nth p k = x at *
        go_wp2
        go_ret
        exact ⟨rfl, rfl⟩
    · obtain rfl : n = k := by omega
      by_cases hlm : n < m
      · have i1 : (n : Int) < (m : Int) := by omega
        obtain rfl : r = -1 := HE.out.trans (SR.out n hlm (by omega))
        go_wp2
        go_ret
        exact ⟨rfl, rfl⟩
      · have i1 : ¬ (n : Int) < (m : Int) := by omega
        obtain rfl : r = 0 := HE.out.trans (SE.out n (by omega) (by omega))
        go_wp2
        go_ret
        exact ⟨rfl, rfl⟩
theorem ahead_any (p q : List Int) (hn : p.length ≤ 1000) (hm : q.length ≤ 1000) (a b : Option Addr) (ac bc : Nat) (w : World) (h1 : Ints w a p) (h2 : Ints w b q) :
    Calls Try.prog 14 #[.slice a p.length ac, .slice b q.length bc] w fun e w' => e = .returned (.bool (ahd p q)) ∧ w = w' := by
  have C := Lib.hid (compare_any p q hn hm a b ac bc w h1 h2)
  unfold ahd
  clear h1 h2 hn hm
  generalize lexc p q = r at *
  generalize p.length = n at *
  generalize q.length = m at *
  go_enter Try.func14, Try.ntmps14
  go_wp2_with fail
  refine C.out.mono ?_; rintro e w1 ⟨rfl, rfl⟩
  go_wp2
  go_ret
  exact ⟨rfl, rfl⟩
set_option maxHeartbeats 1000000 in
theorem rahead_any (p q : List Int) (hn : p.length ≤ 1000) (hm : q.length ≤ 1000) (a b : Option Addr) (ac bc : Nat) (w : World) (h1 : Ints w a p) (h2 : Ints w b q) :
    Calls Try.prog 15 #[.slice a p.length ac, .slice b q.length bc] w fun e w' => e = .returned (.bool (ahd p q)) ∧ ∃ m, w' = w.drewN m := by
  have HX := Lib.hid (fun j (hj : j < p.length) => h1 j hj)
  have HY := Lib.hid (fun j (hj : j < q.length) => h2 j hj)
  have S := Lib.hid (lexc_step p q)
  have SL := Lib.hid (lexc_endl p q)
  have SR := Lib.hid (lexc_endr p q)
  have SE := Lib.hid (lexc_ends p q)
  unfold ahd
  have Z := Lib.hid (show lexc p q = lexc (p.drop 0) (q.drop 0) from rfl)
  clear h1 h2
  generalize lexc p q = r at *
  generalize p.length = n at *
  generalize q.length = m at *
  go_enter Try.func15, Try.ntmps15
  go_wp2
  go_loopw [5] (fun i wr => ∃ k : Nat, k ≤ n ∧ k ≤ m ∧ i = .int .i64 k ∧ Hid (r = lexc (p.drop k) (q.drop k)) ∧ ∃ m, wr = w.drewN m) (fun i _ => n - (intOf i).toNat)
  case atStart => exact ⟨0, by omega, by omega, rfl, Z, 0, rfl⟩
  case round =>
    obtain ⟨k, hk, hkm, rfl, HE, md, rfl⟩ := hrel
    by_cases hlt : k < n
    · have i1 : (k : Int) < (n : Int) := by omega
      by_cases hlm : k < m
      · have i3 : (k : Int) < (m : Int) := by omega
        obtain ⟨b1, o1, rfl, l1, c1⟩ := HX.out k hlt
        obtain ⟨b2, o2, rfl, l2, c2⟩ := HY.out k hlm
        have E := HE.out
        rw [S.out k hlt hlm] at E
        by_cases hz : nth p k = nth q k
        · have E2 : Hid (r = lexc (p.drop (k + 1)) (q.drop (k + 1))) := Lib.hid (by rw [if_neg (by omega), if_neg (by omega)] at E; exact E)
          clear E HE
          rw [← hz] at c2
          generalize nth p k = x at *
          have e1 : (x != x) = false := by simp
          clear hz
          go_wp2
          go_quiet (fail)
          go_wp2
          go_roundw
          case rel => exact ⟨k + 1, by omega, by omega, by go_num, E2, _, rfl⟩
          case measure => simp [intOf]; omega
        · generalize nth p k = x at *
          generalize nth q k = y at *
          have e1 : (x != y) = true := by simpa using hz
          have e0 : decide (r < 0) = decide (x < y) := by
            rw [E]
            by_cases h : x < y
            · rw [if_pos h]; simp [h]
            · rw [if_neg h, if_pos (by omega)]; simp [h]
          have e0 := Lib.hid e0
          clear E HE hz Z
          go_wp2
          go_quiet (fail)
          go_wp2
          go_quiet (fail)
          go_wp2
          go_ret
          refine ⟨congrArg (fun z => Ending.returned (.bool z)) e0.out.symm, ?_⟩
          simp only [World.drewN_drewN]
          exact ⟨_, rfl⟩
      · have i2 : ¬ (k : Int) < (m : Int) := by omega
        have i4 : ¬ (n : Int) < (m : Int) := by omega
        obtain rfl : r = 1 := HE.out.trans (SL.out k hlt (by omega))
        go_wp2
        go_ret
        exact ⟨rfl, _, rfl⟩
    · obtain rfl : n = k := by omega
      by_cases hlm : n < m
      · have i1 : (n : Int) < (m : Int) := by omega
        obtain rfl : r = -1 := HE.out.trans (SR.out n hlm (by omega))
        go_wp2
        go_ret
        exact ⟨rfl, _, rfl⟩
      · have i1 : ¬ (n : Int) < (m : Int) := by omega
        obtain rfl : r = 0 := HE.out.trans (SE.out n (by omega) (by omega))
        go_wp2
        go_ret
        exact ⟨rfl, _, rfl⟩
end Go.Proofs.Ytgldgilhegdpjaa

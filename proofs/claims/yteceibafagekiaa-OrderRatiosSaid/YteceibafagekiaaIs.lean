/-
  What Is, Same, anyNegative and the reference's Is answer.
-/
import Derived.Test.YteceibafagekiaaRise
import Derived.Test.YteceibafagekiaaMath
namespace Go.Proofs.Yteceibafagekiaa
open Go.RowKit
set_option linter.unusedVariables false

/-- a list of numbers in memory -/
def Ints (W : World) (a : Option Addr) (l : List Int) : Prop := ∀ j, j < l.length → ∃ b o, a = some ⟨b, o, none⟩ ∧ b < W.heap.size ∧ W.cell? ⟨b, o + j, none⟩ = some (.int .i64 (nth l j))
theorem Ints.keep {W W1 : World} {a : Option Addr} {l : List Int} (h : Ints W a l) (hb : Below W.heap.size W W1) : Ints W1 a l := fun j hj => by
  obtain ⟨b, o, h1, h2, h3⟩ := h j hj
  exact ⟨b, o, h1, Nat.lt_of_lt_of_le h2 hb.size, (hb.cell (p := ⟨b, o + j, none⟩) h2).trans h3⟩
theorem Own.ints {B g n cap : Nat} {l : List Int} {w0 wr : World} (h : Own B g n cap l w0 wr) : Ints wr (some ⟨g, 0, none⟩) l := fun j hj => by
  obtain ⟨cur, hg⟩ := h.blk
  exact ⟨g, 0, rfl, lt_hp hg, by rw [Nat.zero_add]; exact h.cell j (by rw [h.1] at hj; exact hj)⟩
set_option maxHeartbeats 1000000 in
theorem same_core (x y : List Int) (b : Bool) (hl : y.length = x.length) (hb : b = true ↔ ∀ j, j < x.length → nth x j = nth y j) (hn : x.length ≤ 1000) (xa ya : Option Addr) (xc yc : Nat) (w : World) (h1 : Ints w xa x) (h2 : Ints w ya y) :
    Calls Try.prog 12 #[.slice xa x.length xc, .slice ya y.length yc] w fun e w' => e = .returned (.bool b) ∧ Below w.heap.size w w' := by
  have HX := Lib.hid h1
  have HY := Lib.hid (fun j (hj : j < x.length) => h2 j (by omega))
  have HB := Lib.hid hb
  rw [hl]
  clear h1 h2 hl hb
  have HXl := Lib.hid (fun j (hj : j < x.length) => HX.out j hj)
  clear HX
  generalize x.length = n at *
  go_enter Try.func12, Try.ntmps12
  go_wp2
  go_loopw [5] (fun i wr => ∃ k : Nat, k ≤ n ∧ i = .int .i64 k ∧ Hid (∀ j, j < k → nth x j = nth y j) ∧ ∃ m, wr = w.drewN m) (fun i _ => n - (intOf i).toNat)
  case atStart => exact ⟨0, by omega, rfl, fun j hj => absurd hj (by omega), 0, rfl⟩
  case round =>
    obtain ⟨k, hk, rfl, HE, m, rfl⟩ := hrel
    have kb1 : (0 : Int) ≤ (k : Int) := by omega
    by_cases hlt : k < n
    · have kb2 : (k : Int) < (n : Int) := by omega
      obtain ⟨b1, o1, rfl, l1, c1⟩ := HXl.out k hlt
      obtain ⟨b2, o2, rfl, l2, c2⟩ := HY.out k hlt
      by_cases he : nth x k = nth y k
      · have HE2 : Hid (∀ j, j < k + 1 → nth x j = nth y j) := fun j hj => by
          rcases Nat.lt_or_ge j k with h | h
          · exact HE.out j h
          · obtain rfl : j = k := by omega
            exact he
        rw [← he] at c2
        generalize nth x k = t at *
        have e1 : (t != t) = false := by simp
        clear he
        go_wp2
        go_quiet (fail)
        go_wp2
        go_roundw
        case rel => exact ⟨k + 1, by omega, by go_num, HE2, _, rfl⟩
        case measure => simp [intOf]; omega
      · have hbf : b = false := by
          cases b
          · rfl
          · exact absurd (HB.out.1 rfl k hlt) he
        subst hbf
        generalize nth x k = t at *
        generalize nth y k = s at *
        have e1 : (t != s) = true := by simpa using he
        clear he
        go_wp2
        go_quiet (fail)
        go_wp2
        go_ret
        exact ⟨rfl, bl_dn (bl_dn (Below.refl _ _) _) _⟩
    · obtain rfl : n = k := by omega
      have hbt : b = true := HB.out.2 HE.out
      subst hbt
      go_wp2
      go_ret
      exact ⟨rfl, bl_dn (Below.refl _ _) _⟩
theorem same_any (x y : List Int) (hn : x.length ≤ 1000) (hy : y.length ≤ 1000) (xa ya : Option Addr) (xc yc : Nat) (w : World) (h1 : Ints w xa x) (h2 : Ints w ya y) :
    Calls Try.prog 12 #[.slice xa x.length xc, .slice ya y.length yc] w fun e w' => e = .returned (.bool (decide (x = y))) ∧ Below w.heap.size w w' := by
  by_cases hl : y.length = x.length
  · refine same_core x y _ hl ?_ hn xa ya xc yc w h1 h2
    simp only [decide_eq_true_eq]
    exact ⟨fun h => by subst h; exact fun _ _ => rfl, fun h => nth_ext x y hl.symm h⟩
  · have e : decide (x = y) = false := by
      simp only [decide_eq_false_iff_not]; intro h; subst h; exact hl rfl
    rw [e]
    clear e h1 h2
    generalize x.length = n at *
    generalize y.length = m at *
    have e1 : ((n : Int) != (m : Int)) = true := by simp; omega
    go_enter Try.func12, Try.ntmps12
    go_wp2
    go_ret
    exact ⟨rfl, Below.refl _ _⟩
/-! anyNegative -/
theorem neg_any (n : Int) (w : World) : Calls Try.prog 37 #[.int .i64 n] w fun e w' => e = .returned (.bool (decide (n < 0))) ∧ w = w' := by
  by_cases h : n < 0
  · go_enter Try.func37, Try.ntmps37
    go_wp2
    go_ret
    exact ⟨by simp [h], rfl⟩
  · go_enter Try.func37, Try.ntmps37
    go_wp2
    go_ret
    exact ⟨by simp; omega, rfl⟩
def NoNeg (l : List Int) : Prop := ∀ j, j < l.length → 0 ≤ nth l j
def Idx (l : List Int) (w : World) (e : Ending) (w' : World) : Prop := ∃ n : Int, e = .returned (.int .i64 n) ∧ w = w' ∧ (0 ≤ n ↔ ¬ NoNeg l)
set_option maxHeartbeats 1000000 in
theorem index_any (l : List Int) (a : Option Addr) (c : Nat) (w : World) (hI : Ints w a l) (hl : l.length ≤ 1000) :
    Calls Try.prog 45 #[.slice a l.length c, .func (.func 37) #[] #[]] w (Idx l w) := by
  have HI := Lib.hid (fun j (hj : j < l.length) => hI j hj)
  have HN := Lib.hid (show NoNeg l ↔ ∀ j, j < l.length → 0 ≤ nth l j from Iff.rfl)
  clear hI
  generalize l.length = n at *
  go_enter Try.func45, Try.ntmps45
  go_wp2
  go_loop [8] (fun i => ∃ k : Nat, k ≤ n ∧ i = .int .i64 k ∧ Hid (∀ j, j < k → 0 ≤ nth l j)) (fun i => n - (intOf i).toNat)
  case atStart => exact ⟨0, by omega, rfl, fun j hj => absurd hj (by omega)⟩
  case round =>
    obtain ⟨k, hk, rfl, HE⟩ := hrel
    by_cases hlt : k < n
    · obtain ⟨b, o, rfl, hbl, hc⟩ := HI.out k hlt
      by_cases hx : nth l k < 0
      · have HF := Lib.hid (show ¬ NoNeg l from fun h => by have := HN.out.1 h k hlt; omega)
        generalize nth l k = x at *
        have HC := Lib.hid (fun W => neg_any x W)
        have e1 : decide (x < 0) = true := by simpa using hx
        rw [e1] at HC
        clear hx e1
        go_wp2_with fail
        refine (HC.out _).mono ?_; rintro e w1 ⟨rfl, rfl⟩
        go_wp2
        go_ret
        exact ⟨k, rfl, rfl, ⟨fun _ => HF.out, fun _ => by omega⟩⟩
      · have HE2 : Hid (∀ j, j < k + 1 → 0 ≤ nth l j) := fun j hj => by
          rcases Nat.lt_or_ge j k with h | h
          · exact HE.out j h
          · obtain rfl : j = k := by omega
            omega
        generalize nth l k = x at *
        have HC := Lib.hid (fun W => neg_any x W)
        have e1 : decide (x < 0) = false := by simpa using hx
        rw [e1] at HC
        clear hx e1
        go_wp2_with fail
        refine (HC.out _).mono ?_; rintro e w1 ⟨rfl, rfl⟩
        go_wp2
        go_round
        case rel => exact ⟨k + 1, by omega, by go_num, HE2⟩
        case measure => simp [intOf]; omega
    · obtain rfl : n = k := by omega
      have HF := Lib.hid (HN.out.2 HE.out)
      go_wp2
      go_ret
      exact ⟨-1, rfl, rfl, ⟨fun h => by omega, fun h => absurd HF.out h⟩⟩
theorem noneg_any (l : List Int) (h : NoNeg l) (a : Option Addr) (c : Nat) (w : World) (hI : Ints w a l) (hl : l.length ≤ 1000) :
    Calls Try.prog 24 #[.slice a l.length c] w fun e w' => e = .returned (.bool false) ∧ w = w' := by
  have H := Lib.hid (index_any l a c w hI hl)
  have HN := Lib.hid h
  clear hI hl h
  generalize l.length = m at *
  have H2 : Hid (Calls Try.prog 36 #[.slice a m c, .func (.func 37) #[] #[]] w fun e w' => e = .returned (.bool false) ∧ w = w') := by
    show Calls _ _ _ _ _
    go_enter Try.func36, Try.ntmps36
    go_wp2_with fail
    refine H.out.mono ?_; rintro e w1 ⟨n, rfl, rfl, hn⟩
    have h1 : ¬ 0 ≤ n := fun h => absurd HN.out (hn.1 h)
    clear hn
    go_wp2
    go_ret
    exact ⟨by simp; omega, rfl⟩
  clear H HN
  go_enter Try.func24, Try.ntmps24
  go_wp2_with fail
  refine H2.out.mono ?_; rintro e w1 ⟨rfl, rfl⟩
  go_wp2
  go_ret
  exact ⟨rfl, rfl⟩
end Go.Proofs.Yteceibafagekiaa

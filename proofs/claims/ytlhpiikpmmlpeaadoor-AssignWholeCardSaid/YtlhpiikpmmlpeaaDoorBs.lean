/-
  assign: the reference's Same of two lists.
-/
import Derived.Test.YtlhpiikpmmlpeaaDoorAi
namespace Go.Proofs.YtlhpiikpmmlpeaaDoor.od
open Go.RowKit
set_option linter.unusedVariables false
set_option maxHeartbeats 1000000 in
theorem same_core (x y : List Int) (b : Bool) (hl : y.length = x.length) (hb : b = true ↔ ∀ j, j < x.length → nth x j = nth y j) (hn : x.length ≤ 1000) (xa ya : Option Addr) (xc yc : Nat) (w : World) (h1 : Ints w xa x) (h2 : Ints w ya y) :
    Calls Tryd.prog 26 #[.slice xa x.length xc, .slice ya y.length yc] w fun e w' => e = .returned (.bool b) ∧ Below w.heap.size w w' := by
  have HX := Lib.hid h1
  have HY := Lib.hid (fun j (hj : j < x.length) => h2 j (by omega))
  have HB := Lib.hid hb
  rw [hl]
  clear h1 h2 hl hb
  have HXl := Lib.hid (fun j (hj : j < x.length) => HX.out j hj)
  clear HX
  generalize x.length = n at *
  go_enter Tryd.func26, Tryd.ntmps26
  go_wp2
  go_loopw [5] (fun i wr => ∃ k : Nat, k ≤ n ∧ i = .int .i64 k ∧ Hid (∀ j, j < k → nth x j = nth y j) ∧ ∃ m, wr = w.drewN m) (fun i _ => n - (intOf i).toNat)
  case atStart => exact ⟨0, by omega, rfl, fun j hj => absurd hj (by omega), 0, rfl⟩
  case round =>
    obtain ⟨k, hk, rfl, HE, m, rfl⟩ := hrel
    have kb1 : (0 : Int) ≤ (k : Int) := by omega
    by_cases hlt : k < n
    · have kb2 : (k : Int) < (n : Int) := by omega
      obtain ⟨b1, o1, rfl, l1, c1⟩ := HXl.out k hlt
      obtain ⟨b2, o2, rfl, l2, c2⟩ := HY.out k hlt
      by_cases he : nth x k = nth y k
      · have HE2 : Hid (∀ j, j < k + 1 → nth x j = nth y j) := fun j hj => by
          rcases Nat.lt_or_ge j k with h | h
          · exact HE.out j h
          · obtain rfl : j = k := by omega
            exact he
        rw [← he] at c2
        generalize nth x k = t at *
        have e1 : (t != t) = false := by simp
        clear he
        go_wp2
        go_quiet (fail)
        go_wp2
        go_roundw
        case rel => exact ⟨k + 1, by omega, by go_num, HE2, _, rfl⟩
        case measure => simp [intOf]; omega
      · have hbf : b = false := by
          cases b
          · rfl
          · exact absurd (HB.out.1 rfl k hlt) he
        subst hbf
        generalize nth x k = t at *
        generalize nth y k = s at *
        have e1 : (t != s) = true := by simpa using he
        clear he
        go_wp2
        go_quiet (fail)
        go_wp2
        go_ret
        exact ⟨rfl, bl_dn (bl_dn (Below.refl _ _) _) _⟩
    · obtain rfl : n = k := by omega
      have hbt : b = true := HB.out.2 HE.out
      subst hbt
      go_wp2
      go_ret
      exact ⟨rfl, bl_dn (Below.refl _ _) _⟩
theorem same_any (x y : List Int) (hn : x.length ≤ 1000) (hy : y.length ≤ 1000) (xa ya : Option Addr) (xc yc : Nat) (w : World) (h1 : Ints w xa x) (h2 : Ints w ya y) :
    Calls Tryd.prog 26 #[.slice xa x.length xc, .slice ya y.length yc] w fun e w' => e = .returned (.bool (decide (x = y))) ∧ Below w.heap.size w w' := by
  by_cases hl : y.length = x.length
  · refine same_core x y _ hl ?_ hn xa ya xc yc w h1 h2
    simp only [decide_eq_true_eq]
    exact ⟨fun h => by subst h; exact fun _ _ => rfl, fun h => nth_ext x y hl.symm h⟩
  · have e : decide (x = y) = false := by
      simp only [decide_eq_false_iff_not]; intro h; subst h; exact hl rfl
    rw [e]
    clear e h1 h2
    generalize x.length = n at *
    generalize y.length = m at *
    have e1 : ((n : Int) != (m : Int)) = true := by simp; omega
    go_enter Tryd.func26, Tryd.ntmps26
    go_wp2
    go_ret
    exact ⟨rfl, Below.refl _ _⟩
end Go.Proofs.YtlhpiikpmmlpeaaDoor.od

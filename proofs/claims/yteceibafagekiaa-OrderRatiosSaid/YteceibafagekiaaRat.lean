/-
  What order.ByRatio answers of short lists of small numbers.
-/
import Derived.Test.YteceibafagekiaaIs2
import Derived.Test.YteceibafagekiaaIns
import Derived.Test.YteceibafagekiaaCross
namespace Go.Proofs.Yteceibafagekiaa
open Go.RowKit
set_option linter.unusedVariables false

/-- how ByRatio compares two items -/
def crat (v w : List Int) (x y : Int) : Int :=
  if nth w x.toNat = 0 ∨ nth w y.toNat = 0 then cmpv (nth w x.toNat) (nth w y.toNat) else cmpv (nth v y.toNat * nth w x.toNat) (nth v x.toNat * nth w y.toNat)
theorem crat_zero {v w : List Int} {x y : Int} (h : nth w x.toNat = 0 ∨ nth w y.toNat = 0) : crat v w x y = cmpv (nth w x.toNat) (nth w y.toNat) := by unfold crat; rw [if_pos h]
theorem crat_pos {v w : List Int} {x y : Int} (h : ¬ (nth w x.toNat = 0 ∨ nth w y.toNat = 0)) : crat v w x y = cmpv (nth v y.toNat * nth w x.toNat) (nth v x.toNat * nth w y.toNat) := by unfold crat; rw [if_neg h]
theorem cmpv_bd (a b : Int) : -1 ≤ cmpv a b ∧ cmpv a b ≤ 1 := by
  rcases (show a < b ∨ b < a ∨ a = b by omega) with h | h | h
  · rw [cmpv_lt h]; omega
  · rw [cmpv_gt h]; omega
  · rw [cmpv_eq h]; omega
theorem crat_bd (v w : List Int) (x y : Int) : -1 ≤ crat v w x y ∧ crat v w x y ≤ 1 := by
  unfold crat; split <;> exact cmpv_bd _ _
attribute [irreducible] crat
set_option maxRecDepth 100000 in
set_option maxHeartbeats 2000000 in
theorem clos26_any (v w : List Int) (hl : w.length = v.length) (hn : v.length ≤ 1000) (bw bv : Nat) (wa va : Option Addr) (wc vc : Nat) (W : World)
    (hbw : W.cell? ⟨bw, 0, none⟩ = some (.slice wa w.length wc)) (hbv : W.cell? ⟨bv, 0, none⟩ = some (.slice va v.length vc)) (lw : bw < W.heap.size) (lv : bv < W.heap.size) (h1 : Ints W wa w) (h2 : Ints W va v)
    (x y : Int) (x0 : 0 ≤ x) (x1 : x < v.length) (y0 : 0 ≤ y) (y1 : y < v.length)
    (hc : ¬ (nth w x.toNat = 0 ∨ nth w y.toNat = 0) → ∀ X, Calls Try.prog 28 #[.int .i64 (nth v y.toNat), .int .i64 (nth w x.toNat), .int .i64 (nth v x.toNat), .int .i64 (nth w y.toNat)] X fun e w' => e = .returned (.int .i64 (cmpv (nth v y.toNat * nth w x.toNat) (nth v x.toNat * nth w y.toNat))) ∧ Below X.heap.size X w') :
    Calls Try.prog 26 #[.int .i64 x, .int .i64 y, .pointer (some ⟨bw, 0, none⟩), .pointer (some ⟨bv, 0, none⟩)] W fun e w' => e = .returned (.int .i64 (crat v w x y)) ∧ Below W.heap.size W w' := by
  obtain ⟨b1, o1, rfl, l1, cwx⟩ := h1 x.toNat (by omega)
  obtain ⟨b1', o1', e1, _, cwy⟩ := h1 y.toNat (by omega)
  simp only [Option.some.injEq, Addr.mk.injEq, and_true] at e1
  obtain ⟨rfl, rfl⟩ := e1
  obtain ⟨b2, o2, rfl, l2, cvx⟩ := h2 x.toNat (by omega)
  obtain ⟨b2', o2', e2, _, cvy⟩ := h2 y.toNat (by omega)
  simp only [Option.some.injEq, Addr.mk.injEq, and_true] at e2
  obtain ⟨rfl, rfl⟩ := e2
  rw [hl] at hbw
  have HCM : Hid (∀ X, Calls Try.prog 27 #[.int .i64 (nth w x.toNat), .int .i64 (nth w y.toNat)] X fun e w' => e = .returned (.int .i64 (cmpv (nth w x.toNat) (nth w y.toNat))) ∧ w' = X) := fun X => (cmp_int (nth w x.toNat) (nth w y.toNat) X).mono fun _ _ h => ⟨h.1, h.2.symm⟩
  have HX := Lib.hid hc
  have HZ := Lib.hid (fun h => crat_zero (v := v) (w := w) (x := x) (y := y) h)
  have HP := Lib.hid (fun h => crat_pos (v := v) (w := w) (x := x) (y := y) h)
  clear h1 h2 hc hl
  generalize crat v w x y = r at *
  generalize v.length = n at *
  generalize nth w x.toNat = wx at *
  generalize nth w y.toNat = wy at *
  generalize nth v x.toNat = vx at *
  generalize nth v y.toNat = vy at *
  by_cases hwx : wx = 0
  · subst hwx
    rw [HZ.out (Or.inl rfl)]
    generalize cmpv 0 wy = r' at *
    clear HZ HP HX
    go_enter Try.func26, Try.ntmps26
    go_wp2
    go_quiet ((go_at_call 27; exact Calls.quiet_of_same (HCM.out _)))
    go_wp2
    go_ret
    exact ⟨rfl, bl_dn (Below.refl _ _) _⟩
  · by_cases hwy : wy = 0
    · subst hwy
      rw [HZ.out (Or.inr rfl)]
      have e0 : (wx == 0) = false := by simpa using hwx
      generalize cmpv wx 0 = r' at *
      clear HZ HP HX hwx
      go_enter Try.func26, Try.ntmps26
      go_wp2
      go_quiet ((go_at_call 27; exact Calls.quiet_of_same (HCM.out _)))
      go_wp2
      go_ret
      exact ⟨rfl, bl_dn (Below.refl _ _) _⟩
    · have hh : ¬ (wx = 0 ∨ wy = 0) := fun h => by rcases h with h | h; exact hwx h; exact hwy h
      rw [HP.out hh]
      have HX2 := Lib.hid (HX.out hh)
      have e0 : (wx == 0) = false := by simpa using hwx
      have e1 : (wy == 0) = false := by simpa using hwy
      generalize cmpv (vy * wx) (vx * wy) = r' at *
      clear HZ HP HX hwx hwy hh
      go_enter Try.func26, Try.ntmps26
      go_wp2
      go_region_held3 (fun w' => w'.cell? ⟨bw, 0, none⟩ = some (.slice (some ⟨b1, o1, none⟩) n wc) ∧ w'.cell? ⟨bv, 0, none⟩ = some (.slice (some ⟨b2, o2, none⟩) n vc) ∧ w'.cell? ⟨b1, o1 + x.toNat, none⟩ = some (.int .i64 wx) ∧ w'.cell? ⟨b1, o1 + y.toNat, none⟩ = some (.int .i64 wy) ∧ w'.cell? ⟨b2, o2 + x.toNat, none⟩ = some (.int .i64 vx) ∧ w'.cell? ⟨b2, o2 + y.toNat, none⟩ = some (.int .i64 vy))
        (first | exact ⟨hbw, hbv, cwx, cwy, cvx, cvy⟩ | exact K1.out)
        (first
          | (go_at_call 28; refine (HX2.out _).mono ?_; rintro e x1 ⟨rfl, hb1⟩; have hb1 := bl_undr hb1; have K1 := Lib.hid (And.intro ((hb1.cell (p := ⟨bw, 0, none⟩) lw).trans hbw) (And.intro ((hb1.cell (p := ⟨bv, 0, none⟩) lv).trans hbv) (And.intro ((hb1.cell (p := ⟨b1, o1 + x.toNat, none⟩) l1).trans cwx) (And.intro ((hb1.cell (p := ⟨b1, o1 + y.toNat, none⟩) l1).trans cwy) (And.intro ((hb1.cell (p := ⟨b2, o2 + x.toNat, none⟩) l2).trans cvx) ((hb1.cell (p := ⟨b2, o2 + y.toNat, none⟩) l2).trans cvy)))))); have HB1 := Lib.hid hb1; clear hb1))
      all_goals go_wp2
      all_goals
        go_ret
        exact ⟨rfl, HB1.out⟩
end Go.Proofs.Yteceibafagekiaa

/-
  What the reference's better answers.
-/
import Derived.Test.YteoionlnnjcggaaOdRatM
import Derived.Test.YteoionlnnjcggaaOdRatA
import Derived.Test.YteoionlnnjcggaaArTwo
namespace Go.Proofs.Yteoionlnnjcggaa.od
open Go.RowKit
set_option linter.unusedVariables false
set_option maxRecDepth 100000 in
set_option maxHeartbeats 4000000 in
theorem better_core (n : Nat) (va wa : Option Addr) (vc wc : Nat) (b1 o1 b2 o2 : Nat) (x y : Nat) (vx wy vy wx cm : Int) (r : Bool) (A1 A2 A3 A4 P1 P2 : Value) (w : World)
    (ewa : wa = some ⟨b1, o1, none⟩) (eva : va = some ⟨b2, o2, none⟩) (l1 : b1 < w.heap.size) (l2 : b2 < w.heap.size) (hx : x < n) (hy : y < n)
    (c1 : w.cell? ⟨b2, o2 + x, none⟩ = some (.int .i64 vx)) (c2 : w.cell? ⟨b1, o1 + y, none⟩ = some (.int .i64 wy)) (c3 : w.cell? ⟨b2, o2 + y, none⟩ = some (.int .i64 vy)) (c4 : w.cell? ⟨b1, o1 + x, none⟩ = some (.int .i64 wx))
    (z1 : (wx == 0) = false) (z2 : (wy == 0) = false)
    (N1 : ∀ W, Calls Try.prog 64 #[.int .i64 vx] W fun e w' => e = .returned A1 ∧ Below W.heap.size W w')
    (N2 : ∀ W, Calls Try.prog 64 #[.int .i64 wy] W fun e w' => e = .returned A2 ∧ Below W.heap.size W w')
    (N3 : ∀ W, Calls Try.prog 64 #[.int .i64 vy] W fun e w' => e = .returned A3 ∧ Below W.heap.size W w')
    (N4 : ∀ W, Calls Try.prog 64 #[.int .i64 wx] W fun e w' => e = .returned A4 ∧ Below W.heap.size W w')
    (M1 : ∀ W, Calls Try.prog 63 #[A1, A2] W fun e w' => e = .returned P1 ∧ Below W.heap.size W w')
    (M2 : ∀ W, Calls Try.prog 63 #[A3, A4] W fun e w' => e = .returned P2 ∧ Below W.heap.size W w')
    (CM : ∀ W, Calls Try.prog 62 #[P1, P2] W fun e w' => e = .returned (.int .i64 cm) ∧ Below W.heap.size W w')
    (hr : r = (decide (0 < cm) || (decide (cm = 0) && decide (x < y)))) :
    Calls Try.prog 56 #[.slice va n vc, .slice wa n wc, .int .i64 x, .int .i64 y] w fun e w' => e = .returned (.bool r) ∧ Below w.heap.size w w' := by
  subst ewa eva
  have N1h := Lib.hid N1; have N2h := Lib.hid N2; have N3h := Lib.hid N3; have N4h := Lib.hid N4; have M1h := Lib.hid M1; have M2h := Lib.hid M2; have CMh := Lib.hid CM
  have HK : Hid (∀ X, Below w.heap.size w X → X.cell? ⟨b2, o2 + x, none⟩ = some (.int .i64 vx) ∧ X.cell? ⟨b1, o1 + y, none⟩ = some (.int .i64 wy) ∧ X.cell? ⟨b2, o2 + y, none⟩ = some (.int .i64 vy) ∧ X.cell? ⟨b1, o1 + x, none⟩ = some (.int .i64 wx)) :=
    fun X hb => ⟨(hb.cell (p := ⟨b2, o2 + x, none⟩) l2).trans c1, (hb.cell (p := ⟨b1, o1 + y, none⟩) l1).trans c2, (hb.cell (p := ⟨b2, o2 + y, none⟩) l2).trans c3, (hb.cell (p := ⟨b1, o1 + x, none⟩) l1).trans c4⟩
  have HB : Hid (Below w.heap.size w w.drew) := bl_drew w
  have K := Lib.hid (HK.out _ HB.out)
  have HR := Lib.hid hr
  clear N1 N2 N3 N4 M1 M2 CM hr l1 l2
  go_enter Try.func56, Try.ntmps56
  go_wp2
  go_region_held3 (fun w' => w'.cell? ⟨b2, o2 + x, none⟩ = some (.int .i64 vx) ∧ w'.cell? ⟨b1, o1 + y, none⟩ = some (.int .i64 wy) ∧ w'.cell? ⟨b2, o2 + y, none⟩ = some (.int .i64 vy) ∧ w'.cell? ⟨b1, o1 + x, none⟩ = some (.int .i64 wx))
    (exact K.out)
    (first
      | (go_at_call 64; with_reducible refine (N1h.out _).mono ?_; rintro e x1 ⟨rfl, hb1⟩; have HB := Lib.hid (bl_tr HB.out hb1); have K := Lib.hid (HK.out _ HB.out); clear hb1)
      | (go_at_call 64; with_reducible refine (N2h.out _).mono ?_; rintro e x1 ⟨rfl, hb1⟩; have HB := Lib.hid (bl_tr HB.out hb1); have K := Lib.hid (HK.out _ HB.out); clear hb1)
      | (go_at_call 64; with_reducible refine (N3h.out _).mono ?_; rintro e x1 ⟨rfl, hb1⟩; have HB := Lib.hid (bl_tr HB.out hb1); have K := Lib.hid (HK.out _ HB.out); clear hb1)
      | (go_at_call 64; with_reducible refine (N4h.out _).mono ?_; rintro e x1 ⟨rfl, hb1⟩; have HB := Lib.hid (bl_tr HB.out hb1); have K := Lib.hid (HK.out _ HB.out); clear hb1)
      | (go_at_call 63; with_reducible refine (M1h.out _).mono ?_; rintro e x1 ⟨rfl, hb1⟩; have HB := Lib.hid (bl_tr HB.out hb1); have K := Lib.hid (HK.out _ HB.out); clear hb1)
      | (go_at_call 63; with_reducible refine (M2h.out _).mono ?_; rintro e x1 ⟨rfl, hb1⟩; have HB := Lib.hid (bl_tr HB.out hb1); have K := Lib.hid (HK.out _ HB.out); clear hb1)
      | (go_at_call 62; with_reducible refine (CMh.out _).mono ?_; rintro e x1 ⟨rfl, hb1⟩; have HB := Lib.hid (bl_tr HB.out hb1); have K := Lib.hid (HK.out _ HB.out); clear hb1))
  all_goals
    clear K
    by_cases q1 : 0 < cm
    · go_wp2
      go_ret
      exact ⟨by rw [HR.out]; simp [q1], HB.out⟩
    · by_cases q2 : cm = 0
      · subst q2
        by_cases q3 : x < y
        · have q4 : (x : Int) < (y : Int) := by omega
          go_wp2
          go_ret
          exact ⟨by rw [HR.out]; simp [q3], HB.out⟩
        · have q4 : ¬ (x : Int) < (y : Int) := by omega
          go_wp2
          go_ret
          exact ⟨by rw [HR.out]; simp [q3], HB.out⟩
      · have q4 : (cm == 0) = false := by simpa using q2
        go_wp2
        go_ret
        exact ⟨by rw [HR.out]; simp [q1, q2], HB.out⟩
theorem cmpv_two (a b : Int) : ar.cmpv a b = cmpv a b := by
  unfold ar.cmpv
  rcases (show a < b ∨ b < a ∨ a = b by omega) with h | h | h
  · rw [if_pos h, cmpv_lt h]
  · rw [if_neg (by omega), if_neg (by omega), cmpv_gt h]
  · rw [if_neg (by omega), if_pos h, cmpv_eq h]
theorem cmpv_sgn (p q : Int) (b : Bool) : (decide (0 < cmpv p q) || (decide (cmpv p q = 0) && b)) = (decide (q < p) || (decide (p = q) && b)) := by
  rcases (show p < q ∨ q < p ∨ p = q by omega) with h | h | h
  · rw [cmpv_lt h]; simp; constructor
    · omega
    · intro; omega
  · rw [cmpv_gt h]; simp [h]
  · rw [cmpv_eq h]; simp [h]
set_option maxRecDepth 100000 in
set_option maxHeartbeats 4000000 in
theorem better_zero (n : Nat) (va wa : Option Addr) (vc wc : Nat) (b1 o1 : Nat) (x y : Nat) (wy wx : Int) (r : Bool) (w : World)
    (ewa : wa = some ⟨b1, o1, none⟩) (hx : x < n) (hy : y < n) (c2 : w.cell? ⟨b1, o1 + y, none⟩ = some (.int .i64 wy)) (c4 : w.cell? ⟨b1, o1 + x, none⟩ = some (.int .i64 wx)) (hz : wx = 0 ∨ wy = 0)
    (hr : r = (decide (wx = 0) && (decide (wy ≠ 0) || decide (x < y)))) :
    Calls Try.prog 56 #[.slice va n vc, .slice wa n wc, .int .i64 x, .int .i64 y] w fun e w' => e = .returned (.bool r) ∧ Below w.heap.size w w' := by
  subst ewa
  have HR := Lib.hid hr
  clear hr
  by_cases z1 : wx = 0
  · subst z1
    by_cases z2 : wy = 0
    · subst z2
      by_cases q3 : x < y
      · have q4 : (x : Int) < (y : Int) := by omega
        clear hz
        go_enter Try.func56, Try.ntmps56
        go_wp2
        go_ret
        exact ⟨by rw [HR.out]; simp [q3], Below.refl _ _⟩
      · have q4 : ¬ (x : Int) < (y : Int) := by omega
        clear hz
        go_enter Try.func56, Try.ntmps56
        go_wp2
        go_ret
        exact ⟨by rw [HR.out]; simp [q3], Below.refl _ _⟩
    · have q4 : (wy == 0) = false := by simpa using z2
      have q5 : (wy != 0) = true := by simpa using z2
      clear hz
      go_enter Try.func56, Try.ntmps56
      go_wp2
      go_ret
      exact ⟨by rw [HR.out]; simp [z2], Below.refl _ _⟩
  · have z2 : wy = 0 := by rcases hz with h | h; exact absurd h z1; exact h
    subst z2
    have q4 : (wx == 0) = false := by simpa using z1
    clear hz
    go_enter Try.func56, Try.ntmps56
    go_wp2
    go_ret
    exact ⟨by rw [HR.out]; simp [z1], Below.refl _ _⟩
theorem better_any (v w : List Int) (hl : w.length = v.length) (bv : I64s v) (bw : I64s w) (va wa : Option Addr) (vc wc : Nat) (x y : Nat) (hx : x < v.length) (hy : y < v.length) (W : World) (h1 : Ints W va v) (h2 : Ints W wa w) :
    Calls Try.prog 56 #[.slice va v.length vc, .slice wa v.length wc, .int .i64 x, .int .i64 y] W fun e w' => e = .returned (.bool (ltR v w x y)) ∧ Below W.heap.size W w' := by
  obtain ⟨b1, o1, rfl, l1, cwx⟩ := h2 x (by omega)
  obtain ⟨b1', o1', e1, _, cwy⟩ := h2 y (by omega)
  simp only [Option.some.injEq, Addr.mk.injEq, and_true] at e1
  obtain ⟨rfl, rfl⟩ := e1
  obtain ⟨b2, o2, rfl, l2, cvx⟩ := h1 x (by omega)
  obtain ⟨b2', o2', e2, _, cvy⟩ := h1 y (by omega)
  simp only [Option.some.injEq, Addr.mk.injEq, and_true] at e2
  obtain ⟨rfl, rfl⟩ := e2
  by_cases z : nth w x = 0 ∨ nth w y = 0
  · exact better_zero v.length _ _ vc wc b1 o1 x y _ _ _ W rfl hx hy cwy cwx z (by unfold ltR; rw [if_pos z])
  · obtain ⟨p1, p2⟩ := bv x; obtain ⟨q1, q2⟩ := bv y; obtain ⟨r1, r2⟩ := bw x; obtain ⟨s1, s2⟩ := bw y
    have p4 := ar.B4; have p8 := ar.B8; have p5 := ar.B5
    have ha := ar.abs_b _ p1 p2; have hb := ar.abs_b _ s1 s2; have hc := ar.abs_b _ q1 q2; have hd := ar.abs_b _ r1 r2
    have hm1 := ar.mul_bound ha hb
    have hm2 := ar.mul_bound hc hd
    have e1 : ar.sv (decide (nth v x < 0) != decide (nth w y < 0)) ((nth v x).natAbs * (nth w y).natAbs) = nth v x * nth w y := by rw [ar.sv_mul, ar.sv_num, ar.sv_num]
    have e2 : ar.sv (decide (nth v y < 0) != decide (nth w x < 0)) ((nth v y).natAbs * (nth w x).natAbs) = nth v y * nth w x := by rw [ar.sv_mul, ar.sv_num, ar.sv_num]
    refine better_core v.length _ _ vc wc b1 o1 b2 o2 x y _ _ _ _ (cmpv (nth v x * nth w y) (nth v y * nth w x)) _ _ _ _ _ _ _ W rfl rfl l1 l2 hx hy cvx cwy cvy cwx (by simpa using fun h => z (Or.inl h)) (by simpa using fun h => z (Or.inr h))
      (fun W => ar.num_any _ p1 p2 W) (fun W => ar.num_any _ s1 s2 W) (fun W => ar.num_any _ q1 q2 W) (fun W => ar.num_any _ r1 r2 W)
      (fun W => ar.mul_any _ _ _ _ (by omega) (by omega) W) (fun W => ar.mul_any _ _ _ _ (by omega) (by omega) W) (fun W => ?_) ?_
    · have h := ar.cmp_any (decide (nth v x < 0) != decide (nth w y < 0)) (decide (nth v y < 0) != decide (nth w x < 0)) ((nth v x).natAbs * (nth w y).natAbs) ((nth v y).natAbs * (nth w x).natAbs) (by omega) (by omega) W
      rw [e1, e2, cmpv_two] at h; exact h
    · rw [cmpv_sgn]; unfold ltR; rw [if_neg z]
end Go.Proofs.Yteoionlnnjcggaa.od

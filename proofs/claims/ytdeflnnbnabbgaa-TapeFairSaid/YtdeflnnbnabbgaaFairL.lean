/-
  The walk through kurganlaw17.TapeFair.
-/
import Derived.Test.YtdeflnnbnabbgaaTapes
namespace Go.Proofs.Ytdeflnnbnabbgaa
open Go.RowKit
set_option linter.unusedVariables false
/-- how often x is met among the first i -/
def ct (f : Nat → Int) (x : Int) : Nat → Nat
  | 0 => 0
  | i + 1 => ct f x i + if f i = x then 1 else 0
theorem ct_zero (f : Nat → Int) (x : Int) : ct f x 0 = 0 := rfl
theorem ct_hit (f : Nat → Int) (x : Int) (i : Nat) (h : f i = x) : ct f x (i + 1) = ct f x i + 1 := by show _ + ite _ _ _ = _; rw [if_pos h]
theorem ct_miss (f : Nat → Int) (x : Int) (i : Nat) (h : ¬ f i = x) : ct f x (i + 1) = ct f x i := by show _ + ite _ _ _ = _; rw [if_neg h]; rfl
theorem ct_le (f : Nat → Int) (x : Int) : ∀ i, ct f x i ≤ i
  | 0 => Nat.le_refl _
  | i + 1 => by
    have := ct_le f x i
    by_cases h : f i = x
    · rw [ct_hit f x i h]; omega
    · rw [ct_miss f x i h]; omega
/-- in turn -/
theorem fv_turn (n j : Nat) : fvAt n 0 1 j = ((j % n : Nat) : Int) := by unfold fvAt; rw [if_pos (Nat.mod_one j), Nat.div_one]
theorem ct_turn (n k : Nat) (hk : k < n) : ∀ i, ct (fvAt n 0 1) (k : Int) i = (i + n - 1 - k) / n
  | 0 => by rw [ct_zero, Nat.div_eq_of_lt (by omega)]
  | i + 1 => by
    have ih := ct_turn n k hk i
    have e : i + 1 + n - 1 - k = (i + n - 1 - k) + 1 := by omega
    rw [e, Nat.succ_div, ← ih]
    by_cases h : fvAt n 0 1 i = (k : Int)
    · rw [ct_hit _ _ _ h, if_pos]
      rw [fv_turn] at h
      have h' : i % n = k := by exact_mod_cast h
      have hd := Nat.div_add_mod i n
      refine ⟨i / n + 1, ?_⟩
      rw [Nat.mul_add]
      omega
    · rw [ct_miss _ _ _ h, if_neg]
      · rfl
      · rintro ⟨c, hc⟩
        apply h
        rw [fv_turn]
        have h1 : i = n * (c - 1) + k := by
          cases c with
          | zero => omega
          | succ c => rw [Nat.mul_add] at hc; simp; omega
        rw [h1, Nat.mul_add_mod, Nat.mod_eq_of_lt hk]
theorem ct_round (n k c : Nat) (hk : k < n) : c / n ≤ ct (fvAt n 0 1) (k : Int) c ∧ ct (fvAt n 0 1) (k : Int) c ≤ c / n + 1 := by
  rw [ct_turn n k hk c]
  constructor
  · exact Nat.div_le_div_right (by omega)
  · have : c / n + 1 = (c + n) / n := (Nat.add_div_right c (by omega)).symm
    rw [this]
    exact Nat.div_le_div_right (by omega)
theorem ct_fav (n v k : Nat) (hne : k ≠ v) : ∀ i, ct (fvAt n v 4) (k : Int) i ≤ i / 4 ∧ i - i / 4 ≤ ct (fvAt n v 4) (v : Int) i
  | 0 => by rw [ct_zero, ct_zero]; omega
  | i + 1 => by
    have ih := ct_fav n v k hne i
    by_cases h : i % 4 = 3
    · have e : (i + 1) / 4 = i / 4 + 1 := by omega
      rw [e]
      constructor
      · by_cases h1 : fvAt n v 4 i = (k : Int)
        · rw [ct_hit _ _ _ h1]; omega
        · rw [ct_miss _ _ _ h1]; omega
      · by_cases h1 : fvAt n v 4 i = (v : Int)
        · rw [ct_hit _ _ _ h1]; omega
        · rw [ct_miss _ _ _ h1]; omega
    · have e : (i + 1) / 4 = i / 4 := by omega
      have hv : fvAt n v 4 i = (v : Int) := by unfold fvAt; rw [if_neg (by omega)]
      rw [e, ct_hit _ _ _ hv, ct_miss _ (k : Int) _ (by rw [hv]; omega)]
      omega
theorem ct_favs (n v k c : Nat) (hne : k ≠ v) : ct (fvAt n v 4) (k : Int) c ≤ ct (fvAt n v 4) (v : Int) c := by
  have := ct_fav n v k hne c
  omega
attribute [irreducible] ct
/-- a list of picks in memory -/
def PL (f : Nat → Int) (c : Nat) (X : World) (a : Option Addr) : Prop := ∀ j, j < c → ∃ b o, a = some ⟨b, o, none⟩ ∧ b < X.heap.size ∧ X.cell? ⟨b, o + j, none⟩ = some (.int .i64 (f j))
theorem PL.keep {f : Nat → Int} {c : Nat} {X Y : World} {a : Option Addr} (h : PL f c X a) (k : Below X.heap.size X Y) : PL f c Y a := fun j hj => by
  obtain ⟨b, o, e, h1, h2⟩ := h j hj
  exact ⟨b, o, e, Nat.lt_of_lt_of_le h1 k.size, (k.cell (p := ⟨b, o + j, none⟩) h1).trans h2⟩
def PCall (f : Nat → Int) (c : Nat) (X : World) (e : Ending) (X' : World) : Prop := ∃ a q, e = .returned (.slice a c q) ∧ PL f c X' a ∧ Below X.heap.size X X'
theorem pl_of (n v e c : Nat) (h : okF n v e c) (X : World) (E : Ending) (X' : World) (k : LCall (FAV n v e c) X E X') : PCall (fvAt n v e) c X E X' := by
  obtain ⟨u, rfl, a, q, rfl, hI, hb⟩ := k
  rw [FAV_yes n v e c h] at hI ⊢
  rw [FV_len]
  refine ⟨a, q, rfl, fun j hj => ?_, hb⟩
  obtain ⟨b, o, e1, h1, h2⟩ := hI j (by rw [FV_len]; exact hj)
  rw [FV_nth n v e c j hj] at h2
  exact ⟨b, o, e1, h1, h2⟩
set_option maxRecDepth 100000 in
set_option maxHeartbeats 4000000 in
theorem fair_core (n who count X Y Z : Int) (M V C : Nat) (hX : IntKind.u64.wrap n = X) (hX1 : 0 ≤ X ∧ X ≤ 18446744073709551615) (hY : IntKind.u64.wrap who = Y) (hY1 : 0 ≤ Y ∧ Y ≤ 18446744073709551615) (hZ : IntKind.u64.wrap count = Z) (hZ1 : 0 ≤ Z ∧ Z ≤ 18446744073709551615)
    (hM : X % 16 = (M : Int)) (hC : Z % 500 = (C : Int)) (hV : Y % (1 + (M : Int)) = (V : Int)) (w : World) :
    Calls Try.prog 5 #[.int .i64 n, .int .i64 who, .int .i64 count] w fun e w' => e = .returned (.bool true) ∧ Below w.heap.size w w' := by
  have hM1 : M ≤ 15 := by omega
  have hC1 : C ≤ 499 := by omega
  have hV1 : V ≤ M := by
    have := Int.emod_lt_of_pos Y (show 0 < 1 + (M : Int) by omega)
    omega
  have eN : ((M + 1 : Nat) : Int) = 1 + (M : Int) := by omega
  have HR : Hid (∀ U, Calls Try.prog 16 #[.int .i64 (1 + (M : Int)), .int .i64 C] U (PCall (fvAt (M + 1) 0 1) C U)) := fun U => by
    have h := (round_any ((M + 1 : Nat) : Int) C (.inl (by omega)) U).mono (pl_of (M + 1) 0 1 C ⟨⟨by omega, by omega, by omega, by omega⟩, by omega, by omega, by omega⟩ U)
    rwa [eN] at h
  have HF : Hid (∀ U, Calls Try.prog 17 #[.int .i64 (1 + (M : Int)), .int .i64 V, .int .i64 4, .int .i64 C] U (PCall (fvAt (M + 1) V 4) C U)) := fun U => by
    have h := (favor_any ((M + 1 : Nat) : Int) V (4 : Nat) C (by decide) (.inl (by omega)) U).mono (pl_of (M + 1) V 4 C ⟨⟨by omega, by omega, by omega, by omega⟩, by omega, by omega, by omega⟩ U)
    rwa [eN] at h
  have HA := Lib.hid (fun k (hk : k < M + 1) => ct_round (M + 1) k C hk)
  have HBv := Lib.hid (fun k (hk : k ≠ V) => ct_favs (M + 1) V k C hk)
  have HL := Lib.hid ct_le
  have HZ := Lib.hid ct_zero
  have HH := Lib.hid ct_hit
  have HMi := Lib.hid ct_miss
  have b1 : (0 : Int) < 1 + (M : Int) := by omega
  clear eN
  go_enter Try.func5, Try.ntmps5
  go_wp2_with fail
  refine (HR.out _).mono ?_; rintro e w1 ⟨a, q, rfl, l1, B1⟩
  have L1 := Lib.hid l1
  have BB1 := Lib.hid B1
  clear l1 B1
  go_wp2_with fail
  refine (HF.out _).mono ?_; rintro e w2 ⟨a2, q2, rfl, l2, B2⟩
  have L1b := Lib.hid (L1.out.keep B2)
  have L2 := Lib.hid l2
  have BB2 := Lib.hid (bl_tr BB1.out B2)
  clear l2 B2 L1 BB1
  go_wp2_with fail
  refine (tapes_any _).mono ?_; rintro e w3 ⟨rfl, B3⟩
  have L1 := Lib.hid (L1b.out.keep B3)
  have L2b := Lib.hid (L2.out.keep B3)
  have BB := Lib.hid (bl_tr BB2.out B3)
  clear B3 L1b L2 BB2 HR HF
  generalize fvAt (M + 1) 0 1 = f at *
  generalize fvAt (M + 1) V 4 = h at *
  go_wp2
  go_loop [9] (fun i => ∃ k : Nat, k ≤ M + 1 ∧ i = .int .i64 k) (fun i => M + 1 - (intOf i).toNat)
  case atStart => exact ⟨0, by omega, rfl⟩
  case round =>
    obtain ⟨k, hk, rfl⟩ := hrel
    by_cases hlt : k < M + 1
    · have g1 : (k : Int) < 1 + (M : Int) := by omega
      have z1 := HZ.out f (k : Int)
      have z2 := HZ.out h (k : Int)
      have z3 := HZ.out h (V : Int)
      have Z1 := Lib.hid z1
      have Z2 := Lib.hid z2
      have Z3 := Lib.hid z3
      clear z1 z2 z3
      go_wp2
      go_loop [10, 11, 12, 13] (fun x y z i => ∃ j : Nat, j ≤ C ∧ i = .int .i64 j ∧ x = .int .i64 (ct f k j) ∧ y = .int .i64 (ct h k j) ∧ z = .int .i64 (ct h V j)) (fun _ _ _ i => C - (intOf i).toNat)
      case atStart => exact ⟨0, by omega, rfl, by rw [Z1.out]; rfl, by rw [Z2.out]; rfl, by rw [Z3.out]; rfl⟩
      case round =>
        obtain ⟨j, hj, rfl, rfl, rfl, rfl⟩ := hrel
        by_cases hlt2 : j < C
        · obtain ⟨p1, o1, rfl, s1, c1⟩ := L1.out j hlt2
          obtain ⟨p2, o2, rfl, s2, c2⟩ := L2b.out j hlt2
          have k1 := HL.out f k j
          have k2 := HL.out h k j
          have k3 := HL.out h V j
          have D1 := Lib.hid (show ((ct f k (j + 1) : Nat) : Int) = ct f k j + if f j = (k : Int) then 1 else 0 by
            by_cases q : f j = (k : Int)
            · rw [HH.out f k j q, if_pos q]; rfl
            · rw [HMi.out f k j q, if_neg q]; omega)
          have D2 := Lib.hid (show ((ct h k (j + 1) : Nat) : Int) = ct h k j + if h j = (k : Int) then 1 else 0 by
            by_cases q : h j = (k : Int)
            · rw [HH.out h k j q, if_pos q]; rfl
            · rw [HMi.out h k j q, if_neg q]; omega)
          have D3 := Lib.hid (show ((ct h V (j + 1) : Nat) : Int) = ct h V j + if h j = (V : Int) then 1 else 0 by
            by_cases q : h j = (V : Int)
            · rw [HH.out h V j q, if_pos q]; rfl
            · rw [HMi.out h V j q, if_neg q]; omega)
          generalize ct f k j = A at *
          generalize ct h k j = B at *
          generalize ct h V j = G at *
          generalize f j = fj at *
          generalize h j = hj' at *
          by_cases q1 : fj = (k : Int)
          all_goals by_cases q2 : hj' = (k : Int)
          all_goals by_cases q3 : hj' = (V : Int)
          all_goals
            have d1 := D1.out
            have d2 := D2.out
            have d3 := D3.out
            first | rw [if_pos q1] at d1 | rw [if_neg q1, Int.add_zero] at d1
            first | rw [if_pos q2] at d2 | rw [if_neg q2, Int.add_zero] at d2
            first | rw [if_pos q3] at d3 | rw [if_neg q3, Int.add_zero] at d3
            have E1 := Lib.hid d1
            have E2 := Lib.hid d2
            have E3 := Lib.hid d3
            first | (have t1 : (fj == (k : Int)) = true := by simpa using q1) | (have t1 : (fj == (k : Int)) = false := by simpa using q1)
            first | (have t2 : (hj' == (k : Int)) = true := by simpa using q2) | (have t2 : (hj' == (k : Int)) = false := by simpa using q2)
            first | (have t3 : (hj' == (V : Int)) = true := by simpa using q3) | (have t3 : (hj' == (V : Int)) = false := by simpa using q3)
            clear d1 d2 d3 D1 D2 D3 q1 q2 q3
            go_wp2
            go_round
            case rel => exact ⟨j + 1, by omega, by go_num, by rw [E1.out], by rw [E2.out], by rw [E3.out]⟩
            case measure => simp [intOf]; omega
        · obtain rfl : j = C := by omega
          have r1 := (HA.out k hlt).1
          have r2 := (HA.out k hlt).2
          have e1 : ((j : Int)).tdiv (1 + (M : Int)) = ((j / (M + 1) : Nat) : Int) := by rw [Int.add_comm]; rfl
          have e2 : (j : Int) / (1 + (M : Int)) = ((j / (M + 1) : Nat) : Int) := by rw [Int.add_comm]; rfl
          have r3 := Nat.div_le_self j (M + 1)
          have r4 := HL.out f k j
          by_cases hkv : k = V
          · have u1 : ((k : Int) != (V : Int)) = false := by simp [hkv]
            generalize ct f k j = A at *
            generalize ct h k j = B at *
            generalize ct h V j = G at *
            generalize j / (M + 1) = Q at *
            have u2 : decide (A < Q) = false := decide_eq_false (by omega)
            have u3 : decide ((Q : Int) + 1 < (A : Int)) = false := decide_eq_false (by omega)
            clear hkv
            go_wp2
            go_round
            case rel => exact ⟨k + 1, by omega, by go_num⟩
            case measure => simp [intOf]; omega
          · have u1 : ((k : Int) != (V : Int)) = true := by simp; omega
            have r5 := HBv.out k hkv
            generalize ct f k j = A at *
            generalize ct h k j = B at *
            generalize ct h V j = G at *
            generalize j / (M + 1) = Q at *
            have u2 : decide (A < Q) = false := decide_eq_false (by omega)
            have u3 : decide ((Q : Int) + 1 < (A : Int)) = false := decide_eq_false (by omega)
            have u4 : decide (G < B) = false := decide_eq_false (by omega)
            clear hkv
            go_wp2
            go_round
            case rel => exact ⟨k + 1, by omega, by go_num⟩
            case measure => simp [intOf]; omega
    · obtain rfl : k = M + 1 := by omega
      go_wp2
      go_ret
      exact ⟨rfl, BB.out⟩
theorem tapeFair_walk (n who count : Int) (w : World) : Calls Try.prog 5 #[.int .i64 n, .int .i64 who, .int .i64 count] w fun e w' => e = .returned (.bool true) ∧ Below w.heap.size w w' := by
  have h1 := u64_bd n
  have h2 := u64_bd who
  have h3 := u64_bd count
  obtain ⟨M, hM⟩ := nat_of (IntKind.u64.wrap n % 16) (by omega)
  obtain ⟨C, hC⟩ := nat_of (IntKind.u64.wrap count % 500) (by omega)
  obtain ⟨V, hV⟩ := nat_of (IntKind.u64.wrap who % (1 + (M : Int))) (Int.emod_nonneg _ (by omega))
  exact fair_core n who count _ _ _ M V C rfl h1 rfl h2 rfl h3 hM hC hV w
end Go.Proofs.Ytdeflnnbnabbgaa

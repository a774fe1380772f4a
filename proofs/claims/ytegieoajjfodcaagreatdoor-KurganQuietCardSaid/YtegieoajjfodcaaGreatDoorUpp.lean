/-
  upper.
-/
import Derived.Test.YtegieoajjfodcaaGreatDoorAsg
import Derived.Deep.RegionHeld3
import Derived.BigRegion
namespace Go.Proofs.YtegieoajjfodcaaGreatDoor
open Go.RowKit
set_option linter.unusedVariables false
/-- a mirror of which the places ahead of (a, b), above the middle, are told -/
def UT (F : Nat → Nat → Int) (a b i j : Nat) : Int := if i = j then 0 else if i < j then (if i < a ∨ (i = a ∧ j < b) then F i j else 0) else (if j < a ∨ (j = a ∧ i < b) then F j i else 0)
theorem UT_zero (F : Nat → Nat → Int) (i j : Nat) : UT F 0 1 i j = 0 := by
  unfold UT
  by_cases h : i = j
  · rw [if_pos h]
  · rw [if_neg h]
    by_cases q : i < j
    · rw [if_pos q, if_neg (by omega)]
    · rw [if_neg q, if_neg (by omega)]
theorem UT_set (F : Nat → Nat → Int) (a b i j : Nat) (h : a < b) : upd (upd (UT F a b) a b (F a b)) b a (F a b) i j = UT F a (b + 1) i j := by
  unfold upd UT
  by_cases h1 : i = b ∧ j = a
  · rw [if_pos h1, if_neg (by omega), if_neg (by omega), if_pos (by omega), h1.1, h1.2]
  · rw [if_neg h1]
    by_cases h2 : i = a ∧ j = b
    · rw [if_pos h2, if_neg (by omega), if_pos (by omega), if_pos (by omega), h2.1, h2.2]
    · rw [if_neg h2]
      by_cases e : i = j
      · rw [if_pos e, if_pos e]
      · rw [if_neg e, if_neg e]
        by_cases q : i < j
        · rw [if_pos q, if_pos q]
          by_cases r : i < a ∨ (i = a ∧ j < b)
          · rw [if_pos r, if_pos (by omega)]
          · rw [if_neg r, if_neg (by omega)]
        · rw [if_neg q, if_neg q]
          by_cases r : j < a ∨ (j = a ∧ i < b)
          · rw [if_pos r, if_pos (by omega)]
          · rw [if_neg r, if_neg (by omega)]
theorem UT_row (F : Nat → Nat → Int) (a n i j : Nat) (hi : i < n) (hj : j < n) : UT F a n i j = UT F (a + 1) (a + 1 + 1) i j := by
  unfold UT
  by_cases e : i = j
  · rw [if_pos e, if_pos e]
  · rw [if_neg e, if_neg e]
    by_cases q : i < j
    · rw [if_pos q, if_pos q]
      by_cases r : i < a ∨ (i = a ∧ j < n)
      · rw [if_pos r, if_pos (by omega)]
      · rw [if_neg r, if_neg (by omega)]
    · rw [if_neg q, if_neg q]
      by_cases r : j < a ∨ (j = a ∧ i < n)
      · rw [if_pos r, if_pos (by omega)]
      · rw [if_neg r, if_neg (by omega)]
theorem UT_all (F : Nat → Nat → Int) (n i j : Nat) (hi : i < n) (hj : j < n) : UT F n (n + 1) i j = if i = j then 0 else if i < j then F i j else F j i := by
  unfold UT
  by_cases e : i = j
  · rw [if_pos e, if_pos e]
  · rw [if_neg e, if_neg e]
    by_cases q : i < j
    · rw [if_pos q, if_pos q, if_pos (by omega)]
    · rw [if_neg q, if_neg q, if_pos (by omega)]
attribute [irreducible] UT
/-- what upper reads for a place above the middle -/
def FU (T : List Tok) (s : St) (n i j : Nat) : Int := vn eK T s (rs n i + (j - i - 1))
def MM (T : List Tok) (s : St) (n i j : Nat) : Int := if i = j then 0 else if i < j then FU T s n i j else FU T s n j i
set_option maxRecDepth 100000 in
set_option maxHeartbeats 4000000 in
theorem upper_s (b g C : Nat) (T : List Tok) (s : St) (n : Nat) (n2 : n ≤ 24) (B gc : Nat) (gs : Nat → Nat) (w : World) (hr : RS b g C T s w) (ht : TBL B gc n gs (fun _ _ => 0) w) (hB : B ≤ w.heap.size) :
    Calls Tryz.prog 82 #[.pointer (some ⟨b, 0, none⟩), .slice (some ⟨gc, 0, none⟩) n n] w fun r w' => r = .returned (.tuple #[]) ∧ FS b g C T B gc n gs (steps eK T s (rs n n)) (MM T s n) w w' := by
  have K1 : Hid (FS b g C T B gc n gs (steps eK T s (rs n 0)) (UT (FU T s n) 0 (0 + 1)) w w) := ⟨hr, ht.congr (fun i j _ _ => (UT_zero _ i j).symm), Up.refl _ _ _, hB⟩
  clear hr ht hB
  go_enter Tryz.func82, Tryz.ntmps82
  go_wp2
  go_loopw [8] (fun i wr => ∃ (a : Nat), a ≤ n ∧ i = .int .i64 a ∧ Hid (FS b g C T B gc n gs (steps eK T s (rs n a)) (UT (FU T s n) a (a + 1)) w wr)) (fun i _ => n - (intOf i).toNat)
  case atStart => exact ⟨0, by omega, rfl, K1⟩
  case round =>
    clear K1
    obtain ⟨a, ha, rfl, HC⟩ := hrel
    by_cases hal : a < n
    · have q1 : (a : Int) < (n : Int) := by omega
      have q2 : (0 : Int) ≤ (a : Int) := by omega
      have HK0 : Hid (FS b g C T B gc n gs (steps eK T s (rs n a + (a + 1 - a - 1))) (UT (FU T s n) a (a + 1)) w wr) := by rw [show rs n a + (a + 1 - a - 1) = rs n a by omega]; exact HC
      clear HC
      go_wp2
      go_loopw [5] (fun i wr2 => ∃ c : Nat, a + 1 ≤ c ∧ c ≤ n ∧ i = .int .i64 c ∧ Hid (FS b g C T B gc n gs (steps eK T s (rs n a + (c - a - 1))) (UT (FU T s n) a c) w wr2)) (fun i _ => n - (intOf i).toNat)
      case atStart => exact ⟨a + 1, by omega, by omega, by go_num, HK0⟩
      case round =>
        clear HK0
        obtain ⟨c, hac, hc, rfl, HK⟩ := hrel
        by_cases hcn : c < n
        · have q3 : (c : Int) < (n : Int) := by omega
          have q4 : (0 : Int) ≤ (c : Int) := by omega
          have FN : Hid (∀ w1, RS b g C T (adv (steps eK T s (rs n a + (c - a - 1))) (eE (tk T (steps eK T s (rs n a + (c - a - 1))).p))) w1 → wr.drew.grownBy w1 (some b) → FS b g C T B gc n gs (steps eK T s (rs n a + (c - a - 1) + 1)) (UT (FU T s n) a c) w w1) := fun w1 h1 h2 => HK.out.drew.call h1 h2
          have HX := Lib.hid (entry_s b g C T _ _ HK.out.drew.rd)
          have HV : (tk T (steps eK T s (rs n a + (c - a - 1))).p).num = FU T s n a c := rfl
          rw [HV] at HX
          have c0 := HK.out.drew.tb.rowAt hal
          clear HK HV
          go_wp2
          go_region_held3 (fun w' => w'.cell? ⟨gc, a, none⟩ = some (.slice (some ⟨gs a, 0, none⟩) n n)) (first | exact c0 | exact c1 | exact c2)
            (first
              | (go_at_call 80; refine HX.out.mono ?_; rintro r w1 ⟨rfl, h1, h2⟩; have HN := Lib.hid (FN.out w1 h1 h2); have c1 := HN.out.tb.rowAt hal; have c5 := HN.out.tb.cellAt hal hcn; have f5 := HN.out.tb.frozen hal c; have HN2 := Lib.hid (HN.out.store hal hcn (FU T s n a c)); have c2 := HN2.out.tb.rowAt hal; clear h1 h2))
          clear c0 c1 c5 f5
          have d1 := HN2.out.drew.tb.rowAt hal
          have d2 := HN2.out.drew.tb.rowAt hcn
          have d3 := HN2.out.drew.tb.cellAt hal hcn
          have HV2 : upd (UT (FU T s n) a c) a c (FU T s n a c) a c = FU T s n a c := by unfold upd; rw [if_pos ⟨rfl, rfl⟩]
          rw [HV2] at d3
          have c5 := HN2.out.drew.tb.cellAt hcn hal
          have f5 := HN2.out.drew.tb.frozen hcn a
          have HN3 := HN2.out.drew.store hcn hal (FU T s n a c)
          have e1 := HN3.tb.rowAt hal
          have e2 := HN3.tb.rowAt hcn
          have e3 := HN3.tb.cellAt hal hcn
          have HV3 : upd (upd (UT (FU T s n) a c) a c (FU T s n a c)) c a (FU T s n a c) a c = FU T s n a c := by unfold upd; rw [if_neg (by omega), if_pos ⟨rfl, rfl⟩]
          rw [HV3] at e3
          have HN4 := Lib.hid (HN3.congr (fun i j _ _ => UT_set _ a c i j (by omega)))
          clear HN2 HN3 HV2 HV3 HN c2 FN HX
          go_wp2
          go_region_held3 (fun w' => w'.cell? ⟨gc, a, none⟩ = some (.slice (some ⟨gs a, 0, none⟩) n n) ∧ w'.cell? ⟨gc, c, none⟩ = some (.slice (some ⟨gs c, 0, none⟩) n n) ∧ w'.cell? ⟨gs a, c, none⟩ = some (.int .i64 (FU T s n a c))) (first | exact ⟨d1, d2, d3⟩ | exact ⟨e1, e2, e3⟩)
            (fail)
          clear d1 d2 d3 e1 e2 e3 c5 f5
          rw [show rs n a + (c - a - 1) + 1 = rs n a + (c + 1 - a - 1) by omega] at HN4
          go_wp2
          go_roundw
          case rel => exact ⟨c + 1, by omega, by omega, by go_num, HN4⟩
          case measure => simp [intOf]; omega
        · obtain rfl : c = n := by omega
          have HN : Hid (FS b g C T B gc c gs (steps eK T s (rs c (a + 1))) (UT (FU T s c) (a + 1) (a + 1 + 1)) w wr) := by
            have e : rs c (a + 1) = rs c a + (c - a - 1) := by show rs c a + (c - 1 - a) = _; omega
            rw [e]
            exact HK.out.congr (fun i j hi hj => UT_row _ a c i j hi hj)
          clear HK
          go_wp2
          go_roundw
          case rel => exact ⟨a + 1, by omega, by go_num, HN⟩
          case measure => simp [intOf]; omega
    · obtain rfl : a = n := by omega
      have FN := Lib.hid (HC.out.congr (fun i j hi hj => UT_all _ a i j hi hj))
      clear HC
      go_wp2
      exact bodyPost_end (results_none rfl _ _ _) rfl ⟨rfl, FN.out⟩
end Go.Proofs.YtegieoajjfodcaaGreatDoor

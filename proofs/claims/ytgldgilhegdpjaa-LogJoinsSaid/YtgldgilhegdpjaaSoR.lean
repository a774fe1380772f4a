/-
  slices.rotateCmpFunc of a list of records.
-/
import Derived.Test.YtgldgilhegdpjaaSoW
namespace Go.Proofs.Ytgldgilhegdpjaa.so
open Go.RowKit
set_option linter.unusedVariables false
variable {TB : Tb}
theorem sr_nth (l : List Int) (a b m : Nat) (ha : a + m ≤ b) (hb : b + m ≤ l.length) : ∀ t, t ≤ m → ∀ x, nth (sr l a b t) x = if a ≤ x ∧ x < a + t then nth l (x + (b - a)) else if b ≤ x ∧ x < b + t then nth l (x - (b - a)) else nth l x
  | 0, _, x => by rw [sr_zero, if_neg (by omega), if_neg (by omega)]
  | t + 1, ht, x => by
    have ih := sr_nth l a b m ha hb t (by omega)
    rw [sr_succ, sw_nth _ _ _ _ (by rw [sr_len]; omega) (by rw [sr_len]; omega)]
    by_cases h1 : x = b + t
    · rw [if_pos h1, ih (a + t), if_neg (by omega), if_neg (by omega), if_neg (by omega), if_pos (by omega)]
      congr 1; omega
    · rw [if_neg h1]
      by_cases h2 : x = a + t
      · rw [if_pos h2, ih (b + t), if_neg (by omega), if_neg (by omega), if_pos (by omega)]
        congr 1; omega
      · rw [if_neg h2, ih x]
        repeat' split
        all_goals first | (exfalso; omega) | rfl
/-- T is l, the i numbers ahead of m and the j from m on changed round -/
def RotM (T l : List Int) (m i j : Nat) : Prop := ∀ x, nth T x = if m - i ≤ x ∧ x < m - i + j then nth l (x + i) else if m - i + j ≤ x ∧ x < m + j then nth l (x - j) else nth l x
theorem rot_gt {T l : List Int} {m i j : Nat} (hi : i ≤ m) (hij : j < i) (hl : m + j ≤ l.length) (h : RotM T (sr l (m - i) m j) m (i - j) j) : RotM T l m i j := fun x => by
  have s := fun y => sr_nth l (m - i) m j (by omega) (by omega) j (Nat.le_refl _) y
  rw [h x, s, s, s]
  repeat' split
  all_goals first | (exfalso; omega) | (congr 1; omega) | rfl
theorem rot_lt {T l : List Int} {m i j : Nat} (hi : i ≤ m) (hij : i < j) (hl : m + j ≤ l.length) (h : RotM T (sr l (m - i) (m + j - i) i) m i (j - i)) : RotM T l m i j := fun x => by
  have s := fun y => sr_nth l (m - i) (m + j - i) i (by omega) (by omega) i (Nat.le_refl _) y
  rw [h x, s, s, s]
  repeat' split
  all_goals first | (exfalso; omega) | (congr 1; omega) | rfl
theorem rot_eq {l : List Int} {m i : Nat} (hi : i ≤ m) (hl : m + i ≤ l.length) : RotM (sr l (m - i) m i) l m i i := fun x => by
  rw [sr_nth l (m - i) m i (by omega) (by omega) i (Nat.le_refl _) x]
  repeat' split
  all_goals first | (exfalso; omega) | (congr 1; omega) | rfl
attribute [irreducible] RotM
set_option maxRecDepth 100000 in
set_option maxHeartbeats 4000000 in
theorem rotate_any (B g n cap : Nat) (l : List Int) (w0 : World) (a m b c : Nat) (ha : a < m) (hmb : m < b) (hb : b ≤ n) (hn : n ≤ 1000) (hc : n ≤ c) (v : Value) (w : World) (ho : Own TB B g n cap l w0 w) :
    Calls Try.prog 28 #[.slice (some ⟨g, 0, none⟩) n c, .int .i64 a, .int .i64 m, .int .i64 b, v] w fun e w' => e = .returned (.tuple #[]) ∧ ∃ T, RotM T l m (m - a) (b - m) ∧ Own TB B g n cap T w0 w' := by
  have HO : Hid (Own TB B g n cap l w0 w) := ho
  have hln := ho.1
  clear ho
  have g1 : (m : Int) - (a : Int) = ((m - a : Nat) : Int) := by omega
  have g2 : (b : Int) - (m : Int) = ((b - m : Nat) : Int) := by omega
  have HS := Lib.hid (fun (l' : List Int) (x y k : Nat) (h1 : x + k ≤ y) (h2 : y + k ≤ n) (W : World) (hO : Own TB B g n cap l' w0 W) => swapRange_any B g n cap l' w0 x y k c h1 h2 hn hc v W hO)
  have HG := Lib.hid (fun (T l' : List Int) (i j : Nat) (h1 : i ≤ m) (h2 : j < i) (h3 : m + j ≤ l'.length) => rot_gt (T := T) (l := l') (m := m) h1 h2 h3)
  have HL := Lib.hid (fun (T l' : List Int) (i j : Nat) (h1 : i ≤ m) (h2 : i < j) (h3 : m + j ≤ l'.length) => rot_lt (T := T) (l := l') (m := m) h1 h2 h3)
  have HQ := Lib.hid (fun (l' : List Int) (i : Nat) (h1 : i ≤ m) (h3 : m + i ≤ l'.length) => rot_eq (l := l') (m := m) h1 h3)
  go_enter Try.func28, Try.ntmps28
  go_wp2
  go_loopw [10, 11] (fun x y wr => ∃ (i j : Nat) (cur : List Int), 1 ≤ i ∧ 1 ≤ j ∧ i ≤ m - a ∧ j ≤ b - m ∧ x = .int .i64 i ∧ y = .int .i64 j ∧ Hid (Own TB B g n cap cur w0 wr) ∧ Hid (∀ T, RotM T cur m i j → RotM T l m (m - a) (b - m))) (fun x y _ => (intOf x).toNat + (intOf y).toNat)
  case atStart => exact ⟨m - a, b - m, l, by omega, by omega, by omega, by omega, rfl, rfl, HO, fun T h => h⟩
  case round =>
    clear HO g1 g2
    obtain ⟨i, j, cur, hi1, hj1, hi, hj, rfl, rfl, HO, HT⟩ := hrel
    have hcl := HO.out.1
    have s1 : (m : Int) - (i : Int) = ((m - i : Nat) : Int) := by omega
    rcases Nat.lt_trichotomy j i with hlt | heq | hgt
    · have hne : ((i : Int) != (j : Int)) = true := by simp; omega
      have q1 : (j : Int) < (i : Int) := by omega
      have s2 : (i : Int) - (j : Int) = ((i - j : Nat) : Int) := by omega
      have HT2 : Hid (∀ T, RotM T (sr cur (m - i) m j) m (i - j) j → RotM T l m (m - a) (b - m)) := fun T h => HT.out T (HG.out T cur i j (by omega) hlt (by omega) h)
      have hm := Lib.hid (show (i - j) + j < i + j by omega)
      go_wp2_with fail
      refine (HS.out cur (m - i) m j (by omega) (by omega) wr HO.out).mono ?_; rintro e w2 ⟨rfl, hO2⟩
      have HO2 := Lib.hid hO2
      clear hO2 HO HT
      go_wp2
      go_roundw
      case rel => exact ⟨i - j, j, _, by omega, hj1, by omega, hj, rfl, rfl, HO2, HT2⟩
      case measure => simp [intOf]; omega
    · subst heq
      have hne : ((j : Int) != (j : Int)) = false := by simp
      go_wp2_with fail
      refine (HS.out cur (m - j) m j (by omega) (by omega) wr HO.out).mono ?_; rintro e w2 ⟨rfl, hO2⟩
      have HO2 := Lib.hid hO2
      clear hO2
      go_wp2
      go_end0
      exact ⟨rfl, _, HT.out _ (HQ.out cur j (by omega) (by omega)), HO2.out⟩
    · have hne : ((i : Int) != (j : Int)) = true := by simp; omega
      have q1 : ¬ (j : Int) < (i : Int) := by omega
      have s2 : (j : Int) - (i : Int) = ((j - i : Nat) : Int) := by omega
      have s3 : (m : Int) + (j : Int) - (i : Int) = ((m + j - i : Nat) : Int) := by omega
      have HT2 : Hid (∀ T, RotM T (sr cur (m - i) (m + j - i) i) m i (j - i) → RotM T l m (m - a) (b - m)) := fun T h => HT.out T (HL.out T cur i j (by omega) hgt (by omega) h)
      go_wp2_with fail
      refine (HS.out cur (m - i) (m + j - i) i (by omega) (by omega) wr HO.out).mono ?_; rintro e w2 ⟨rfl, hO2⟩
      have HO2 := Lib.hid hO2
      clear hO2 HO HT
      go_wp2
      go_roundw
      case rel => exact ⟨i, j - i, _, hi1, by omega, hi, by omega, rfl, rfl, HO2, HT2⟩
      case measure => simp [intOf]; omega
end Go.Proofs.Ytgldgilhegdpjaa.so

/-
  Items by value for their weight: plain mathematics.
-/
import Derived.Test.YteoionlnnjcggaaOdAll
import Derived.Test.YteoionlnnjcggaaOdRkM
namespace Go.Proofs.Yteoionlnnjcggaa.od
open Go.RowKit
set_option linter.unusedVariables false
/-- which item stands ahead -/
def ltR (v w : List Int) (b a : Nat) : Bool :=
  if nth w b = 0 ∨ nth w a = 0 then decide (nth w b = 0) && (decide (nth w a ≠ 0) || decide (b < a))
  else decide (nth v a * nth w b < nth v b * nth w a) || (decide (nth v b * nth w a = nth v a * nth w b) && decide (b < a))
theorem ltR_zero {v w : List Int} {b a : Nat} (h : nth w b = 0 ∨ nth w a = 0) : ltR v w b a = true ↔ nth w b = 0 ∧ (nth w a ≠ 0 ∨ b < a) := by unfold ltR; rw [if_pos h]; simp
theorem ltR_pos {v w : List Int} {b a : Nat} (h : ¬ (nth w b = 0 ∨ nth w a = 0)) : ltR v w b a = true ↔ nth v a * nth w b < nth v b * nth w a ∨ (nth v b * nth w a = nth v a * nth w b ∧ b < a) := by unfold ltR; rw [if_neg h]; simp
theorem cross_tr {va vb vc wa wb wc : Int} (ha : 0 < wa) (hb : 0 < wb) (hc : 0 < wc) (h1 : vb * wa ≤ va * wb) (h2 : vc * wb ≤ vb * wc) : vc * wa ≤ va * wc ∧ (vc * wa = va * wc → vb * wa = va * wb ∧ vc * wb = vb * wc) := by
  have p1 : (vb * wa) * wc ≤ (va * wb) * wc := Int.mul_le_mul_of_nonneg_right h1 (Int.le_of_lt hc)
  have p2 : (vc * wb) * wa ≤ (vb * wc) * wa := Int.mul_le_mul_of_nonneg_right h2 (Int.le_of_lt ha)
  have e1 : (vb * wa) * wc = (vb * wc) * wa := by rw [Int.mul_assoc, Int.mul_comm wa wc, ← Int.mul_assoc]
  have e2 : (vc * wb) * wa = (vc * wa) * wb := by rw [Int.mul_assoc, Int.mul_comm wb wa, ← Int.mul_assoc]
  have e3 : (va * wb) * wc = (va * wc) * wb := by rw [Int.mul_assoc, Int.mul_comm wb wc, ← Int.mul_assoc]
  have p3 : (vc * wa) * wb ≤ (va * wc) * wb := by omega
  refine ⟨Int.le_of_mul_le_mul_right p3 hb, fun h => ?_⟩
  rw [h] at e2
  have q1 : (vb * wa) * wc = (va * wb) * wc := by omega
  have q2 : (vc * wb) * wa = (vb * wc) * wa := by omega
  exact ⟨Int.eq_of_mul_eq_mul_right (by omega) q1, Int.eq_of_mul_eq_mul_right (by omega) q2⟩
theorem ltR_ord (n : Nat) (v w : List Int) (hw : ∀ j, j < n → 0 ≤ nth w j) : LtO n (ltR v w) := by
  refine ⟨fun a ha h => ?_, fun a b c ha hb hc h k => ?_, fun a b ha hb hab => ?_⟩
  · by_cases z : nth w a = 0 ∨ nth w a = 0
    · rw [ltR_zero z] at h; omega
    · rw [ltR_pos z] at h; omega
  · have ka := hw a ha; have kb := hw b hb; have kc := hw c hc
    by_cases za : nth w a = 0
    · rw [ltR_zero (Or.inl za)] at h ⊢
      refine ⟨za, ?_⟩
      by_cases zc : nth w c = 0
      · by_cases zb : nth w b = 0
        · rw [ltR_zero (Or.inl zb)] at k
          omega
        · rw [ltR_zero (Or.inr zc)] at k
          exact absurd k.1 zb
      · exact Or.inl zc
    · by_cases zb : nth w b = 0
      · rw [ltR_zero (Or.inr zb)] at h; exact absurd h.1 za
      · by_cases zc : nth w c = 0
        · rw [ltR_zero (Or.inr zc)] at k; exact absurd k.1 zb
        · rw [ltR_pos (by simp [za, zb])] at h
          rw [ltR_pos (by simp [zb, zc])] at k
          rw [ltR_pos (by simp [za, zc])]
          have t := cross_tr (va := nth v a) (vb := nth v b) (vc := nth v c) (wa := nth w a) (wb := nth w b) (wc := nth w c) (by omega) (by omega) (by omega) (by omega) (by omega)
          obtain ⟨t1, t2⟩ := t
          by_cases e : nth v c * nth w a = nth v a * nth w c
          · obtain ⟨e1, e2⟩ := t2 e
            exact Or.inr ⟨e.symm, by omega⟩
          · exact Or.inl (by omega)
  · by_cases z : nth w a = 0 ∨ nth w b = 0
    · rw [ltR_zero z, ltR_zero (show nth w b = 0 ∨ nth w a = 0 from z.symm)]
      omega
    · rw [ltR_pos z, ltR_pos (fun q => z q.symm)]
      omega
theorem crat_lt {n : Nat} {v w : List Int} (hw : ∀ j, j < n → 0 ≤ nth w j) (x y : Nat) (h : x < y) (hy : y < n) : crat v w y x < 0 ↔ ltR v w y x = true := by
  have kx := hw x (by omega); have ky := hw y hy
  by_cases z : nth w y = 0 ∨ nth w x = 0
  · rw [crat_zero (by simpa using z), ltR_zero z]
    simp only [Int.toNat_natCast]
    rcases (show nth w y < nth w x ∨ nth w x < nth w y ∨ nth w y = nth w x by omega) with q | q | q
    · rw [cmpv_lt q]; omega
    · rw [cmpv_gt q]; omega
    · rw [cmpv_eq q]; omega
  · rw [crat_pos (by simpa using z), ltR_pos z]
    simp only [Int.toNat_natCast]
    generalize nth v x * nth w y = p
    generalize nth v y * nth w x = q
    rcases (show p < q ∨ q < p ∨ p = q by omega) with r | r | r
    · rw [cmpv_lt r]; omega
    · rw [cmpv_gt r]; omega
    · rw [cmpv_eq r]; omega
attribute [irreducible] ltR
end Go.Proofs.Yteoionlnnjcggaa.od

/-
  The reader's nought and size, by what they leave.
-/
import Derived.Test.YtegieoajjfodcaaGreatDoorRd2
import Derived.Test.YtegieoajjfodcaaGreatDoorRd3
namespace Go.Proofs.YtegieoajjfodcaaGreatDoor
open Go.RowKit
set_option linter.unusedVariables false
/-- nought -/
theorem nought_rd (b g o m c : Nat) (f : Int) (t : Tok) (hm : t.kind ≠ 3 → 1 ≤ m) (hc : m ≤ c) (w : World) (h : RD b g o (m + 1) (c + 1) f w) (ht : Front g o t w) :
    Calls Tryz.prog 142 #[.pointer (some ⟨b, 0, none⟩)] w fun r w' => r = .returned (.tuple #[]) ∧ Went b g o m c f (zf t) w' ∧ Ch1 b w w' := by
  refine nought_core b g o m c f t w (fun w' => Went b g o m c f (zf t) w' ∧ Ch1 b w w') (nf t.kind t.num 2147483647) (zf t) ?_ h ht (Lib.hid fun W => nf_tok t _ W) (Lib.hid fun w2 hB => ?_)
  · unfold zf
    by_cases q : nf t.kind t.num 2147483647 = 0
    · rw [if_pos q]
      by_cases q2 : t.num = 0
      · rw [if_pos q2]; exact .inr (.inr ⟨q, q2, rfl⟩)
      · rw [if_neg q2]; exact .inr (.inl ⟨q, q2, rfl⟩)
    · rw [if_neg q]; exact .inl ⟨q, rfl⟩
  · obtain ⟨r2, b2, ch2, ne2, lt2⟩ := taken t h hB
    refine (pass_any b g o m c f (zf t) (fun q => hm (fun k => nf_end k (zf_ok q).1)) hc w2 r2).mono ?_
    rintro e w3 ⟨rfl, hW, hC⟩
    exact ⟨⟨_, rfl⟩, hW, ch2.trans hC⟩
/-- size -/
theorem size_rd (b g o m c : Nat) (f : Int) (t : Tok) (most : Int) (hm : t.kind ≠ 3 → 1 ≤ m) (hc : m ≤ c) (w : World) (h : RD b g o (m + 1) (c + 1) f w) (ht : Front g o t w) :
    Calls Tryz.prog 78 #[.pointer (some ⟨b, 0, none⟩), .int .i64 most] w fun r w' => r = .returned (.int .i64 (if f = 0 ∧ sf t most = 0 then t.num else 0)) ∧ Went b g o m c f (sf t most) w' ∧ Ch1 b w w' := by
  have H := size_core b g o m c f t w (fun w' => Went b g o m c f (sf t most) w' ∧ Ch1 b w w') most (nf t.kind t.num most) (sf t most) (decide (f = 0 ∧ sf t most = 0)) (by
    unfold sf
    by_cases q : nf t.kind t.num most = 0
    · rw [if_pos q]
      by_cases q2 : t.num = 0
      · rw [if_pos q2]; exact .inr (.inl ⟨q, q2, rfl⟩)
      · rw [if_neg q2]; exact .inr (.inr ⟨q, q2, rfl⟩)
    · rw [if_neg q]; exact .inl ⟨q, rfl⟩) h ht (Lib.hid fun W => nf_tok t _ W) (Lib.hid fun w2 hB => by
      obtain ⟨r2, b2, ch2, ne2, lt2⟩ := taken t h hB
      refine (pass_any b g o m c f (sf t most) (fun q => hm (fun k => nf_end k (sf_ok q).1)) hc w2 r2).mono ?_
      rintro e w3 ⟨rfl, hW, hC⟩
      exact ⟨rfl, ⟨hW, ch2.trans hC⟩, (hC.block _ lt2 ne2).trans b2⟩)
  simp only [decide_eq_true_eq] at H
  exact H
end Go.Proofs.YtegieoajjfodcaaGreatDoor

/-
  What the reference's more answers: one less than the width that the model's own reading of a text gives the sign.
-/
import Derived.Test.YtecejlpokmfjcaaDoorRead
namespace Go.Proofs.YtecejlpokmfjcaaDoor
open Go.RowKit
set_option linter.unusedVariables false

def okb (s : ByteArray) (i lo hi : Nat) : Prop := i < s.size ∧ lo ≤ (s.get! i).toNat ∧ (s.get! i).toNat ≤ hi
def okk (s : ByteArray) (i lo hi k : Nat) : Prop := okb s (i + k) (if k = 1 then lo else 128) (if k = 1 then hi else 191)
def cls (c n lo hi : Nat) : Prop :=
  (n = 0 ∧ (c < 194 ∨ 244 < c)) ∨ (n = 1 ∧ 194 ≤ c ∧ c ≤ 223 ∧ lo = 128 ∧ hi = 191) ∨
  (n = 2 ∧ c = 224 ∧ lo = 160 ∧ hi = 191) ∨ (n = 2 ∧ c = 237 ∧ lo = 128 ∧ hi = 159) ∨ (n = 2 ∧ 225 ≤ c ∧ c ≤ 239 ∧ c ≠ 237 ∧ lo = 128 ∧ hi = 191) ∨
  (n = 3 ∧ c = 240 ∧ lo = 144 ∧ hi = 191) ∨ (n = 3 ∧ c = 244 ∧ lo = 128 ∧ hi = 143) ∨ (n = 3 ∧ 241 ≤ c ∧ c ≤ 243 ∧ lo = 128 ∧ hi = 191)
theorem byte_lt (s : ByteArray) (i : Nat) : (s.get! i).toNat < 256 := (s.get! i).toNat_lt
/-- the width, of the four bytes and the length -/
def wd (z i c0 c1 c2 c3 : Nat) : Nat :=
  if c0 < 128 then 1
  else if c0 / 32 = 6 ∧ i + 1 < z ∧ c1 / 64 = 2 then (if 128 ≤ c0 % 32 * 64 + c1 % 64 then 2 else 1)
  else if (c0 / 16 = 14 ∧ i + 1 < z ∧ c1 / 64 = 2) ∧ i + 2 < z ∧ c2 / 64 = 2 then
    (if 2048 ≤ c0 % 16 * 4096 + c1 % 64 * 64 + c2 % 64 ∧ (c0 % 16 * 4096 + c1 % 64 * 64 + c2 % 64 < 55296 ∨ 57344 ≤ c0 % 16 * 4096 + c1 % 64 * 64 + c2 % 64) then 3 else 1)
  else if ((c0 / 8 = 30 ∧ i + 1 < z ∧ c1 / 64 = 2) ∧ i + 2 < z ∧ c2 / 64 = 2) ∧ i + 3 < z ∧ c3 / 64 = 2 then
    (if 65536 ≤ c0 % 8 * 262144 + c1 % 64 * 4096 + c2 % 64 * 64 + c3 % 64 ∧ c0 % 8 * 262144 + c1 % 64 * 4096 + c2 % 64 * 64 + c3 % 64 ≤ 1114111 then 4 else 1)
  else 1
theorem valid3 (c : Nat) (h : c < 65536) : (Utf8.valid (c : Int) = true) ↔ (c < 55296 ∨ 57344 ≤ c) := by
  unfold Utf8.valid
  simp only [Bool.or_eq_true, Bool.and_eq_true, decide_eq_true_eq]
  omega
theorem valid4 (c : Nat) (h : 65536 ≤ c) : (Utf8.valid (c : Int) = true) ↔ c ≤ 1114111 := by
  unfold Utf8.valid
  simp only [Bool.or_eq_true, Bool.and_eq_true, decide_eq_true_eq]
  omega
theorem snd_ite {p : Prop} [Decidable p] (a b : Nat × Nat) : (if p then a else b).2 = if p then a.2 else b.2 := by split <;> rfl
theorem ite_iff {p q : Prop} [Decidable p] [Decidable q] (h : p ↔ q) {a b c d : Nat} (h1 : a = c) (h2 : b = d) : (if p then a else b) = if q then c else d := by
  subst h1; subst h2
  by_cases hp : p
  · rw [if_pos hp, if_pos (h.1 hp)]
  · rw [if_neg hp, if_neg (fun hq => hp (h.2 hq))]
set_option maxRecDepth 100000 in
theorem dec_wd (s : ByteArray) (i : Nat) : (Utf8.decode s i).2 = wd s.size i (s.get! i).toNat (s.get! (i + 1)).toNat (s.get! (i + 2)).toNat (s.get! (i + 3)).toNat := by
  have b0 := byte_lt s i; have b1 := byte_lt s (i + 1); have b2 := byte_lt s (i + 2); have b3 := byte_lt s (i + 3)
  unfold Utf8.decode wd
  simp only [Nat.add_zero]
  simp only [snd_ite]
  refine ite_iff Iff.rfl rfl (ite_iff ?_ (ite_iff ?_ rfl rfl) (ite_iff ?_ (ite_iff ?_ rfl rfl) (ite_iff ?_ (ite_iff ?_ rfl rfl) rfl)))
  · simp only [Bool.and_eq_true, beq_iff_eq, decide_eq_true_eq]
  · exact Iff.rfl
  · simp only [Bool.and_eq_true, beq_iff_eq, decide_eq_true_eq]
  · simp only [Bool.and_eq_true, decide_eq_true_eq]
    constructor
    · rintro ⟨h1, h2⟩
      exact ⟨h1, (valid3 _ (by omega)).1 h2⟩
    · rintro ⟨h1, h2⟩
      exact ⟨h1, (valid3 _ (by omega)).2 h2⟩
  · simp only [Bool.and_eq_true, beq_iff_eq, decide_eq_true_eq]
  · simp only [Bool.and_eq_true, decide_eq_true_eq]
    constructor
    · rintro ⟨h1, h2⟩
      exact ⟨h1, (valid4 _ h1).1 h2⟩
    · rintro ⟨h1, h2⟩
      exact ⟨h1, (valid4 _ h1).2 h2⟩
set_option maxHeartbeats 1000000 in
theorem width_yes (s : ByteArray) (i n lo hi : Nat) (hc : cls (s.get! i).toNat n lo hi) (h : ∀ k, 1 ≤ k → k ≤ n → okk s i lo hi k) : (Utf8.decode s i).2 = n + 1 := by
  have h1 := h 1 (by omega); have h2 := h 2 (by omega); have h3 := h 3 (by omega)
  clear h
  simp only [okk, okb, if_true, show (2 : Nat) ≠ 1 from by decide, show (3 : Nat) ≠ 1 from by decide, if_false] at h1 h2 h3
  have b0 := byte_lt s i; have b1 := byte_lt s (i + 1); have b2 := byte_lt s (i + 2); have b3 := byte_lt s (i + 3)
  rw [dec_wd]
  unfold cls at hc
  generalize (s.get! i).toNat = c0 at *
  generalize (s.get! (i + 1)).toNat = c1 at *
  generalize (s.get! (i + 2)).toNat = c2 at *
  generalize (s.get! (i + 3)).toNat = c3 at *
  generalize s.size = z at *
  unfold wd
  rcases hc with hc | hc | hc | hc | hc | hc | hc | hc
  all_goals
    repeat' split
    all_goals omega
set_option maxHeartbeats 1000000 in
theorem width_no (s : ByteArray) (i n lo hi k : Nat) (hc : cls (s.get! i).toNat n lo hi) (hk1 : 1 ≤ k) (hkn : k ≤ n) (h : ¬ okk s i lo hi k) : (Utf8.decode s i).2 = 1 := by
  have h123 : k = 1 ∨ k = 2 ∨ k = 3 := by unfold cls at hc; omega
  have b0 := byte_lt s i; have b1 := byte_lt s (i + 1); have b2 := byte_lt s (i + 2); have b3 := byte_lt s (i + 3)
  rw [dec_wd]
  unfold cls at hc
  rcases h123 with rfl | rfl | rfl
  all_goals
    simp only [okk, okb, if_true, show (2 : Nat) ≠ 1 from by decide, show (3 : Nat) ≠ 1 from by decide, if_false] at h
    generalize (s.get! i).toNat = c0 at *
    generalize (s.get! (i + 1)).toNat = c1 at *
    generalize (s.get! (i + 2)).toNat = c2 at *
    generalize (s.get! (i + 3)).toNat = c3 at *
    generalize s.size = z at *
    unfold wd
    rcases hc with hc | hc | hc | hc | hc | hc | hc | hc
    all_goals
      repeat' split
      all_goals omega
end Go.Proofs.YtecejlpokmfjcaaDoor

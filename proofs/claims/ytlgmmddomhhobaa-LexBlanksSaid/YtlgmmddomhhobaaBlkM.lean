/-
  Other blanks between the tokens: the mathematics.
-/
import Derived.Test.YtlgmmddomhhobaaEndsL
namespace Go.Proofs.Ytlgmmddomhhobaa
open Go.RowKit
set_option linter.unusedVariables false
/-- a text lies within another one -/
def lays (t : ByteArray) (p : Nat) (x : ByteArray) : Prop := p + x.size ≤ t.size ∧ ∀ j, j < x.size → t.get! (p + j) = x.get! j
theorem lays.kb {t : ByteArray} {p : Nat} {x : ByteArray} (h : lays t p x) {j : Nat} (hj : j < x.size) : kb t (p + j) = kb x j := by
  unfold Go.Proofs.Ytlgmmddomhhobaa.kb; rw [h.2 j hj]
theorem get_left (a b : ByteArray) (k : Nat) (h : k < a.size) : (a ++ b).get! k = a.get! k := by
  have h2 : k < (a ++ b).size := by rw [ByteArray.size_append]; omega
  rw [get_of _ k h2, get_of _ k h, ByteArray.getElem_append_left h]
theorem get_right (a b : ByteArray) (k : Nat) (h : k < b.size) : (a ++ b).get! (a.size + k) = b.get! k := by
  have h2 : a.size + k < (a ++ b).size := by rw [ByteArray.size_append]; omega
  rw [get_of _ _ h2, get_of _ k h, ByteArray.getElem_append_right (by omega)]
  congr 1; omega
theorem lays_mid (a x b : ByteArray) : lays (a ++ (x ++ b)) a.size x := by
  refine ⟨by simp only [ByteArray.size_append]; omega, fun j hj => ?_⟩
  rw [get_right a (x ++ b) j (by rw [ByteArray.size_append]; omega), get_left x b j hj]
theorem kb_right (a b : ByteArray) (k : Nat) (h : k < b.size) : kb (a ++ b) (a.size + k) = kb b k := by unfold kb; rw [get_right a b k h]
theorem run_steps {k : Int} {s : ByteArray} {p : Nat} : ∀ n, p + n ≤ s.size → (∀ j, j < n → kb s (p + j) = k) → run k s p = run k s (p + n)
  | 0, _, _ => rfl
  | n + 1, h, hj => by
    rw [run_steps n (by omega) (fun j h2 => hj j (by omega)), run_in (by omega) (hj n (by omega))]; rfl
theorem runF_all (k : Int) (s : ByteArray) : ∀ b p, (∀ q, p ≤ q → q < runF k s b p → kb s q = k ∧ q < s.size)
  | 0, p, q, h1, h2 => by simp only [runF] at h2; omega
  | b + 1, p, q, h1, h2 => by
    simp only [runF] at h2
    split at h2
    · rename_i hc
      rcases Nat.eq_or_lt_of_le h1 with h | h
      · subst h; exact ⟨hc.2, hc.1⟩
      · exact runF_all k s b (p + 1) q h h2
    · omega
theorem run_all {k : Int} {s : ByteArray} {p q : Nat} (h1 : p ≤ q) (h2 : q < run k s p) : kb s q = k := (runF_all k s _ p q h1 h2).1
theorem runF_end (k : Int) (s : ByteArray) : ∀ b p, s.size - p ≤ b → ¬ (runF k s b p < s.size ∧ kb s (runF k s b p) = k)
  | 0, p, h => by simp only [runF]; omega
  | b + 1, p, h => by
    simp only [runF]
    split
    · exact runF_end k s b (p + 1) (by omega)
    · rename_i hc; exact hc
theorem run_end {k : Int} {s : ByteArray} {p : Nat} : ¬ (run k s p < s.size ∧ kb s (run k s p) = k) := runF_end k s _ p (Nat.le_refl _)
/-! the five kinds of blanks -/
def sep0 : ByteArray := ⟨#[32]⟩
def sep1 : ByteArray := ⟨#[10, 9]⟩
def sep2 : ByteArray := ⟨#[32, 35, 32, 114, 101, 109, 97, 114, 107, 32, 49, 10]⟩
def sep3 : ByteArray := ⟨#[35, 255, 10, 32]⟩
def sep4 : ByteArray := ⟨#[13, 10]⟩
def sepOf (b : Nat) : ByteArray := if b = 0 then sep0 else if b = 1 then sep1 else if b = 2 then sep2 else if b = 3 then sep3 else sep4
/-- a text that may stand between tokens -/
def Sep (x : ByteArray) : Prop := 0 < x.size ∧ x.size ≤ 12 ∧ (kb x 0 = 1 ∨ kb x 0 = 4) ∧ ∀ t p l, lays t p x → SP t p l = SP t (p + x.size) l
theorem blank_at {t : ByteArray} {p : Nat} {x : ByteArray} {l : List Tok} (h : lays t p x) (j : Nat) (hj : j < x.size) (hk : kb x j = 1) : SP t (p + j) l = SP t (p + (j + 1)) l := by
  have := h.1
  rw [SP_blank (by omega) (by rw [h.kb hj]; exact hk)]; rfl
theorem remark_at {t : ByteArray} {p : Nat} {x : ByteArray} {l : List Tok} (h : lays t p x) (j n : Nat) (hj : j + 1 + n < x.size) (hk : kb x j = 4) (hn : ∀ i, i < n → (x.get! (j + 1 + i)).toNat ≠ 10) (he : (x.get! (j + 1 + n)).toNat = 10) : SP t (p + j) l = SP t (p + (j + 1 + n)) l := by
  have h1 := h.1
  rw [SP_remark (by omega) (by rw [h.kb (by omega)]; exact hk)]
  rw [show p + j + 1 = p + (j + 1) by omega, nl_steps n (by omega) (fun i hi => by rw [show p + (j + 1) + i = p + (j + 1 + i) by omega, h.2 _ (by omega)]; exact hn i hi)]
  rw [show p + (j + 1) + n = p + (j + 1 + n) by omega, nl_out (fun hc => hc.2 (by rw [h.2 _ (by omega)]; exact he))]
theorem sepS0 : Sep sep0 := ⟨by decide, by decide, .inl (by decide +kernel), fun t p l h => blank_at h 0 (by decide) (by decide +kernel)⟩
theorem sepS1 : Sep sep1 := ⟨by decide, by decide, .inl (by decide +kernel), fun t p l h => (blank_at h 0 (by decide) (by decide +kernel)).trans (blank_at h 1 (by decide) (by decide +kernel))⟩
theorem sepS4 : Sep sep4 := ⟨by decide, by decide, .inl (by decide +kernel), fun t p l h => (blank_at h 0 (by decide) (by decide +kernel)).trans (blank_at h 1 (by decide) (by decide +kernel))⟩
theorem sepS3 : Sep sep3 := ⟨by decide, by decide, .inr (by decide +kernel), fun t p l h => (remark_at h 0 1 (by decide) (by decide +kernel) (by decide +kernel) (by decide +kernel)).trans ((blank_at h 2 (by decide) (by decide +kernel)).trans (blank_at h 3 (by decide) (by decide +kernel)))⟩
theorem sepS2 : Sep sep2 := ⟨by decide, by decide, .inl (by decide +kernel), fun t p l h => (blank_at h 0 (by decide) (by decide +kernel)).trans ((remark_at h 1 9 (by decide) (by decide +kernel) (by decide +kernel) (by decide +kernel)).trans (blank_at h 11 (by decide) (by decide +kernel)))⟩
theorem sepOf_ok (b : Nat) : Sep (sepOf b) := by
  unfold sepOf
  split
  · exact sepS0
  · split
    · exact sepS1
    · split
      · exact sepS2
      · split
        · exact sepS3
        · exact sepS4
end Go.Proofs.Ytlgmmddomhhobaa

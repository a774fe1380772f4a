/-
  The tokens of a text, byte by byte: plain mathematics.
-/
import Derived.Test.YtegieoajjfodcaaGreatDoorRefR
namespace Go.Proofs.YtegieoajjfodcaaGreatDoor
open Go.RowKit
set_option linter.unusedVariables false
/-- the kind of a byte -/
def kb (s : ByteArray) (i : Nat) : Int := kindv ((s.get! i).toNat : Int)
def runF (k : Int) (s : ByteArray) : Nat → Nat → Nat
  | 0, p => p
  | b + 1, p => if p < s.size ∧ kb s p = k then runF k s b (p + 1) else p
/-- where the bytes of a kind end -/
def run (k : Int) (s : ByteArray) (p : Nat) : Nat := runF k s (s.size - p) p
theorem runF_fuel (k : Int) (s : ByteArray) : ∀ b c p, s.size - p ≤ b → s.size - p ≤ c → runF k s b p = runF k s c p
  | 0, c, p, h1, h2 => by
    cases c with
    | zero => rfl
    | succ c => simp only [runF]; rw [if_neg (by omega)]
  | b + 1, 0, p, h1, h2 => by simp only [runF]; rw [if_neg (by omega)]
  | b + 1, c + 1, p, h1, h2 => by
    simp only [runF]
    by_cases h : p < s.size ∧ kb s p = k
    · rw [if_pos h, if_pos h]; exact runF_fuel k s b c (p + 1) (by omega) (by omega)
    · rw [if_neg h, if_neg h]
theorem run_in {k : Int} {s : ByteArray} {p : Nat} (h : p < s.size) (hk : kb s p = k) : run k s p = run k s (p + 1) := by
  unfold run
  rw [runF_fuel k s (s.size - p) (s.size - (p + 1) + 1) p (by omega) (by omega)]
  simp only [runF]
  rw [if_pos ⟨h, hk⟩]
theorem run_out {k : Int} {s : ByteArray} {p : Nat} (h : ¬ (p < s.size ∧ kb s p = k)) : run k s p = p := by
  unfold run
  cases s.size - p with
  | zero => rfl
  | succ b => simp only [runF]; rw [if_neg h]
theorem runF_ge (k : Int) (s : ByteArray) : ∀ b p, p ≤ runF k s b p
  | 0, p => Nat.le_refl _
  | b + 1, p => by
    simp only [runF]; split
    · exact Nat.le_trans (Nat.le_succ p) (runF_ge k s b (p + 1))
    · exact Nat.le_refl _
theorem run_ge (k : Int) (s : ByteArray) (p : Nat) : p ≤ run k s p := runF_ge k s _ p
theorem runF_le (k : Int) (s : ByteArray) : ∀ b p, p ≤ s.size → runF k s b p ≤ s.size
  | 0, p, h => h
  | b + 1, p, h => by
    simp only [runF]; split
    · rename_i q; exact runF_le k s b (p + 1) q.1
    · exact h
theorem run_le (k : Int) (s : ByteArray) (p : Nat) (h : p ≤ s.size) : run k s p ≤ s.size := runF_le k s _ p h
def nlF (s : ByteArray) : Nat → Nat → Nat
  | 0, p => p
  | b + 1, p => if p < s.size ∧ (s.get! p).toNat ≠ 10 then nlF s b (p + 1) else p
/-- where a line ends -/
def nl (s : ByteArray) (p : Nat) : Nat := nlF s (s.size - p) p
theorem nlF_fuel (s : ByteArray) : ∀ b c p, s.size - p ≤ b → s.size - p ≤ c → nlF s b p = nlF s c p
  | 0, c, p, h1, h2 => by
    cases c with
    | zero => rfl
    | succ c => simp only [nlF]; rw [if_neg (by omega)]
  | b + 1, 0, p, h1, h2 => by simp only [nlF]; rw [if_neg (by omega)]
  | b + 1, c + 1, p, h1, h2 => by
    simp only [nlF]
    by_cases h : p < s.size ∧ (s.get! p).toNat ≠ 10
    · rw [if_pos h, if_pos h]; exact nlF_fuel s b c (p + 1) (by omega) (by omega)
    · rw [if_neg h, if_neg h]
theorem nl_in {s : ByteArray} {p : Nat} (h : p < s.size) (hk : (s.get! p).toNat ≠ 10) : nl s p = nl s (p + 1) := by
  unfold nl
  rw [nlF_fuel s (s.size - p) (s.size - (p + 1) + 1) p (by omega) (by omega)]
  simp only [nlF]
  rw [if_pos ⟨h, hk⟩]
theorem nl_out {s : ByteArray} {p : Nat} (h : ¬ (p < s.size ∧ (s.get! p).toNat ≠ 10)) : nl s p = p := by
  unfold nl
  cases s.size - p with
  | zero => rfl
  | succ b => simp only [nlF]; rw [if_neg h]
theorem nlF_ge (s : ByteArray) : ∀ b p, p ≤ nlF s b p
  | 0, p => Nat.le_refl _
  | b + 1, p => by
    simp only [nlF]; split
    · exact Nat.le_trans (Nat.le_succ p) (nlF_ge s b (p + 1))
    · exact Nat.le_refl _
theorem nl_ge (s : ByteArray) (p : Nat) : p ≤ nl s p := nlF_ge s _ p
theorem nlF_le (s : ByteArray) : ∀ b p, p ≤ s.size → nlF s b p ≤ s.size
  | 0, p, h => h
  | b + 1, p, h => by
    simp only [nlF]; split
    · rename_i q; exact nlF_le s b (p + 1) q.1
    · exact h
theorem nl_le (s : ByteArray) (p : Nat) (h : p ≤ s.size) : nl s p ≤ s.size := nlF_le s _ p h
theorem kb_ten {s : ByteArray} {p : Nat} (h : kb s p = 4) : (s.get! p).toNat ≠ 10 := fun e => by
  unfold kb at h
  rw [e] at h
  simp [kindv] at h
theorem nl_rem {s : ByteArray} {p : Nat} (hp : p < s.size) (h : kb s p = 4) : nl s p = nl s (p + 1) := nl_in hp (kb_ten h)
/-- a token -/
structure Tok where
  kind : Int
  text : ByteArray
  num : Int
  at_ : Nat
/-- what a scan tells -/
inductive Res where
  | ok (l : List Tok)
  | bad (p : Nat) (e : Int)
def noText : ByteArray := ⟨#[]⟩
def sp (s : ByteArray) : Nat → Nat → List Tok → Res
  | 0, p, l => .ok (l ++ [⟨3, noText, 0, s.size⟩])
  | b + 1, p, l =>
    if s.size ≤ p then .ok (l ++ [⟨3, noText, 0, s.size⟩])
    else if kb s p = 1 then sp s b (p + 1) l
    else if kb s p = 4 then sp s b (nl s (p + 1)) l
    else if kb s p = 2 then
      (if (rdv (s.extract p s.size) p).2.2 ≠ 0 then .bad p (rdv (s.extract p s.size) p).2.2
       else if run 2 s (p + 1) < s.size ∧ kb s (run 2 s (p + 1)) = 3 then .bad (run 2 s (p + 1)) 2
       else sp s b (run 2 s (p + 1)) (l ++ [⟨2, noText, (rdv (s.extract p s.size) p).1, p⟩]))
    else if kb s p = 3 then
      (if 16 < run 3 s (p + 1) - p then .bad p 5
       else if run 3 s (p + 1) < s.size ∧ kb s (run 3 s (p + 1)) = 2 then .bad (run 3 s (p + 1)) 2
       else sp s b (run 3 s (p + 1)) (l ++ [⟨1, s.extract p (run 3 s (p + 1)), 0, p⟩]))
    else .bad p 2
theorem sp_fuel (s : ByteArray) : ∀ b c p l, s.size - p ≤ b → s.size - p ≤ c → sp s b p l = sp s c p l
  | 0, c, p, l, h1, h2 => by
    cases c with
    | zero => rfl
    | succ c => simp only [sp]; rw [if_pos (by omega)]
  | b + 1, 0, p, l, h1, h2 => by simp only [sp]; rw [if_pos (by omega)]
  | b + 1, c + 1, p, l, h1, h2 => by
    have g2 := run_ge 2 s (p + 1)
    have g3 := run_ge 3 s (p + 1)
    have g4 := nl_ge s (p + 1)
    simp only [sp]
    have e : ∀ q l', s.size - q ≤ b → s.size - q ≤ c → sp s b q l' = sp s c q l' := fun q l' h1 h2 => sp_fuel s b c q l' h1 h2
    rw [e (p + 1) _ (by omega) (by omega), e (nl s (p + 1)) _ (by omega) (by omega), e (run 2 s (p + 1)) _ (by omega) (by omega), e (run 3 s (p + 1)) _ (by omega) (by omega)]
/-- what a scan from a place on tells, tokens being there -/
def SP (s : ByteArray) (p : Nat) (l : List Tok) : Res := sp s (s.size - p) p l
theorem SP_end {s : ByteArray} {p : Nat} {l : List Tok} (h : s.size ≤ p) : SP s p l = .ok (l ++ [⟨3, noText, 0, s.size⟩]) := by
  unfold SP; rw [show s.size - p = 0 by omega]; rfl
theorem SP_go {s : ByteArray} {p : Nat} {l : List Tok} (h : p < s.size) : SP s p l =
    if kb s p = 1 then SP s (p + 1) l
    else if kb s p = 4 then SP s (nl s (p + 1)) l
    else if kb s p = 2 then
      (if (rdv (s.extract p s.size) p).2.2 ≠ 0 then .bad p (rdv (s.extract p s.size) p).2.2
       else if run 2 s (p + 1) < s.size ∧ kb s (run 2 s (p + 1)) = 3 then .bad (run 2 s (p + 1)) 2
       else SP s (run 2 s (p + 1)) (l ++ [⟨2, noText, (rdv (s.extract p s.size) p).1, p⟩]))
    else if kb s p = 3 then
      (if 16 < run 3 s (p + 1) - p then .bad p 5
       else if run 3 s (p + 1) < s.size ∧ kb s (run 3 s (p + 1)) = 2 then .bad (run 3 s (p + 1)) 2
       else SP s (run 3 s (p + 1)) (l ++ [⟨1, s.extract p (run 3 s (p + 1)), 0, p⟩]))
    else .bad p 2 := by
  have g2 := run_ge 2 s (p + 1)
  have g3 := run_ge 3 s (p + 1)
  have g4 := nl_ge s (p + 1)
  unfold SP
  obtain ⟨b, hb⟩ : ∃ b, s.size - p = b + 1 := ⟨s.size - p - 1, by omega⟩
  rw [hb]
  simp only [sp]
  rw [if_neg (by omega)]
  have e : ∀ q l', p < q → sp s b q l' = sp s (s.size - q) q l' := fun q l' h => sp_fuel s b _ q l' (by omega) (Nat.le_refl _)
  rw [e (p + 1) _ (by omega), e (nl s (p + 1)) _ (by omega), e (run 2 s (p + 1)) _ (by omega), e (run 3 s (p + 1)) _ (by omega)]
end Go.Proofs.YtegieoajjfodcaaGreatDoor

/-
  What the package's Scan knows on its way through a text.
-/
import Derived.Test.YtegieoajjfodcaaGreatDoorRScan
namespace Go.Proofs.YtegieoajjfodcaaGreatDoor
open Go.RowKit
set_option linter.unusedVariables false
/-- inside a number -/
def IN2 (s : ByteArray) (p : Nat) (l : List Tok) : Res := if run 2 s p < s.size ∧ kb s (run 2 s p) = 3 then .bad (run 2 s p) 2 else SP s (run 2 s p) l
/-- inside a word -/
def IN3 (s : ByteArray) (q p : Nat) (l : List Tok) : Res :=
  if 16 < run 3 s p - q then .bad q 5 else if run 3 s p < s.size ∧ kb s (run 3 s p) = 2 then .bad (run 3 s p) 2 else SP s (run 3 s p) (l ++ [⟨1, s.extract q (run 3 s p), 0, q⟩])
theorem IN2_in {s : ByteArray} {p : Nat} {l : List Tok} (h : p < s.size) (hk : kb s p = 2) : IN2 s p l = IN2 s (p + 1) l := by unfold IN2; rw [run_in h hk]
theorem IN2_letter {s : ByteArray} {p : Nat} {l : List Tok} (h : p < s.size) (hk : kb s p = 3) : IN2 s p l = .bad p 2 := by
  unfold IN2; rw [run_out (fun h => by omega), if_pos ⟨h, hk⟩]
theorem IN2_out {s : ByteArray} {p : Nat} {l : List Tok} (h2 : ¬ (p < s.size ∧ kb s p = 2)) (h3 : ¬ (p < s.size ∧ kb s p = 3)) : IN2 s p l = SP s p l := by
  unfold IN2; rw [run_out h2, if_neg h3]
theorem IN3_in {s : ByteArray} {q p : Nat} {l : List Tok} (h : p < s.size) (hk : kb s p = 3) : IN3 s q p l = IN3 s q (p + 1) l := by unfold IN3; rw [run_in h hk]
theorem IN3_long {s : ByteArray} {q p : Nat} {l : List Tok} (h : p < s.size) (hk : kb s p = 3) (hl : 16 < p + 1 - q) : IN3 s q p l = .bad q 5 := by
  unfold IN3; rw [run_in h hk]
  have := run_ge 3 s (p + 1)
  rw [if_pos (by omega)]
theorem IN3_digit {s : ByteArray} {q p : Nat} {l : List Tok} (h : p < s.size) (hk : kb s p = 2) (hl : p - q ≤ 16) : IN3 s q p l = .bad p 2 := by
  unfold IN3; rw [run_out (fun h => by omega), if_neg (by omega), if_pos ⟨h, hk⟩]
theorem IN3_out {s : ByteArray} {q p : Nat} {l : List Tok} (h3 : ¬ (p < s.size ∧ kb s p = 3)) (h2 : ¬ (p < s.size ∧ kb s p = 2)) (hl : p - q ≤ 16) : IN3 s q p l = SP s p (l ++ [⟨1, s.extract q p, 0, q⟩]) := by
  unfold IN3; rw [run_out h3, if_neg (by omega), if_neg h2]
theorem SP_blank {s : ByteArray} {p : Nat} {l : List Tok} (h : p < s.size) (hk : kb s p = 1) : SP s p l = SP s (p + 1) l := by rw [SP_go h, if_pos hk]
theorem SP_remark {s : ByteArray} {p : Nat} {l : List Tok} (h : p < s.size) (hk : kb s p = 4) : SP s p l = SP s (nl s (p + 1)) l := by rw [SP_go h, if_neg (by omega), if_pos hk]
theorem SP_other {s : ByteArray} {p : Nat} {l : List Tok} (h : p < s.size) (hk : kb s p = 0) : SP s p l = .bad p 2 := by rw [SP_go h, if_neg (by omega), if_neg (by omega), if_neg (by omega), if_neg (by omega)]
theorem SP_badnum {s : ByteArray} {p : Nat} {l : List Tok} (h : p < s.size) (hk : kb s p = 2) (he : (rdv (s.extract p s.size) p).2.2 ≠ 0) : SP s p l = .bad p (rdv (s.extract p s.size) p).2.2 := by
  rw [SP_go h, if_neg (by omega), if_neg (by omega), if_pos hk, if_pos he]
theorem SP_number {s : ByteArray} {p : Nat} {l : List Tok} (h : p < s.size) (hk : kb s p = 2) (he : (rdv (s.extract p s.size) p).2.2 = 0) : SP s p l = IN2 s (p + 1) (l ++ [⟨2, noText, (rdv (s.extract p s.size) p).1, p⟩]) := by
  rw [SP_go h, if_neg (by omega), if_neg (by omega), if_pos hk, if_neg (by simp [he])]; rfl
theorem SP_word {s : ByteArray} {p : Nat} {l : List Tok} (h : p < s.size) (hk : kb s p = 3) : SP s p l = IN3 s p (p + 1) l := by
  rw [SP_go h, if_neg (by omega), if_neg (by omega), if_neg (by omega), if_pos hk]; rfl
/-- where a scan is: what stands before, the place, the tokens -/
def BSt (s : ByteArray) (R : Res) (b : Int) (p : Nat) (l : List Tok) : Prop :=
  (b = 1 ∧ SP s p l = R) ∨ (b = 4 ∧ SP s (nl s p) l = R) ∨ (b = 2 ∧ IN2 s p l = R) ∨ (b = 3 ∧ ∃ l0 q, l = l0 ++ [⟨1, s.extract q p, 0, q⟩] ∧ q < p ∧ p - q ≤ 16 ∧ IN3 s q p l0 = R)
theorem BSt_kinds {s : ByteArray} {R : Res} {b : Int} {p : Nat} {l : List Tok} (h : BSt s R b p l) : b = 1 ∨ b = 2 ∨ b = 3 ∨ b = 4 := by
  rcases h with h | h | h | h
  · exact .inl h.1
  · exact .inr (.inr (.inr h.1))
  · exact .inr (.inl h.1)
  · exact .inr (.inr (.inl h.1))
theorem BSt_out {s : ByteArray} {R : Res} {b : Int} {p : Nat} {l : List Tok} (h : BSt s R b p l) (hb : b ≠ 4) (h2 : ¬ (p < s.size ∧ kb s p = 2) ∨ b = 1) (h3 : ¬ (p < s.size ∧ kb s p = 3) ∨ b = 1) : SP s p l = R := by
  rcases h with h | h | h | ⟨h, l0, q, rfl, h4, h5, h6⟩
  · exact h.2
  · exact absurd h.1 hb
  · have := h.1
    rw [← IN2_out (by rcases h2 with h | h; exact h; omega) (by rcases h3 with h | h; exact h; omega)]; exact h.2
  · rw [← IN3_out (by rcases h3 with h | h; exact h; omega) (by rcases h2 with h | h; exact h; omega) h5]; exact h6
theorem BSt_end {s : ByteArray} {R : Res} {b : Int} {p : Nat} {l : List Tok} (h : BSt s R b p l) (hp : s.size ≤ p) : R = .ok (l ++ [⟨3, noText, 0, s.size⟩]) := by
  by_cases hb : b = 4
  · rcases h with h | h | h | h
    · omega
    · rw [← h.2, nl_out (fun h => by omega), SP_end hp]
    · omega
    · omega
  · rw [← BSt_out h hb (.inl (fun h => by omega)) (.inl (fun h => by omega)), SP_end hp]
/-- a blank behind anything but a remark -/
theorem BSt_blank {s : ByteArray} {R : Res} {b : Int} {p : Nat} {l : List Tok} (h : BSt s R b p l) (hb : b ≠ 4) (hp : p < s.size) (hk : kb s p = 1) : BSt s R 1 (p + 1) l :=
  .inl ⟨rfl, by rw [← SP_blank hp hk]; exact BSt_out h hb (.inl (fun h => by omega)) (.inl (fun h => by omega))⟩
theorem BSt_remark {s : ByteArray} {R : Res} {b : Int} {p : Nat} {l : List Tok} (h : BSt s R b p l) (hb : b ≠ 4) (hp : p < s.size) (hk : kb s p = 4) : BSt s R 4 (p + 1) l :=
  .inr (.inl ⟨rfl, by rw [← SP_remark hp hk]; exact BSt_out h hb (.inl (fun h => by omega)) (.inl (fun h => by omega))⟩)
theorem BSt_other {s : ByteArray} {R : Res} {b : Int} {p : Nat} {l : List Tok} (h : BSt s R b p l) (hb : b ≠ 4) (hp : p < s.size) (hk : kb s p = 0) : R = .bad p 2 := by
  rw [← SP_other (l := l) hp hk]; exact (BSt_out h hb (.inl (fun h => by omega)) (.inl (fun h => by omega))).symm
/-- the end of a remark's line -/
theorem BSt_line {s : ByteArray} {R : Res} {p : Nat} {l : List Tok} (h : BSt s R 4 p l) (hp : p < s.size) (hk : (s.get! p).toNat = 10) : BSt s R 1 (p + 1) l := by
  have hkb : kb s p = 1 := by unfold kb; rw [hk]; simp [kindv]
  rcases h with h | h | h | h
  · omega
  · refine .inl ⟨rfl, ?_⟩
    rw [← SP_blank hp hkb, ← h.2, nl_out (fun h => by omega)]
  · omega
  · omega
/-- within a remark -/
theorem BSt_in4 {s : ByteArray} {R : Res} {p q : Nat} {l : List Tok} (h : BSt s R 4 p l) (hn : nl s p = nl s q) : BSt s R 4 q l := by
  rcases h with h | h | h | h
  · omega
  · exact .inr (.inl ⟨rfl, by rw [← hn]; exact h.2⟩)
  · omega
  · omega
theorem BSt_in2 {s : ByteArray} {R : Res} {p : Nat} {l : List Tok} (h : BSt s R 2 p l) (hp : p < s.size) (hk : kb s p = 2) : BSt s R 2 (p + 1) l := by
  rcases h with h | h | h | h
  · omega
  · omega
  · exact .inr (.inr (.inl ⟨rfl, by rw [← IN2_in hp hk]; exact h.2⟩))
  · omega
theorem BSt_bad23 {s : ByteArray} {R : Res} {p : Nat} {l : List Tok} (h : BSt s R 2 p l) (hp : p < s.size) (hk : kb s p = 3) : R = .bad p 2 := by
  rcases h with h | h | h | h
  · omega
  · omega
  · rw [← h.2, IN2_letter hp hk]
  · omega
theorem BSt_bad32 {s : ByteArray} {R : Res} {p : Nat} {l : List Tok} (h : BSt s R 3 p l) (hp : p < s.size) (hk : kb s p = 2) : R = .bad p 2 := by
  rcases h with h | h | h | ⟨_, l0, q, rfl, h4, h5, h6⟩
  · omega
  · omega
  · omega
  · rw [← h6, IN3_digit hp hk h5]
theorem BSt_num {s : ByteArray} {R : Res} {b : Int} {p : Nat} {l : List Tok} (h : BSt s R b p l) (hb : b = 1 ∨ b = 4) (hb4 : b ≠ 4) (hp : p < s.size) (hk : kb s p = 2) (he : (rdv (s.extract p s.size) p).2.2 = 0) : BSt s R 2 (p + 1) (l ++ [⟨2, noText, (rdv (s.extract p s.size) p).1, p⟩]) :=
  .inr (.inr (.inl ⟨rfl, by rw [← SP_number hp hk he]; exact BSt_out h hb4 (.inr (by omega)) (.inl (fun h => by omega))⟩))
theorem BSt_badnum {s : ByteArray} {R : Res} {b : Int} {p : Nat} {l : List Tok} (h : BSt s R b p l) (hb : b = 1) (hp : p < s.size) (hk : kb s p = 2) (he : (rdv (s.extract p s.size) p).2.2 ≠ 0) : R = .bad p (rdv (s.extract p s.size) p).2.2 := by
  rw [← SP_badnum (l := l) hp hk he]; exact (BSt_out h (by omega) (.inr hb) (.inr hb)).symm
theorem BSt_word {s : ByteArray} {R : Res} {b : Int} {p : Nat} {l : List Tok} (h : BSt s R b p l) (hb : b = 1) (hp : p < s.size) (hk : kb s p = 3) : BSt s R 3 (p + 1) (l ++ [⟨1, s.extract p (p + 1), 0, p⟩]) :=
  .inr (.inr (.inr ⟨rfl, l, p, rfl, by omega, by omega, by rw [← SP_word hp hk]; exact BSt_out h (by omega) (.inr hb) (.inr hb)⟩))
theorem BSt_grow {s : ByteArray} {R : Res} {p : Nat} {l : List Tok} (h : BSt s R 3 p l) (hp : p < s.size) (hk : kb s p = 3) :
    ∃ l0 q, l = l0 ++ [⟨1, s.extract q p, 0, q⟩] ∧ q < p ∧ p - q ≤ 16 ∧ (16 < p + 1 - q → R = .bad q 5) ∧ (p + 1 - q ≤ 16 → BSt s R 3 (p + 1) (l0 ++ [⟨1, s.extract q (p + 1), 0, q⟩])) := by
  rcases h with h | h | h | ⟨_, l0, q, rfl, h4, h5, h6⟩
  · omega
  · omega
  · omega
  · refine ⟨l0, q, rfl, h4, h5, fun h => ?_, fun h => .inr (.inr (.inr ⟨rfl, l0, q, rfl, by omega, h, ?_⟩))⟩
    · rw [← h6, IN3_long hp hk h]
    · rw [← IN3_in hp hk]; exact h6
/-- high bytes and runes are of no kind -/
theorem kindv_high {r : Int} (h : 128 ≤ r) : kindv r = 0 := by
  unfold kindv; rw [if_neg (by omega), if_neg (by omega), if_neg (by omega), if_neg (by omega)]
theorem kb_high {s : ByteArray} {p : Nat} (h : p < s.size) (hh : 128 ≤ (s[p]'h).toNat) : kb s p = 0 := by
  rw [kb_of h]; exact kindv_high (by omega)
/-- a rune's kind is its first byte's -/
theorem kind_rune {s : ByteArray} {p : Nat} (h : p < s.size) : kindv ((Utf8.decode s p).1 : Int) = kb s p := by
  rcases Nat.lt_or_ge (s[p]'h).toNat 128 with q | q
  · rw [decode_ascii s p h q, kb_of h]
  · rw [kb_high h q]; exact kindv_high (by have := (decode_high s p h q).1; omega)
/-- a rune of a kind is one byte wide -/
theorem wide_one {s : ByteArray} {p : Nat} (h : p < s.size) (hk : kb s p ≠ 0) : Utf8.decode s p = ((s[p]'h).toNat, 1) := by
  rcases Nat.lt_or_ge (s[p]'h).toNat 128 with q | q
  · exact decode_ascii s p h q
  · exact absurd (kb_high h q) hk
end Go.Proofs.YtegieoajjfodcaaGreatDoor

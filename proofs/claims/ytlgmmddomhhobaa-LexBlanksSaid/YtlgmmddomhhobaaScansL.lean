/-
  The walk of the law LexScans.
-/
import Derived.Test.YtlgmmddomhhobaaSameT
namespace Go.Proofs.Ytlgmmddomhhobaa
open Go.RowKit
set_option linter.unusedVariables false
theorem sp_len (s : ByteArray) : ∀ (b p : Nat) (l l' : List Tok), s.size - p ≤ b → sp s b p l = .ok l' → l'.length ≤ l.length + (s.size - p) + 1
  | 0, p, l, l', hb, h => by
    simp only [sp] at h; injection h with h; subst h; simp
  | b + 1, p, l, l', hb, h => by
    simp only [sp] at h
    have g2 := run_ge 2 s (p + 1)
    have g3 := run_ge 3 s (p + 1)
    have g4 := nl_ge s (p + 1)
    split at h
    · injection h with h; subst h; simp
    · split at h
      · have := sp_len s b (p + 1) _ _ (by omega) h; omega
      · split at h
        · have := sp_len s b (nl s (p + 1)) _ _ (by omega) h; omega
        · split at h
          · split at h
            · cases h
            · split at h
              · cases h
              · have := sp_len s b (run 2 s (p + 1)) _ _ (by omega) h
                simp at this; omega
          · split at h
            · split at h
              · cases h
              · split at h
                · cases h
                · have := sp_len s b (run 3 s (p + 1)) _ _ (by omega) h
                  simp at this; omega
            · cases h
/-- what a call of Scan leaves -/
def Scd (l : List Tok) (p er : Int) (w : World) (e : Ending) (w' : World) : Prop := ∃ v, e = .returned (.tuple #[v, .int .i64 p, .int .i64 er]) ∧ TL w' v l ∧ Below w.heap.size w w'
theorem tl_nil (w : World) : TL w (.slice none 0 0) [] := .inl ⟨rfl, none, 0, rfl⟩
theorem both (s : ByteArray) : ∃ l p er, l.length ≤ s.size + 1 ∧ (∀ w, Calls Try.prog 8 #[.string s] w (Scd l p er w)) ∧ (∀ w, Calls Try.prog 9 #[.string s] w (Scd l p er w)) := by
  by_cases hs : s.size ≤ 65536
  · cases hr : SP s 0 [] with
    | ok l =>
      have hl := sp_len s _ _ _ _ (Nat.le_refl _) hr
      refine ⟨l, 0, 0, by simpa using hl, fun w => (scan_any s hs w).mono ?_, fun w => (refscan_any s hs w).mono ?_⟩
      · intro e w' h; rw [hr] at h; obtain ⟨v, h1, h2, h3⟩ := h; exact ⟨v, h1, TL_of h2, h3⟩
      · intro e w' h; rw [hr] at h; obtain ⟨v, h1, h2, h3⟩ := h; exact ⟨v, h1, TL_of h2, h3⟩
    | bad p er =>
      refine ⟨[], p, er, by simp, fun w => (scan_any s hs w).mono ?_, fun w => (refscan_any s hs w).mono ?_⟩
      · intro e w' h; rw [hr] at h; obtain ⟨h1, h3⟩ := h; exact ⟨_, h1, tl_nil _, h3⟩
      · intro e w' h; rw [hr] at h; obtain ⟨h1, h3⟩ := h; exact ⟨_, h1, tl_nil _, h3⟩
  · refine ⟨[], 0, 5, by simp, fun w => (scan_long s (by omega) w).mono ?_, fun w => (refscan_long s (by omega) w).mono ?_⟩
    · rintro e w' ⟨h1, rfl⟩; exact ⟨_, h1, tl_nil _, Below.refl _ _⟩
    · rintro e w' ⟨h1, rfl⟩; exact ⟨_, h1, tl_nil _, Below.refl _ _⟩
set_option maxRecDepth 100000 in
set_option maxHeartbeats 2000000 in
theorem lexScans_walk (s : ByteArray) (w : World) (w0 : s.size ≤ maxLen) : Calls Try.prog 3 #[.string s] w fun e w' => e = .returned (.bool true) ∧ Below w.heap.size w w' := by
  obtain ⟨l, p, er, hl, H8, H9⟩ := both s
  have H8 := Lib.hid H8
  have H9 := Lib.hid H9
  clear w0
  by_cases hb : 66000 < s.size
  · have g0 : (66000 : Int) < (s.size : Int) := by omega
    go_enter Try.func3, Try.ntmps3
    go_wp2_with fail
    refine (lexes_any _).mono ?_
    rintro e w1 ⟨rfl, hb⟩
    go_wp2
    go_ret
    exact ⟨rfl, hb⟩
  · have g0 : ¬ (66000 : Int) < (s.size : Int) := by omega
    have hl2 : l.length ≤ 70000 := by omega
    clear hb hl
    go_enter Try.func3, Try.ntmps3
    go_wp2_with fail
    refine (H8.out _).mono ?_
    rintro e w1 ⟨v1, rfl, t1, hb1⟩
    go_wp2_with fail
    refine (H9.out _).mono ?_
    rintro e w2 ⟨v2, rfl, t2, hb2⟩
    have t1 := t1.up hb2
    have hb2 := below_tr hb1 hb2
    clear hb1
    go_wp2_with fail
    refine (lexes_any _).mono ?_
    rintro e w3 ⟨rfl, hb3⟩
    have t1 := t1.up hb3
    have t2 := t2.up hb3
    have hb3 := below_tr hb2 hb3
    clear hb2
    go_wp2_with fail
    refine (from_any v1 l _ t1 hl2).mono ?_
    rintro e w4 ⟨v3, rfl, t3, hb4⟩
    have t2 := t2.up hb4
    have hb4 := below_tr hb3 hb4
    clear hb3
    go_wp2_with fail
    refine (sameT_any v3 v2 l _ t3 t2 hl2).mono ?_
    rintro e w5 ⟨rfl, hb5⟩
    have hb5 := below_tr hb4 hb5
    clear hb4
    go_wp2
    go_ret
    exact ⟨rfl, hb5⟩
end Go.Proofs.Ytlgmmddomhhobaa

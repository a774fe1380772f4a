/-
  A text that begins with a word that is no problem's is wrong, at a place within it. Plain mathematics.
-/
import Derived.Test.YtegieoajjfodcaaGreatDoorTxA
import Derived.Test.YtegieoajjfodcaaGreatDoorWi
namespace Go.Proofs.YtegieoajjfodcaaGreatDoor
open Go.RowKit
set_option linter.unusedVariables false
def InT (s : ByteArray) : Res → Prop
  | .ok T => ∀ t ∈ T, t.at_ ≤ s.size
  | .bad q e => q ≤ s.size
theorem sp_at (s : ByteArray) : ∀ b p l, p ≤ s.size → (∀ t ∈ l, t.at_ ≤ s.size) → InT s (sp s b p l)
  | 0, p, l, hp, hl => by
    intro t ht
    rcases List.mem_append.1 ht with q | q
    · exact hl t q
    · rw [List.mem_singleton.1 q]; exact Nat.le_refl _
  | b + 1, p, l, hp, hl => by
    simp only [sp]
    split
    · intro t ht
      rcases List.mem_append.1 ht with q | q
      · exact hl t q
      · rw [List.mem_singleton.1 q]; exact Nat.le_refl _
    · rename_i hlt
      have e2 := run_le 2 s (p + 1) (by omega)
      have e3 := run_le 3 s (p + 1) (by omega)
      have e4 := nl_le s (p + 1) (by omega)
      have ap : ∀ (x : Tok), x.at_ = p → ∀ t ∈ l ++ [x], t.at_ ≤ s.size := fun x hx t ht => by
        rcases List.mem_append.1 ht with q | q
        · exact hl t q
        · rw [List.mem_singleton.1 q, hx]; omega
      split
      · exact sp_at s b _ _ (by omega) hl
      · split
        · exact sp_at s b _ _ e4 hl
        · split
          · split
            · exact hp
            · split
              · exact e2
              · exact sp_at s b _ _ e2 (ap _ rfl)
          · split
            · split
              · exact hp
              · split
                · exact e3
                · exact sp_at s b _ _ e3 (ap _ rfl)
            · exact hp
theorem pxx_bad {s : ByteArray} {q : Nat} {f : Int} (h : PXX s = .bad q f) : f ≠ 0 := by
  unfold PXX at h
  split at h
  · injection h with _ h; omega
  · unfold PX at h
    cases hsp : SP s 0 [] with
    | bad p e => rw [hsp] at h; injection h with h1 h2; rw [← h2]; exact SP_bad hsp
    | ok T =>
      rw [hsp] at h
      have h : PR T = .bad q f := h
      unfold PR at h
      split at h
      · rename_i hf; injection h with h1 h2; rw [← h2]; exact hf
      · split at h
        · cases h
        · split at h
          · split at h <;> cases h
          · cases h
theorem pxx_at {s : ByteArray} {q : Nat} {f : Int} (h : PXX s = .bad q f) : q ≤ s.size := by
  unfold PXX at h
  split at h
  · injection h with h _; omega
  · unfold PX at h
    have ha := sp_at s (s.size - 0) 0 [] (by omega) (by simp)
    cases hsp : SP s 0 [] with
    | bad p e =>
      rw [hsp] at h; injection h with h1 h2
      have hsp' : sp s (s.size - 0) 0 [] = .bad p e := hsp
      rw [hsp'] at ha
      rw [← h1]; exact ha
    | ok T =>
      rw [hsp] at h
      have hsp' : sp s (s.size - 0) 0 [] = .ok T := hsp
      rw [hsp'] at ha
      have ha : ∀ t ∈ T, t.at_ ≤ s.size := ha
      have h : PR T = .bad q f := h
      unfold PR at h
      split at h
      · injection h with h1 h2; rw [← h1]
        unfold tk
        cases hi : T[(fin T (PS T)).p]? with
        | none => exact Nat.zero_le _
        | some t => exact ha t (List.mem_of_getElem? hi)
      · split at h
        · cases h
        · split at h
          · split at h <;> cases h
          · cases h
theorem sp_pref (s : ByteArray) : ∀ b p l T, sp s b p l = .ok T → ∃ r, T = l ++ r
  | 0, p, l, T, h => by simp only [sp] at h; injection h with h; exact ⟨_, h.symm⟩
  | b + 1, p, l, T, h => by
    simp only [sp] at h
    have ap : ∀ (x : Tok), (∃ r, T = (l ++ [x]) ++ r) → ∃ r, T = l ++ r := fun x ⟨r, e⟩ => ⟨[x] ++ r, by rw [e, List.append_assoc]⟩
    split at h
    · injection h with h; exact ⟨_, h.symm⟩
    · split at h
      · exact sp_pref s b _ _ _ h
      · split at h
        · exact sp_pref s b _ _ _ h
        · split at h
          · split at h
            · cases h
            · split at h
              · cases h
              · exact ap _ (sp_pref s b _ _ _ h)
          · split at h
            · split at h
              · cases h
              · split at h
                · cases h
                · exact ap _ (sp_pref s b _ _ _ h)
            · cases h
def wrongB : ByteArray := ⟨#[87, 82, 79, 78, 71, 32]⟩
theorem rdv_e (t : ByteArray) (a : Int) : 0 ≤ (rdv t a).2.2 ∧ (rdv t a).2.2 ≤ 8 := by
  unfold rdv
  split
  · decide
  · split
    · decide
    · exact ⟨by show (0 : Int) ≤ 0; decide, by show (0 : Int) ≤ 8; decide⟩
def InE : Res → Prop
  | .ok T => True
  | .bad q e => 0 ≤ e ∧ e ≤ 8
theorem sp_e (s : ByteArray) : ∀ b p l, InE (sp s b p l)
  | 0, p, l => trivial
  | b + 1, p, l => by
    simp only [sp]
    split
    · trivial
    · split
      · exact sp_e s b _ _
      · split
        · exact sp_e s b _ _
        · split
          · split
            · exact rdv_e _ _
            · split
              · exact ⟨by decide, by decide⟩
              · exact sp_e s b _ _
          · split
            · split
              · exact ⟨by decide, by decide⟩
              · split
                · exact ⟨by decide, by decide⟩
                · exact sp_e s b _ _
            · exact ⟨by decide, by decide⟩
theorem wrong_pr {t : ByteArray} (hP : SP t 0 [] = SP t (0 + 5) ([] ++ [(Pc.wd [87, 82, 79, 78, 71]).tok 0])) {T : List Tok} (hsp : SP t 0 [] = .ok T) : PR T = .bad (tk T 0).at_ 3 := by
  rw [hP] at hsp
  obtain ⟨r, hr⟩ := sp_pref t _ _ _ T hsp
  have hk : tk T 0 = (Pc.wd [87, 82, 79, 78, 71]).tok 0 := by rw [hr]; rfl
  have hi : idx3 (tk T 0).text = -1 := by rw [hk]; decide +kernel
  have e1 : s1 T = ⟨0, 3⟩ := by
    unfold s1 wf
    rw [hi, hk]
    show adv ⟨0, 0⟩ (if (1 : Int) = 3 then 6 else if (-1 : Int) < 0 then 3 else 0) = _
    rw [if_neg (by decide), if_pos (by decide)]
    exact adv_err rfl (by decide)
  have hS : PS T = ⟨0, 3⟩ := by
    unfold PS
    rw [hi, if_neg (by decide), if_neg (by decide)]
    unfold kSt
    have e2 : sz T (s1 T) 64 = ⟨0, 3⟩ := by rw [e1]; unfold sz; exact adv_bad (by show (3 : Int) ≠ 0; decide) _
    rw [e2]
    exact steps_bad eK T (by show (3 : Int) ≠ 0; decide) _
  unfold PR
  rw [hS, fin_bad (by show (3 : Int) ≠ 0; decide), if_pos (by show (3 : Int) ≠ 0; decide)]
theorem wrong_bad (s : ByteArray) (hs : s.size ≤ 60000) : ∃ (q : Nat) (f : Int), PXX (wrongB ++ s) = .bad q f ∧ f ≠ 0 ∧ q ≤ (wrongB ++ s).size ∧ 0 ≤ f ∧ f ≤ 8 := by
  obtain ⟨t, ht⟩ : ∃ t, t = wrongB ++ s := ⟨_, rfl⟩
  rw [← ht]
  have hz : t.size = 6 + s.size := by rw [ht, ByteArray.size_append]; rfl
  have hA : At t 0 ([87, 82, 79, 78, 71, 32] ++ s.data.toList) := by
    have := at_self t
    rw [ht, ByteArray.data_append] at this
    rw [ht]
    simpa [wrongB] using this
  obtain ⟨h1, -⟩ := At.app.1 hA
  obtain ⟨h2, h3⟩ := At.app.1 (show At t 0 ([87, 82, 79, 78, 71] ++ [32]) from h1)
  have k5 : t.get! 5 = 32 := h3.2 0 (by simp)
  have hP := sp_pc (x := .wd [87, 82, 79, 78, 71]) ⟨by decide, by decide, by decide⟩ h2 (fun _ => by
    have : kb t (0 + 5) = 1 := by show kindv _ = 1; rw [k5]; decide
    exact ⟨by show kb t (0 + 5) ≠ 2; rw [this]; decide, by show kb t (0 + 5) ≠ 3; rw [this]; decide⟩) []
  cases hX : PXX t with
  | bad q f =>
    refine ⟨q, f, rfl, pxx_bad hX, pxx_at hX, ?_⟩
    unfold PXX at hX
    rw [if_neg (by omega)] at hX
    unfold PX at hX
    have he := sp_e t (t.size - 0) 0 []
    cases hsp : SP t 0 [] with
    | bad p e =>
      rw [hsp] at hX; injection hX with h1 h2
      have hsp' : sp t (t.size - 0) 0 [] = .bad p e := hsp
      rw [hsp'] at he
      rw [← h2]; exact he
    | ok T =>
      rw [hsp] at hX
      have hX : PR T = .bad q f := hX
      have hf := wrong_pr hP hsp
      rw [hf] at hX
      injection hX with _ h2
      rw [← h2]; decide
  | ok K n C wl vl cl =>
    exfalso
    unfold PXX at hX
    rw [if_neg (by omega)] at hX
    unfold PX at hX
    cases hsp : SP t 0 [] with
    | bad p e => rw [hsp] at hX; cases hX
    | ok T =>
      rw [hsp] at hX
      have hX : PR T = .ok K n C wl vl cl := hX
      rw [wrong_pr hP hsp] at hX
      cases hX
end Go.Proofs.YtegieoajjfodcaaGreatDoor

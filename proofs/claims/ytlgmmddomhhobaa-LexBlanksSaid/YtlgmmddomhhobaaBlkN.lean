/-
  A token of one text laid into another one.
-/
import Derived.Test.YtlgmmddomhhobaaBlkM
namespace Go.Proofs.Ytlgmmddomhhobaa
open Go.RowKit
set_option linter.unusedVariables false
theorem sp_word2 {t : ByteArray} {p n : Nat} {l : List Tok} (h1 : 1 ≤ n) (h16 : n ≤ 16) (hp : p + n ≤ t.size) (hk : ∀ j, j < n → kb t (p + j) = 3) (he : p + n < t.size → kb t (p + n) ≠ 2 ∧ kb t (p + n) ≠ 3) :
    SP t p l = SP t (p + n) (l ++ [⟨1, t.extract p (p + n), 0, p⟩]) := by
  have hr : run 3 t (p + 1) = p + n := by
    rw [run_steps (n - 1) (by omega) (fun j hj => by rw [show p + 1 + j = p + (1 + j) by omega]; exact hk _ (by omega)), show p + 1 + (n - 1) = p + n by omega]
    exact run_out (fun hc => (he hc.1).2 hc.2)
  have hk0 := hk 0 (by omega)
  rw [Nat.add_zero] at hk0
  rw [SP_word (by omega) hk0]
  unfold IN3
  rw [hr, if_neg (by omega), if_neg (fun hc => (he hc.1).1 hc.2)]
theorem sp_num2 {t : ByteArray} {p n : Nat} {l : List Tok} (h1 : 1 ≤ n) (hp : p + n ≤ t.size) (hk : ∀ j, j < n → kb t (p + j) = 2) (he : p + n < t.size → kb t (p + n) ≠ 2 ∧ kb t (p + n) ≠ 3) (hr0 : (rdv (t.extract p t.size) p).2.2 = 0) :
    SP t p l = SP t (p + n) (l ++ [⟨2, noText, (rdv (t.extract p t.size) p).1, p⟩]) := by
  have hr : run 2 t (p + 1) = p + n := by
    rw [run_steps (n - 1) (by omega) (fun j hj => by rw [show p + 1 + j = p + (1 + j) by omega]; exact hk _ (by omega)), show p + 1 + (n - 1) = p + n by omega]
    exact run_out (fun hc => (he hc.1).1 hc.2)
  have hk0 := hk 0 (by omega)
  rw [Nat.add_zero] at hk0
  rw [SP_number (by omega) hk0 hr0]
  unfold IN2
  rw [hr, if_neg (fun hc => (he hc.1).2 hc.2)]
theorem nd_of {t : ByteArray} {p n : Nat} (hp : p + n ≤ t.size) (hk : ∀ j, j < n → kb t (p + j) = 2) (he : p + n < t.size → kb t (p + n) ≠ 2) : nd (t.extract p t.size) = n := by
  have h := run_ndf t _ p (by omega) rfl (t.extract p t.size).size 0 (by omega)
  have hr : run 2 t p = p + n := by
    rw [run_steps n hp hk]
    exact run_out (fun hc => he hc.1 hc.2)
  rw [Nat.add_zero, hr] at h
  unfold nd; omega
theorem dv_same {t s : ByteArray} : ∀ n, (∀ j, j < n → t.get! j = s.get! j) → dv t n = dv s n
  | 0, _ => by rw [dv_zero, dv_zero]
  | n + 1, h => by rw [dv_succ, dv_succ, dv_same n (fun j hj => h j (by omega)), h n (by omega)]
theorem rdv_same {t s : ByteArray} {p A n : Nat} (h1 : 1 ≤ n) (hp : p + n ≤ t.size) (hA : A + n ≤ s.size) (hs : ∀ j, j < n → kb s (A + j) = 2) (hse : A + n < s.size → kb s (A + n) ≠ 2) (ht : ∀ j, j < n → t.get! (p + j) = s.get! (A + j)) (hte : p + n < t.size → kb t (p + n) ≠ 2) :
    (rdv (t.extract p t.size) p).1 = (rdv (s.extract A s.size) A).1 ∧ (rdv (t.extract p t.size) p).2.2 = (rdv (s.extract A s.size) A).2.2 := by
  have n1 := nd_of hA hs hse
  have n2 := nd_of (t := t) (p := p) hp (fun j hj => by have := hs j hj; unfold kb at this ⊢; rw [ht j hj]; exact this) hte
  have g : ∀ j, j < n → (t.extract p t.size).get! j = (s.extract A s.size).get! j := fun j hj => by
    rw [get_subk t p j (by omega), get_subk s A j (by omega)]; exact ht j hj
  unfold rdv
  rw [n1, n2, g 0 (by omega), dv_same n g]
  split
  · exact ⟨rfl, rfl⟩
  · split
    · exact ⟨rfl, rfl⟩
    · exact ⟨rfl, rfl⟩
/-- a token of a text, n bytes long -/
structure TF (s : ByteArray) (t : Tok) (n : Nat) : Prop where
  n1 : 1 ≤ n
  n18 : n ≤ 18
  hi : t.at_ + n ≤ s.size
  out : t.at_ + n < s.size → kb s (t.at_ + n) ≠ 2 ∧ kb s (t.at_ + n) ≠ 3
  kd : (t.kind = 1 ∧ n ≤ 16 ∧ t.text = s.extract t.at_ (t.at_ + n) ∧ t.num = 0 ∧ ∀ j, j < n → kb s (t.at_ + j) = 3) ∨
    (t.kind = 2 ∧ t.text = noText ∧ (rdv (s.extract t.at_ s.size) t.at_).2.2 = 0 ∧ t.num = (rdv (s.extract t.at_ s.size) t.at_).1 ∧ ∀ j, j < n → kb s (t.at_ + j) = 2)
def TFs (s : ByteArray) (l : List Tok) (p : Nat) : Prop := ∀ (i : Nat) t, l[i]? = some t → ∃ n, TF s t n ∧ t.at_ + n ≤ p ∧ ∀ u, l[i + 1]? = some u → t.at_ + n ≤ u.at_
theorem TFs.mono {s : ByteArray} {l : List Tok} {p q : Nat} (h : TFs s l p) (hq : p ≤ q) : TFs s l q := fun i t e => by
  obtain ⟨n, h1, h2, h3⟩ := h i t e
  exact ⟨n, h1, by omega, h3⟩
theorem TFs.snoc {s : ByteArray} {l : List Tok} {p n : Nat} {t : Tok} (h : TFs s l p) (ht : TF s t n) (hp : p ≤ t.at_) : TFs s (l ++ [t]) (t.at_ + n) := fun i u e => by
  rcases Nat.lt_or_ge i l.length with hi | hi
  · rw [List.getElem?_append_left hi] at e
    obtain ⟨m, h1, h2, h3⟩ := h i u e
    refine ⟨m, h1, by omega, fun v f => ?_⟩
    rcases Nat.lt_or_ge (i + 1) l.length with hi2 | hi2
    · rw [List.getElem?_append_left hi2] at f; exact h3 v f
    · rw [List.getElem?_append_right hi2, show i + 1 - l.length = 0 by omega] at f
      simp at f; subst f; omega
  · rw [List.getElem?_append_right hi] at e
    rcases Nat.eq_zero_or_pos (i - l.length) with h0 | h0
    · rw [h0] at e; simp at e; subst e
      refine ⟨n, ht, Nat.le_refl _, fun v f => ?_⟩
      rw [List.getElem?_eq_none (by simp; omega)] at f; cases f
    · rw [List.getElem?_eq_none (by simp; omega)] at e; cases e
theorem sp_tf (s : ByteArray) : ∀ (b p : Nat) (l l' : List Tok), p ≤ s.size → s.size - p ≤ b → TFs s l p → sp s b p l = .ok l' → ∃ l0, l' = l0 ++ [⟨3, noText, 0, s.size⟩] ∧ TFs s l0 s.size
  | 0, p, l, l', hp, hb, hF, h => by
    simp only [sp] at h; injection h with h; exact ⟨l, h.symm, hF.mono hp⟩
  | b + 1, p, l, l', hp, hb, hF, h => by
    simp only [sp] at h
    have g2 := run_ge 2 s (p + 1)
    have g3 := run_ge 3 s (p + 1)
    have g4 := nl_ge s (p + 1)
    split at h
    · injection h with h; exact ⟨l, h.symm, hF.mono hp⟩
    · have k2 := run_le 2 s (p + 1) (by omega)
      have k3 := run_le 3 s (p + 1) (by omega)
      have k4 := nl_le s (p + 1) (by omega)
      split at h
      · exact sp_tf s b (p + 1) _ _ (by omega) (by omega) (hF.mono (by omega)) h
      · split at h
        · exact sp_tf s b (nl s (p + 1)) _ _ k4 (by omega) (hF.mono (by omega)) h
        · split at h
          · rename_i hk2
            split at h
            · cases h
            · rename_i hr0
              split at h
              · cases h
              · rename_i hnx
                have hr0 : (rdv (s.extract p s.size) p).2.2 = 0 := by simpa using hr0
                have hall : ∀ j, j < run 2 s (p + 1) - p → kb s (p + j) = 2 := fun j hj => by
                  rcases Nat.eq_zero_or_pos j with h0 | h0
                  · subst h0; exact hk2
                  · exact run_all (by omega) (show p + j < run 2 s (p + 1) by omega)
                have hend : p + (run 2 s (p + 1) - p) < s.size → kb s (p + (run 2 s (p + 1) - p)) ≠ 2 ∧ kb s (p + (run 2 s (p + 1) - p)) ≠ 3 := by
                  rw [show p + (run 2 s (p + 1) - p) = run 2 s (p + 1) by omega]
                  exact fun hc => ⟨fun e => run_end ⟨hc, e⟩, fun e => hnx ⟨hc, e⟩⟩
                have hn := nd_of (t := s) (p := p) (n := run 2 s (p + 1) - p) (by omega) hall (fun hc => (hend hc).1)
                have h18 : run 2 s (p + 1) - p ≤ 18 := by
                  unfold rdv at hr0
                  rw [hn] at hr0
                  split at hr0
                  · simp at hr0
                  · split at hr0
                    · simp at hr0
                    · omega
                have ht : TF s ⟨2, noText, (rdv (s.extract p s.size) p).1, p⟩ (run 2 s (p + 1) - p) := ⟨by omega, h18, by show p + _ ≤ _; omega, hend, .inr ⟨rfl, rfl, hr0, rfl, hall⟩⟩
                have hs := hF.snoc ht (Nat.le_refl _)
                exact sp_tf s b (run 2 s (p + 1)) _ _ k2 (by omega) (hs.mono (by show p + _ ≤ _; omega)) h
          · split at h
            · rename_i hk3
              split at h
              · cases h
              · rename_i h16
                split at h
                · cases h
                · rename_i hnx
                  have hall : ∀ j, j < run 3 s (p + 1) - p → kb s (p + j) = 3 := fun j hj => by
                    rcases Nat.eq_zero_or_pos j with h0 | h0
                    · subst h0; exact hk3
                    · exact run_all (by omega) (show p + j < run 3 s (p + 1) by omega)
                  have hend : p + (run 3 s (p + 1) - p) < s.size → kb s (p + (run 3 s (p + 1) - p)) ≠ 2 ∧ kb s (p + (run 3 s (p + 1) - p)) ≠ 3 := by
                    rw [show p + (run 3 s (p + 1) - p) = run 3 s (p + 1) by omega]
                    exact fun hc => ⟨fun e => hnx ⟨hc, e⟩, fun e => run_end ⟨hc, e⟩⟩
                  have ht : TF s ⟨1, s.extract p (run 3 s (p + 1)), 0, p⟩ (run 3 s (p + 1) - p) := ⟨by omega, by omega, by show p + _ ≤ _; omega, hend, .inl ⟨rfl, by omega, by show _ = s.extract p (p + (run 3 s (p + 1) - p)); rw [show p + (run 3 s (p + 1) - p) = run 3 s (p + 1) by omega], rfl, hall⟩⟩
                  have hs := hF.snoc ht (Nat.le_refl _)
                  exact sp_tf s b (run 3 s (p + 1)) _ _ k3 (by omega) (hs.mono (by show p + _ ≤ _; omega)) h
            · cases h
/-- the same but for the place -/
def alike (u t : Tok) : Prop := u.kind = t.kind ∧ u.text = t.text ∧ u.num = t.num
/-- a token of s that lies in t at p is told alike -/
theorem sp_lay {s t : ByteArray} {k : Tok} {n p : Nat} {l : List Tok} (h : TF s k n) (hl : lays t p (s.extract k.at_ (k.at_ + n))) (he : p + n < t.size → kb t (p + n) ≠ 2 ∧ kb t (p + n) ≠ 3) : SP t p l = SP t (p + n) (l ++ [⟨k.kind, k.text, k.num, p⟩]) := by
  have hh := h.hi
  have hz : (s.extract k.at_ (k.at_ + n)).size = n := by rw [ByteArray.size_extract]; omega
  have hp : p + n ≤ t.size := by have := hl.1; rw [hz] at this; exact this
  have hg : ∀ j, j < n → t.get! (p + j) = s.get! (k.at_ + j) := fun j hj => by
    rw [hl.2 j (by omega), get_of _ j (by omega), get_of s _ (by omega), ByteArray.getElem_extract]
  rcases h.kd with ⟨k1, k2, k3, k4, k5⟩ | ⟨k1, k2, k3, k4, k5⟩
  · have hx : t.extract p (p + n) = k.text := by
      rw [k3]
      apply ByteArray.ext_getElem
      · rw [ByteArray.size_extract, ByteArray.size_extract]; omega
      · intro i h1 h2
        rw [ByteArray.getElem_extract, ByteArray.getElem_extract]
        have hi : i < n := by rw [hz] at h2; exact h2
        have := hg i hi
        rw [get_of t _ (by omega), get_of s _ (by omega)] at this
        exact this
    rw [k1, k4, ← hx]
    exact sp_word2 h.n1 k2 hp (fun j hj => by unfold kb; rw [hg j hj]; exact k5 j hj) he
  · obtain ⟨r1, r2⟩ := rdv_same h.n1 hp hh k5 (fun hc => (h.out hc).1) hg (fun hc => (he hc).1)
    rw [k1, k2, k4, ← r1]
    exact sp_num2 h.n1 hp (fun j hj => by unfold kb; rw [hg j hj]; exact k5 j hj) he (by rw [r2]; exact k3)
end Go.Proofs.Ytlgmmddomhhobaa

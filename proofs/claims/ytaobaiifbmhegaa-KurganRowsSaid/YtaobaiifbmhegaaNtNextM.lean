/-
  The order that comes next has one more ahead of it: plain mathematics.
-/
import Derived.Test.YtaobaiifbmhegaaNtNext
import Derived.Test.YtaobaiifbmhegaaNtRank
namespace Go.Proofs.Ytaobaiifbmhegaa.nt
set_option linter.unusedVariables false

/-- how many of a list are less than v -/
def cl (v : Int) (l : List Int) : Int := (l.countP fun x => decide (x < v) : Nat)
theorem cl_nil (v : Int) : cl v [] = 0 := rfl
theorem cl_snoc (v x : Int) (l : List Int) : cl v (l ++ [x]) = cl v l + if x < v then 1 else 0 := by
  unfold cl
  rw [List.countP_append]
  by_cases h : x < v
  · rw [if_pos h]; simp [h]
  · rw [if_neg h]; simp [h]
theorem cl_perm {v : Int} {l m : List Int} (h : l.Perm m) : cl v l = cl v m := by unfold cl; rw [h.countP_eq]
theorem lsc_take (p : List Int) (k : Nat) : ∀ m, k + 1 + m ≤ p.length → lsc p k m = cl (nth p k) ((p.drop (k + 1)).take m)
  | 0, _ => by rw [lsc_zero]; simp [cl_nil]
  | m + 1, h => by
    have hd : m < (p.drop (k + 1)).length := by simp; omega
    have he : (p.drop (k + 1))[m] = nth p (k + 1 + m) := by rw [List.getElem_drop, nth_at p (k + 1 + m) (by omega)]
    rw [List.take_succ_eq_append_getElem hd, cl_snoc, ← lsc_take p k m (by omega), he]
    by_cases hx : nth p (k + 1 + m) < nth p k
    · rw [lsc_yes p k m hx, if_pos hx]
    · rw [lsc_no p k m hx, if_neg hx]; omega
theorem lsc_all (p : List Int) (k : Nat) (hk : k < p.length) : lsc p k (p.length - (k + 1)) = cl (nth p k) (p.drop (k + 1)) := by
  rw [lsc_take p k _ (by omega), List.take_of_length_le (by simp)]
/-- all later ones are less, none is -/
theorem lsc_full (p : List Int) (k : Nat) : ∀ m, (∀ i, i < m → nth p (k + 1 + i) < nth p k) → lsc p k m = m
  | 0, _ => by rw [lsc_zero]; rfl
  | m + 1, h => by rw [lsc_yes p k m (h m (by omega)), lsc_full p k m (fun i hi => h i (by omega))]; omega
theorem lsc_none (p : List Int) (k : Nat) : ∀ m, (∀ i, i < m → ¬ nth p (k + 1 + i) < nth p k) → lsc p k m = 0
  | 0, _ => lsc_zero p k
  | m + 1, h => by rw [lsc_no p k m (h m (by omega)), lsc_none p k m (fun i hi => h i (by omega))]
/-- what dn tells -/
theorem dn_desc (p : List Int) : ∀ m j, dn p m ≤ j → j < m → nth p (j + 1) < nth p j
  | 0, j, _, h => absurd h (by omega)
  | m + 1, j, h1, h2 => by
    by_cases hx : nth p (m + 1) < nth p m
    · rw [dn_yes p m hx] at h1
      by_cases hj : j = m
      · subst hj; exact hx
      · exact dn_desc p m j h1 (by omega)
    · rw [dn_no p m hx] at h1; omega
theorem dn_top (p : List Int) : ∀ m, 0 < dn p m → ¬ nth p (dn p m) < nth p (dn p m - 1)
  | 0, h => by rw [dn_zero] at h; omega
  | m + 1, h => by
    by_cases hx : nth p (m + 1) < nth p m
    · rw [dn_yes p m hx] at *; exact dn_top p m h
    · rw [dn_no p m hx]; simpa using hx
theorem desc_far (p : List Int) (k n : Nat) (h : ∀ j, k ≤ j → j + 1 < n → nth p (j + 1) < nth p j) : ∀ d j, k ≤ j → j + d + 1 < n → nth p (j + d + 1) < nth p j
  | 0, j, h1, h2 => h j h1 h2
  | d + 1, j, h1, h2 => by
    have a := desc_far p k n h d j h1 (by omega)
    have b := h (j + d + 1) (by omega) (by omega)
    have e : j + (d + 1) + 1 = j + d + 1 + 1 := by omega
    rw [e]; omega
theorem desc_lt (p : List Int) (k n : Nat) (h : ∀ j, k ≤ j → j + 1 < n → nth p (j + 1) < nth p j) (i j : Nat) (h1 : k ≤ i) (h2 : i < j) (h3 : j < n) : nth p j < nth p i := by
  have := desc_far p k n h (j - i - 1) i h1 (by omega)
  rwa [show i + (j - i - 1) + 1 = j by omega] at this
/-! exchanges -/
theorem sw_nth (l : List Int) (i j a : Nat) (hi : i < l.length) (hj : j < l.length) : nth (sw l i j) a = if a = j then nth l i else if a = i then nth l j else nth l a := by
  unfold sw
  rw [nth_set _ _ _ _ (by simpa using hj), nth_set _ _ _ _ hi]
  simp only [eq_comm (a := a)]
theorem rv_nth (l : List Int) (k m : Nat) (hm : k + m ≤ l.length) : ∀ t, t ≤ m / 2 → ∀ a, nth (rv l k m t) a = if (k ≤ a ∧ a < k + t) ∨ (k + m - t ≤ a ∧ a < k + m) then nth l (k + (k + m) - 1 - a) else nth l a
  | 0, _, a => by
    rw [rv_zero, if_neg (by omega)]
  | t + 1, ht, a => by
    have ih := rv_nth l k m hm t (by omega)
    rw [rv_succ, sw_nth _ _ _ _ (by rw [rv_len]; omega) (by rw [rv_len]; omega)]
    by_cases h1 : a = k + (m - 1 - t)
    · rw [if_pos h1, ih (k + t), if_neg (by omega), if_pos (by omega)]
      congr 1; omega
    · rw [if_neg h1]
      by_cases h2 : a = k + t
      · rw [if_pos h2, ih (k + (m - 1 - t)), if_neg (by omega), if_pos (by omega)]
        congr 1; omega
      · rw [if_neg h2, ih a]
        by_cases h3 : (k ≤ a ∧ a < k + t) ∨ (k + m - t ≤ a ∧ a < k + m)
        · rw [if_pos h3, if_pos (by omega)]
        · rw [if_neg h3, if_neg (by omega)]
theorem rv_all (l : List Int) (k m : Nat) (hm : k + m ≤ l.length) (a : Nat) : nth (rv l k m (m / 2)) a = if k ≤ a ∧ a < k + m then nth l (k + (k + m) - 1 - a) else nth l a := by
  rw [rv_nth l k m hm (m / 2) (Nat.le_refl _) a]
  by_cases h : k ≤ a ∧ a < k + m
  · rw [if_pos h]
    by_cases h2 : (k ≤ a ∧ a < k + m / 2) ∨ (k + m - m / 2 ≤ a ∧ a < k + m)
    · rw [if_pos h2]
    · rw [if_neg h2]
      congr 1; omega
  · rw [if_neg h, if_neg (by omega)]
end Go.Proofs.Ytaobaiifbmhegaa.nt

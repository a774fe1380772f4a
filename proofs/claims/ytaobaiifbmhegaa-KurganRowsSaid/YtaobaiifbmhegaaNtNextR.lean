/-
  The order that comes next has one more ahead of it.
-/
import Derived.Test.YtaobaiifbmhegaaNtNextM
namespace Go.Proofs.Ytaobaiifbmhegaa.nt
set_option linter.unusedVariables false

theorem ok_ne {l : List Int} {n : Nat} (h : okTo l n) {x y : Nat} (hx : x < n) (hy : y < n) (hxy : x ≠ y) : nth l x ≠ nth l y := by
  rcases Nat.lt_or_ge x y with h1 | h1
  · exact h.2 x y h1 hy
  · exact fun e => h.2 y x (by omega) hx e.symm
theorem sw_ok {l : List Int} (h : okTo l l.length) (i j : Nat) (hi : i < l.length) (hj : j < l.length) : okTo (sw l i j) (sw l i j).length := by
  rw [sw_len]
  have hb : ∀ a, a < l.length → 0 ≤ nth (sw l i j) a ∧ nth (sw l i j) a < l.length := fun a ha => by
    rw [sw_nth l i j a hi hj]
    by_cases h1 : a = j
    · rw [if_pos h1]; exact h.1 i hi
    · rw [if_neg h1]
      by_cases h2 : a = i
      · rw [if_pos h2]; exact h.1 j hj
      · rw [if_neg h2]; exact h.1 a ha
  refine ⟨fun a ha => by rw [sw_len]; exact hb a ha, fun a b hab hb => ?_⟩
  rw [sw_nth l i j a hi hj, sw_nth l i j b hi hj]
  by_cases h1 : a = j
  · rw [if_pos h1, if_neg (by omega)]
    by_cases h2 : b = i
    · rw [if_pos h2]; exact ok_ne h hi hj (by omega)
    · rw [if_neg h2]; exact ok_ne h hi hb (by omega)
  · rw [if_neg h1]
    by_cases h2 : a = i
    · rw [if_pos h2]
      by_cases h3 : b = j
      · rw [if_pos h3]; exact ok_ne h hj hi (by omega)
      · rw [if_neg h3, if_neg (by omega)]; exact ok_ne h hj hb (by omega)
    · rw [if_neg h2]
      by_cases h3 : b = j
      · rw [if_pos h3]; exact ok_ne h (by omega) hi (by omega)
      · rw [if_neg h3]
        by_cases h4 : b = i
        · rw [if_pos h4]; exact ok_ne h (by omega) hj (by omega)
        · rw [if_neg h4]; exact ok_ne h (by omega) hb (by omega)
theorem rv_ok {l : List Int} (h : okTo l l.length) (k m : Nat) (hm : k + m ≤ l.length) : ∀ t, t ≤ m / 2 → okTo (rv l k m t) (rv l k m t).length
  | 0, _ => by rw [rv_zero]; exact h
  | t + 1, ht => by
    rw [rv_succ]
    exact sw_ok (rv_ok h k m hm t (by omega)) _ _ (by rw [rv_len]; omega) (by rw [rv_len]; omega)
theorem isP_perm {p q : List Int} (hp : isP p) (hq : isP q) (hl : p.length = q.length) : p.Perm q := by
  rw [List.perm_iff_count]
  intro a
  have fp := (perm_pig p.length p (isP_mem hp)).2 rfl
  have fq := (perm_pig q.length q (isP_mem hq)).2 rfl
  by_cases ha : 0 ≤ a ∧ a < p.length
  · have e : a = ((a.toNat : Nat) : Int) := by omega
    rw [e, hp _ (by omega), hq _ (by omega)]
  · rw [List.count_eq_zero_of_not_mem (fun h => ha (fp.2 a h)), List.count_eq_zero_of_not_mem (fun h => ha (by rw [hl]; exact fq.2 a h))]
theorem cl_app (v : Int) (l m : List Int) : cl v (l ++ m) = cl v l + cl v m := by
  unfold cl; rw [List.countP_append]; omega
/-- what stands ahead the same, and all of it the same: as many behind are less -/
theorem lsc_same {p q : List Int} (hp : p.Perm q) (a : Nat) (ha : a < p.length) (he : ∀ i, i ≤ a → nth q i = nth p i) : lsc q a (q.length - (a + 1)) = lsc p a (p.length - (a + 1)) := by
  have hl := hp.length_eq
  rw [lsc_all q a (by omega), lsc_all p a ha, he a (Nat.le_refl _)]
  have h1 := cl_perm (v := nth p a) hp
  have ht : p.take (a + 1) = q.take (a + 1) := by
    apply List.ext_getElem
    · simp; omega
    · intro i h1 h2
      have b1 : i ≤ a := by simp at h1; omega
      rw [List.getElem_take, List.getElem_take, ← nth_at p i (by omega), ← nth_at q i (by omega), he i b1]
  have h2 := cl_app (nth p a) (p.take (a + 1)) (p.drop (a + 1))
  have h3 := cl_app (nth p a) (q.take (a + 1)) (q.drop (a + 1))
  rw [List.take_append_drop] at h2 h3
  rw [ht] at h2
  omega
theorem fj_spec (l : List Int) (k : Nat) (x : Int) : ∀ f j, j ≤ fj l k x f j ∧ fj l k x f j ≤ j + f ∧ (∀ i, j ≤ i → i < fj l k x f j → ¬ x < nth l (k + i)) ∧ (fj l k x f j < j + f → x < nth l (k + fj l k x f j))
  | 0, j => by rw [fj_zero]; exact ⟨by omega, by omega, fun i h1 h2 => absurd h2 (by omega), fun h => absurd h (by omega)⟩
  | f + 1, j => by
    by_cases h : x < nth l (k + j)
    · rw [fj_yes l k x f j h]; exact ⟨by omega, by omega, fun i h1 h2 => absurd h2 (by omega), fun _ => h⟩
    · rw [fj_no l k x f j h]
      obtain ⟨a, b, c, d⟩ := fj_spec l k x f (j + 1)
      refine ⟨by omega, by omega, fun i h1 h2 => ?_, fun h3 => d (by omega)⟩
      rcases Nat.eq_or_lt_of_le h1 with h4 | h4
      · subst h4; exact h
      · exact c i h4 h2
theorem lsc_from (p : List Int) (k T : Nat) : ∀ m, (∀ i, i < m → (nth p (k + 1 + i) < nth p k ↔ T ≤ i)) → lsc p k m = ((m - T : Nat) : Int)
  | 0, _ => by rw [lsc_zero]; omega
  | m + 1, h => by
    have ih := lsc_from p k T m (fun i hi => h i (by omega))
    by_cases hx : T ≤ m
    · rw [lsc_yes p k m ((h m (by omega)).2 hx), ih]; omega
    · rw [lsc_no p k m (fun hh => hx ((h m (by omega)).1 hh)), ih]; omega
theorem lsc_upto (p : List Int) (k T : Nat) : ∀ m, (∀ i, i < m → (nth p (k + 1 + i) < nth p k ↔ i < T)) → lsc p k m = ((min m T : Nat) : Int)
  | 0, _ => by rw [lsc_zero]; omega
  | m + 1, h => by
    have ih := lsc_upto p k T m (fun i hi => h i (by omega))
    by_cases hx : m < T
    · rw [lsc_yes p k m ((h m (by omega)).2 hx), ih]; omega
    · rw [lsc_no p k m (fun hh => hx ((h m (by omega)).1 hh)), ih]; omega
/-- the last order of all falls -/
theorem last_falls {p : List Int} (h : isP p) (hk : dn p (p.length - 1) = 0) (j : Nat) (hj : j < p.length) : nth p j = ((p.length - 1 - j : Nat) : Int) := by
  have ok := isP_ok h
  have d : ∀ j, j + 1 < p.length → nth p (j + 1) < nth p j := fun j hj => dn_desc p (p.length - 1) j (by omega) (by omega)
  have up : ∀ j, j < p.length → nth p j + j + 1 ≤ p.length := by
    intro j
    induction j with
    | zero => intro hj; have := (ok.1 0 hj).2; omega
    | succ j ih => intro hj; have := ih (by omega); have := d j hj; omega
  have dw : ∀ t j, j + t + 1 = p.length → (t : Int) ≤ nth p j := by
    intro t
    induction t with
    | zero => intro j hj; have := (ok.1 j (by omega)).1; omega
    | succ t ih => intro j hj; have := ih (j + 1) (by omega); have := d j (by omega); omega
  have := up j hj
  have := dw (p.length - 1 - j) j (by omega)
  omega
theorem rk_next {p : List Int} (h : isP p) (k : Nat) (hK : dn p (p.length - 1) = k + 1) :
    isP (nextB p (k + 1)) ∧ (nextB p (k + 1)).length = p.length ∧ rk (nextB p (k + 1)) p.length p.length = rk p p.length p.length + 1 := by
  have ok := isP_ok h
  have hle := dn_le p (p.length - 1)
  rw [hK] at hle
  have hkn : k + 1 < p.length := by omega
  have desc : ∀ i j, k + 1 ≤ i → i < j → j < p.length → nth p j < nth p i := fun i j h1 h2 h3 =>
    desc_lt p (k + 1) p.length (fun j h1 h2 => dn_desc p (p.length - 1) j (by rw [hK]; exact h1) (by omega)) i j h1 h2 h3
  have top : nth p k < nth p (k + 1) := by
    have := dn_top p (p.length - 1) (by omega)
    rw [hK] at this
    have h2 := ok_ne ok (show k < p.length by omega) hkn (by omega)
    simp only [Nat.add_sub_cancel] at this
    omega
  have hM : k + 1 + (p.length - (k + 1)) ≤ p.length := by omega
  have A : ∀ a, nth (nextA p (k + 1)) a = if k + 1 ≤ a ∧ a < p.length then nth p (k + p.length - a) else nth p a := fun a => by
    unfold nextA
    rw [rv_all p (k + 1) _ hM a]
    rw [show k + 1 + (p.length - (k + 1)) = p.length by omega, show k + 1 + p.length - 1 - a = k + p.length - a by omega]
  have Ak : nth (nextA p (k + 1)) k = nth p k := by rw [A, if_neg (by omega)]
  have okA : okTo (nextA p (k + 1)) (nextA p (k + 1)).length := by unfold nextA; exact rv_ok ok _ _ hM _ (Nat.le_refl _)
  have lA := nextA_len p (k + 1)
  obtain ⟨s1, s2, s3, s4⟩ := fj_spec (nextA p (k + 1)) (k + 1) (nth p k) (p.length - (k + 1)) 0
  have eJ : nextJ p (k + 1) = fj (nextA p (k + 1)) (k + 1) (nth p k) (p.length - (k + 1)) 0 := by unfold nextJ; rw [Nat.add_sub_cancel, Ak]
  rw [← eJ] at s1 s2 s3 s4
  have hB : nextB p (k + 1) = if nextJ p (k + 1) < p.length - (k + 1) then sw (nextA p (k + 1)) k (k + 1 + nextJ p (k + 1)) else nextA p (k + 1) := by unfold nextB; rw [Nat.add_sub_cancel]
  generalize hJJ : nextJ p (k + 1) = J at *
  have hJ : J < p.length - (k + 1) := by
    rcases Nat.lt_or_ge J (p.length - (k + 1)) with hh | hh
    · exact hh
    · have := s3 (p.length - (k + 1) - 1) (by omega) (by omega)
      rw [A, if_pos (by omega), show k + p.length - (k + 1 + (p.length - (k + 1) - 1)) = k + 1 by omega] at this
      omega
  rw [if_pos hJ] at hB
  have hy := s4 (by omega)
  have okB : okTo (nextB p (k + 1)) (nextB p (k + 1)).length := by rw [hB]; exact sw_ok okA _ _ (by omega) (by omega)
  have lB : (nextB p (k + 1)).length = p.length := by rw [hB, sw_len, lA]
  have B : ∀ a, nth (nextB p (k + 1)) a = if a = k + 1 + J then nth p k else if a = k then nth (nextA p (k + 1)) (k + 1 + J) else nth (nextA p (k + 1)) a := fun a => by
    rw [hB, sw_nth _ _ _ _ (by omega) (by omega), Ak]
  have iB := ok_isP okB
  have pm := isP_perm h iB lB.symm
  generalize nextB p (k + 1) = b at *
  refine ⟨iB, lB, ?_⟩
  have e0 : ∀ i, i < k → nth b i = nth p i := fun i hi => by rw [B, if_neg (by omega), if_neg (by omega), A, if_neg (by omega)]
  -- A rises
  have rise : ∀ i j, k + 1 ≤ i → i < j → j < p.length → nth (nextA p (k + 1)) i < nth (nextA p (k + 1)) j := fun i j h1 h2 h3 => by
    rw [A i, A j, if_pos (by omega), if_pos (by omega)]
    exact desc _ _ (by omega) (by omega) (by omega)
  have hyA : nth p k < nth (nextA p (k + 1)) (k + 1 + J) := hy
  have lo : ∀ i, i < J → ¬ nth p k < nth (nextA p (k + 1)) (k + 1 + i) := fun i hi => s3 i (by omega) hi
  have r0 : ∀ a, a ≤ k → rk b p.length a = rk p p.length a := by
    intro a
    induction a with
    | zero => intro _; rw [rk_zero, rk_zero]
    | succ a ih =>
      intro ha
      have := lsc_same pm a (by omega) (fun i hi => e0 i (by omega))
      rw [lB] at this
      rw [rk_succ, rk_succ, ih (by omega), this]
  have dp : lsc p k (p.length - (k + 1)) = ((p.length - (k + 1) - (p.length - (k + 1) - J) : Nat) : Int) := lsc_from p k (p.length - (k + 1) - J) _ (fun i hi => by
    have ea : nth (nextA p (k + 1)) (p.length - 1 - i) = nth p (k + 1 + i) := by rw [A, if_pos (by omega), show k + p.length - (p.length - 1 - i) = k + 1 + i by omega]
    constructor
    · intro hx
      rcases Nat.lt_or_ge i (p.length - (k + 1) - J) with hh | hh
      · exfalso
        rw [← ea] at hx
        rcases Nat.eq_or_lt_of_le (show k + 1 + J ≤ p.length - 1 - i by omega) with h5 | h5
        · rw [← h5] at hx; omega
        · have := rise _ _ (by omega) h5 (by omega); omega
      · exact hh
    · intro hh
      have := lo (p.length - 1 - i - (k + 1)) (by omega)
      rw [show k + 1 + (p.length - 1 - i - (k + 1)) = p.length - 1 - i by omega, ea] at this
      have := ok_ne ok (show k < p.length by omega) (show k + 1 + i < p.length by omega) (by omega)
      omega)
  have db : lsc b k (p.length - (k + 1)) = ((min (p.length - (k + 1)) (J + 1) : Nat) : Int) := lsc_upto b k (J + 1) _ (fun i hi => by
    have ek : nth b k = nth (nextA p (k + 1)) (k + 1 + J) := by rw [B, if_neg (by omega), if_pos rfl]
    rw [ek, B]
    by_cases h1 : k + 1 + i = k + 1 + J
    · rw [if_pos h1]; exact ⟨fun _ => by omega, fun _ => hyA⟩
    · rw [if_neg h1, if_neg (by omega)]
      constructor
      · intro hx
        rcases Nat.lt_or_ge i (J + 1) with hh | hh
        · exact hh
        · have := rise (k + 1 + J) (k + 1 + i) (by omega) (by omega) (by omega); omega
      · intro hh
        exact rise _ _ (by omega) (by omega) (by omega))
  have r1 : ∀ t, k + 1 + t ≤ p.length → rk b p.length (k + 1 + t) = rk p p.length (k + 1 + t) + 1 := by
    intro t
    induction t with
    | zero => intro _; rw [Nat.add_zero, rk_succ, rk_succ, r0 k (Nat.le_refl _), dp, db]; omega
    | succ t ih =>
      intro ht
      have fp := lsc_full p (k + 1 + t) (p.length - (k + 1 + t + 1)) (fun i hi => desc _ _ (by omega) (by omega) (by omega))
      have fb := lsc_none b (k + 1 + t) (p.length - (k + 1 + t + 1)) (fun i hi => by
        rw [B, B]
        by_cases h1 : k + 1 + t + 1 + i = k + 1 + J
        · rw [if_pos h1, if_neg (by omega), if_neg (by omega)]
          have := lo t (by omega); omega
        · rw [if_neg h1, if_neg (by omega)]
          by_cases h2 : k + 1 + t = k + 1 + J
          · rw [if_pos h2]
            have := rise (k + 1 + J) (k + 1 + t + 1 + i) (by omega) (by omega) (by omega); omega
          · rw [if_neg h2, if_neg (by omega)]
            have := rise (k + 1 + t) (k + 1 + t + 1 + i) (by omega) (by omega) (by omega); omega)
      rw [show k + 1 + (t + 1) = (k + 1 + t) + 1 by omega, rk_succ, rk_succ, ih (by omega), fp, fb, Int.add_mul]
      omega
  have := r1 (p.length - (k + 1)) (by omega)
  rwa [show k + 1 + (p.length - (k + 1)) = p.length by omega] at this
end Go.Proofs.Ytaobaiifbmhegaa.nt

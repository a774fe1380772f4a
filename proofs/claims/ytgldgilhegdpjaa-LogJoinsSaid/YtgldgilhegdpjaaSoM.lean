/-
  What a merge does.
-/
import Derived.Test.YtgldgilhegdpjaaSoR
namespace Go.Proofs.Ytgldgilhegdpjaa.so
open Go.RowKit
set_option linter.unusedVariables false
variable {TB : Tb}
theorem rotM_at {T l : List Int} {m i j : Nat} (h : RotM T l m i j) (x : Nat) : nth T x = if m - i ≤ x ∧ x < m - i + j then nth l (x + i) else if m - i + j ≤ x ∧ x < m + j then nth l (x - j) else nth l x := by
  unfold RotM at h; exact h x
theorem rotM_of {T l : List Int} {m i j : Nat} (h : ∀ x, nth T x = if m - i ≤ x ∧ x < m - i + j then nth l (x + i) else if m - i + j ≤ x ∧ x < m + j then nth l (x - j) else nth l x) : RotM T l m i j := by
  unfold RotM; exact h
/-- ranks rise from a up to b -/
def Up (K : Int → Int) (l : List Int) (a b : Nat) : Prop := ∀ x y, a ≤ x → x < y → y < b → K (nth l x) < K (nth l y)
/-- what stands ahead of m is less than what stands from m on -/
def Lows (l : List Int) (a m b : Nat) : Prop := ∀ x y, a ≤ x → x < m → m ≤ y → y < b → nth l x < nth l y
/-- from a up to b the same numbers stand, elsewhere nothing has changed -/
def Sm (T l : List Int) (a b : Nat) : Prop :=
  (∀ x, ¬ (a ≤ x ∧ x < b) → nth T x = nth l x) ∧ (∀ x, a ≤ x → x < b → ∃ y, a ≤ y ∧ y < b ∧ nth T x = nth l y) ∧ (∀ y, a ≤ y → y < b → ∃ x, a ≤ x ∧ x < b ∧ nth T x = nth l y)
theorem Up.le {K : Int → Int} {l : List Int} {a b x y : Nat} (h : Up K l a b) (h1 : a ≤ x) (h2 : x ≤ y) (h3 : y < b) : K (nth l x) ≤ K (nth l y) := by
  rcases Nat.lt_or_ge x y with q | q
  · exact Int.le_of_lt (h x y h1 q h3)
  · obtain rfl : x = y := by omega
    exact Int.le_refl _
theorem Up.sub {K : Int → Int} {l : List Int} {a b a' b' : Nat} (h : Up K l a b) (h1 : a ≤ a') (h2 : b' ≤ b) : Up K l a' b' := fun x y p q r => h x y (by omega) q (by omega)
theorem Up.congr {K : Int → Int} {l T : List Int} {a b : Nat} (h : Up K l a b) (e : ∀ x, a ≤ x → x < b → nth T x = nth l x) : Up K T a b := fun x y p q r => by
  rw [e x (by omega) (by omega), e y (by omega) (by omega)]; exact h x y p q r
theorem Up.short {K : Int → Int} {l : List Int} {a b : Nat} (h : b ≤ a + 1) : Up K l a b := fun x y p q r => by omega
theorem Sm.refl (l : List Int) (a b : Nat) : Sm l l a b := ⟨fun _ _ => rfl, fun x h1 h2 => ⟨x, h1, h2, rfl⟩, fun y h1 h2 => ⟨y, h1, h2, rfl⟩⟩
theorem Sm.wide {T l : List Int} {a b a' b' : Nat} (h : Sm T l a b) (h1 : a' ≤ a) (h2 : b ≤ b') : Sm T l a' b' := by
  obtain ⟨p, q, r⟩ := h
  refine ⟨fun x hx => p x (by omega), fun x x1 x2 => ?_, fun y y1 y2 => ?_⟩
  · by_cases hx : a ≤ x ∧ x < b
    · obtain ⟨y, y1, y2, e⟩ := q x hx.1 hx.2
      exact ⟨y, by omega, by omega, e⟩
    · exact ⟨x, x1, x2, p x hx⟩
  · by_cases hy : a ≤ y ∧ y < b
    · obtain ⟨x, x1, x2, e⟩ := r y hy.1 hy.2
      exact ⟨x, by omega, by omega, e⟩
    · exact ⟨y, y1, y2, p y hy⟩
theorem Sm.trans {U T l : List Int} {a b : Nat} (h : Sm U T a b) (k : Sm T l a b) : Sm U l a b := by
  refine ⟨fun x hx => (h.1 x hx).trans (k.1 x hx), fun x x1 x2 => ?_, fun y y1 y2 => ?_⟩
  · obtain ⟨y, y1, y2, e⟩ := h.2.1 x x1 x2
    obtain ⟨z, z1, z2, e2⟩ := k.2.1 y y1 y2
    exact ⟨z, z1, z2, e.trans e2⟩
  · obtain ⟨x, x1, x2, e⟩ := k.2.2 y y1 y2
    obtain ⟨z, z1, z2, e2⟩ := h.2.2 x x1 x2
    exact ⟨z, z1, z2, e2.trans e⟩
theorem Sm.rng {T l : List Int} {a b n : Nat} (h : Sm T l a b) (hb : b ≤ n) (hr : Rng n l) : Rng n T := fun x hx => by
  by_cases q : a ≤ x ∧ x < b
  · obtain ⟨y, y1, y2, e⟩ := h.2.1 x q.1 q.2
    rw [e]; exact hr y (by omega)
  · rw [h.1 x q]; exact hr x hx
theorem rot_sm {T l : List Int} {a b s i j : Nat} (h : RotM T l (s + i) i j) (ha : a ≤ s) (hb : s + i + j ≤ b) : Sm T l a b := by
  have hs : s + i - i = s := by omega
  refine ⟨fun x hx => ?_, fun x x1 x2 => ?_, fun y y1 y2 => ?_⟩
  · rw [rotM_at h x, hs, if_neg (by omega), if_neg (by omega)]
  · rw [rotM_at h x, hs]
    split
    · exact ⟨x + i, by omega, by omega, rfl⟩
    · split
      · exact ⟨x - j, by omega, by omega, rfl⟩
      · exact ⟨x, x1, x2, rfl⟩
  · by_cases q1 : s ≤ y ∧ y < s + i
    · refine ⟨y + j, by omega, by omega, ?_⟩
      rw [rotM_at h, hs, if_neg (by omega), if_pos (by omega)]
      congr 1; omega
    · by_cases q2 : s + i ≤ y ∧ y < s + i + j
      · refine ⟨y - i, by omega, by omega, ?_⟩
        rw [rotM_at h, hs, if_pos (by omega)]
        congr 1; omega
      · refine ⟨y, y1, y2, ?_⟩
        rw [rotM_at h, hs, if_neg (by omega), if_neg (by omega)]
/-- what a rotation at the right place leaves: two halves to merge, the first one below the second one -/
structure Half (K : Int → Int) (l T : List Int) (a s i j b : Nat) : Prop where
  sm : Sm T l a b
  u1 : Up K T a s
  u2 : Up K T s (s + j)
  l1 : Lows T a s (s + j)
  u3 : Up K T (s + j) (s + i + j)
  u4 : Up K T (s + i + j) b
  l2 : Lows T (s + j) (s + i + j) b
  x : ∀ x y, a ≤ x → x < s + j → s + j ≤ y → y < b → K (nth T x) < K (nth T y)
theorem half {K : Int → Int} {l T : List Int} {a s i j b : Nat} (ha : a ≤ s) (hb : s + i + j ≤ b) (h : RotM T l (s + i) i j) (h1 : Up K l a (s + i)) (h2 : Up K l (s + i) b) (hl : Lows l a (s + i) b)
    (c1 : a < s → s + i + j < b → K (nth l (s - 1)) < K (nth l (s + i + j))) (c2 : 0 < i → 0 < j → K (nth l (s + i + j - 1)) < K (nth l s)) : Half K l T a s i j b := by
  have hs : s + i - i = s := by omega
  have t1 : ∀ x, x < s → nth T x = nth l x := fun x hx => by rw [rotM_at h, hs, if_neg (by omega), if_neg (by omega)]
  have t2 : ∀ x, s ≤ x → x < s + j → nth T x = nth l (x + i) := fun x h1 h2 => by rw [rotM_at h, hs, if_pos (by omega)]
  have t3 : ∀ x, s + j ≤ x → x < s + i + j → nth T x = nth l (x - j) := fun x h1 h2 => by rw [rotM_at h, hs, if_neg (by omega), if_pos (by omega)]
  have t4 : ∀ x, s + i + j ≤ x → nth T x = nth l x := fun x hx => by rw [rotM_at h, hs, if_neg (by omega), if_neg (by omega)]
  refine ⟨rot_sm h ha hb, ?_, ?_, ?_, ?_, ?_, ?_, ?_⟩
  · intro x y p q r; rw [t1 x (by omega), t1 y (by omega)]; exact h1 x y p q (by omega)
  · intro x y p q r; rw [t2 x (by omega) (by omega), t2 y (by omega) (by omega)]; exact h2 _ _ (by omega) (by omega) (by omega)
  · intro x y p q r s'; rw [t1 x (by omega), t2 y (by omega) (by omega)]; exact hl _ _ (by omega) (by omega) (by omega) (by omega)
  · intro x y p q r; rw [t3 x (by omega) (by omega), t3 y (by omega) (by omega)]; exact h1 _ _ (by omega) (by omega) (by omega)
  · intro x y p q r; rw [t4 x (by omega), t4 y (by omega)]; exact h2 _ _ (by omega) (by omega) (by omega)
  · intro x y p q r s'; rw [t3 x (by omega) (by omega), t4 y (by omega)]; exact hl _ _ (by omega) (by omega) (by omega) (by omega)
  · intro x y p q r s'
    by_cases x1 : x < s
    · rw [t1 x x1]
      by_cases y1 : y < s + i + j
      · rw [t3 y (by omega) y1]; exact h1 _ _ (by omega) (by omega) (by omega)
      · rw [t4 y (by omega)]
        have e1 := h1.le (x := x) (y := s - 1) p (by omega) (by omega)
        have e2 := c1 (by omega) (by omega)
        have e3 := h2.le (x := s + i + j) (y := y) (by omega) (by omega) s'
        omega
    · rw [t2 x (by omega) q]
      by_cases y1 : y < s + i + j
      · rw [t3 y (by omega) y1]
        have e1 := h2.le (x := x + i) (y := s + i + j - 1) (by omega) (by omega) (by omega)
        have e2 := c2 (by omega) (by omega)
        have e3 := h1.le (x := s) (y := y - j) (by omega) (by omega) (by omega)
        omega
      · rw [t4 y (by omega)]; exact h2 _ _ (by omega) (by omega) (by omega)
theorem half_end {K : Int → Int} {l T U V : List Int} {a s i j b : Nat} (h : Half K l T a s i j b) (ha : a ≤ s) (hb : s + i + j ≤ b) (s1 : Sm U T a (s + j)) (u1 : Up K U a (s + j)) (s2 : Sm V U (s + j) b) (u2 : Up K V (s + j) b) : Sm V l a b ∧ Up K V a b := by
  refine ⟨((s2.wide (by omega) (Nat.le_refl _)).trans (s1.wide (Nat.le_refl _) (by omega))).trans h.sm, fun x y p q r => ?_⟩
  by_cases x1 : x < s + j
  · by_cases y1 : y < s + j
    · rw [s2.1 x (by omega), s2.1 y (by omega)]; exact u1 x y p q y1
    · rw [s2.1 x (by omega)]
      obtain ⟨y', y2, y3, e⟩ := s2.2.1 y (by omega) r
      obtain ⟨x', x2, x3, e2⟩ := s1.2.1 x p x1
      rw [e, e2, s1.1 y' (by omega)]
      exact h.x x' y' x2 x3 y2 y3
  · exact u2 x y (by omega) q r
/-- the comparison tells, of a number and a greater one, which one has the lower rank -/
def Cmpt (c : Int → Int → Int) (k : Int → Int) (n : Nat) : Prop := ∀ x y : Int, 0 ≤ x → x < y → y < n → (c y x < 0 ↔ k y < k x) ∧ k x ≠ k y
theorem Cmpt.lt {c : Int → Int → Int} {k : Int → Int} {n : Nat} (h : Cmpt c k n) {x y : Int} (h0 : 0 ≤ x) (h1 : x < y) (h2 : y < n) (hc : c y x < 0) : k y < k x := (h x y h0 h1 h2).1.1 hc
theorem Cmpt.ge {c : Int → Int → Int} {k : Int → Int} {n : Nat} (h : Cmpt c k n) {x y : Int} (h0 : 0 ≤ x) (h1 : x < y) (h2 : y < n) (hc : ¬ c y x < 0) : k x < k y := by
  have e := h x y h0 h1 h2
  have := fun q => hc (e.1.2 q)
  have := e.2
  omega
theorem insIn_rot (c : Int → Int → Int) (a k : Nat) (l : List Int) (hk : k < l.length) : ∀ (j : Nat) (cur : List Int), cur.length = l.length → a ≤ j → j ≤ k → RotM cur l k (k - j) 1 → (∀ q, j ≤ q → q < k → c (nth l k) (nth l q) < 0) →
    ∃ p, a ≤ p ∧ p ≤ k ∧ RotM (insIn c a j cur) l k (k - p) 1 ∧ (∀ q, p ≤ q → q < k → c (nth l k) (nth l q) < 0) ∧ (a < p → ¬ c (nth l k) (nth l (p - 1)) < 0)
  | 0, cur, hl, ha, hj, hr, hq => ⟨0, ha, hj, by rw [insIn_low c a 0 cur (by omega)]; exact hr, hq, fun h => by omega⟩
  | j + 1, cur, hl, ha, hj, hr, hq => by
    have e1 : nth cur (j + 1) = nth l k := by rw [rotM_at hr, if_pos (by omega)]; congr 1; omega
    have e2 : nth cur j = nth l j := by rw [rotM_at hr, if_neg (by omega), if_neg (by omega)]
    by_cases h1 : a ≤ j ∧ c (nth cur (j + 1)) (nth cur j) < 0
    · rw [insIn_yes c a j cur h1.1 h1.2]
      refine insIn_rot c a k l hk j (swp cur j) (by unfold swp; simp [hl]) h1.1 (by omega) (rotM_of fun x => ?_) (fun q q1 q2 => ?_)
      · unfold swp
        rw [nth_set _ _ _ _ (by simp; omega), nth_set _ _ _ _ (by omega), e1, e2, rotM_at hr x]
        by_cases x1 : j = x
        · subst x1
          rw [if_pos rfl, if_pos (by omega)]
          congr 1; omega
        · rw [if_neg x1]
          by_cases x2 : j + 1 = x
          · subst x2
            rw [if_pos rfl, if_neg (by omega), if_pos (by omega)]
            congr 1
          · rw [if_neg x2]
            repeat' split
            all_goals first | (exfalso; omega) | rfl
      · by_cases q3 : q = j
        · subst q3; rw [← e1, ← e2]; exact h1.2
        · exact hq q (by omega) q2
    · rw [insIn_no c a j cur h1]
      refine ⟨j + 1, ha, hj, hr, hq, fun h => ?_⟩
      rw [← e1, show j + 1 - 1 = j by omega, ← e2]
      exact fun hc => h1 ⟨by omega, hc⟩
theorem ins_up {c : Int → Int → Int} {K : Int → Int} {n : Nat} (hc : Cmpt c K n) (a : Nat) (l : List Int) (hn : l.length = n) (hr : Rng n l) : ∀ (d i : Nat) (cur : List Int), cur.length = n → a ≤ i → i + d ≤ n → Sm cur l a i → Up K cur a i → (∀ x y, a ≤ x → x < y → y < i + d → nth l x < nth l y) →
    Sm (insOut c a d i cur) l a (i + d) ∧ Up K (insOut c a d i cur) a (i + d)
  | 0, i, cur, hl, hi, hd, hs, hu, hx => by rw [insOut_zero]; exact ⟨hs, hu⟩
  | d + 1, i, cur, hl, hi, hd, hs, hu, hx => by
    rw [insOut_succ, show i + (d + 1) = i + 1 + d by omega]
    have ei : nth cur i = nth l i := hs.1 i (by omega)
    have hcr := hs.rng (by omega) hr
    have hlow : Lows cur a i (i + 1) := fun x y h1 h2 h3 h4 => by
      obtain ⟨z, z1, z2, e⟩ := hs.2.1 x h1 h2
      obtain rfl : y = i := by omega
      rw [e, ei]; exact hx z y z1 z2 (by omega)
    obtain ⟨p, p1, p2, hrot, hq, hp⟩ := insIn_rot c a i cur (by omega) i cur rfl hi (Nat.le_refl _) (rotM_of fun x => by
      repeat' split
      all_goals first | (congr 1; omega) | rfl) (fun q h1 h2 => by omega)
    obtain ⟨t, rfl⟩ : ∃ t, i = p + t := ⟨i - p, by omega⟩
    rw [show p + t - p = t by omega] at hrot
    have hh := half (b := p + t + 1) p1 (Nat.le_refl _) hrot hu (Up.short (by omega)) hlow (fun _ h => by omega) (fun h _ => by
      rw [show p + t + 1 - 1 = p + t by omega]
      exact hc.lt (hcr p (by omega)).1 (hlow p _ p1 (by omega) (by omega) (by omega)) (hcr _ (by omega)).2 (hq p (Nat.le_refl _) (by omega)))
    have hT : Up K (insIn c a (p + t) cur) a (p + 1) := fun x y h1 h2 h3 => by
      by_cases hy : y < p
      · exact hh.u1 x y h1 h2 hy
      · obtain rfl : y = p := by omega
        have e1 := hh.u1.le (x := x) (y := y - 1) h1 (by omega) (by omega)
        have t1 : nth (insIn c a (y + t) cur) (y - 1) = nth cur (y - 1) := by rw [rotM_at hrot, if_neg (by omega), if_neg (by omega)]
        have t2 : nth (insIn c a (y + t) cur) y = nth cur (y + t) := by rw [rotM_at hrot, if_pos (by omega)]
        rw [t1] at e1
        rw [t2]
        have := hc.ge (hcr (y - 1) (by omega)).1 (hlow (y - 1) (y + t) (by omega) (by omega) (by omega) (by omega)) (hcr _ (by omega)).2 (hp (by omega))
        omega
    have hF := half_end hh p1 (Nat.le_refl _) (Sm.refl _ _ _) hT (Sm.refl _ _ _) hh.u3
    exact ins_up hc a l hn hr d (p + t + 1) _ (by rw [insIn_len, hl]) (by omega) (by omega) (hF.1.trans (hs.wide (Nat.le_refl _) (by omega))) hF.2 (fun x y h1 h2 h3 => hx x y h1 h2 (by omega))
/-- the two halves' merge where the first one has one number: i is the place behind those that go ahead of it -/
theorem one_left {c : Int → Int → Int} {K : Int → Int} {n : Nat} (hc : Cmpt c K n) {l T : List Int} {a b i : Nat} (hr : Rng n l) (hb : b ≤ n) (hi1 : a + 1 ≤ i) (hi2 : i ≤ b) (hu : Up K l (a + 1) b) (hl : Lows l a (a + 1) b)
    (g1 : a + 1 < i → c (nth l (i - 1)) (nth l a) < 0) (g2 : i < b → ¬ c (nth l i) (nth l a) < 0) (h : RotM T l (a + 1) 1 (i - (a + 1))) : Sm T l a b ∧ Up K T a b := by
  obtain ⟨j, rfl⟩ : ∃ j, i = a + 1 + j := ⟨i - (a + 1), by omega⟩
  rw [show a + 1 + j - (a + 1) = j by omega] at h
  have hh := half (s := a) (i := 1) (j := j) (b := b) (K := K) (Nat.le_refl _) hi2 h (Up.short (by omega)) hu hl (fun h => by omega) (fun _ hj => by
    rw [show a + 1 + j - 1 = a + 1 + j - 1 from rfl]
    exact hc.lt (hr a (by omega)).1 (hl a _ (Nat.le_refl _) (by omega) (by omega) (by omega)) (hr _ (by omega)).2 (g1 (by omega)))
  have t1 : nth T (a + j) = nth l a := by rw [rotM_at h, if_neg (by omega), if_pos (by omega)]; congr 1; omega
  refine half_end hh (Nat.le_refl _) hi2 (Sm.refl _ _ _) hh.u2 (Sm.refl _ _ _) (fun x y p q r => ?_)
  by_cases hx : x < a + 1 + j
  · obtain rfl : x = a + j := by omega
    have e1 := hh.u4.le (x := a + 1 + j) (y := y) (by omega) (by omega) r
    have t2 : nth T (a + 1 + j) = nth l (a + 1 + j) := by rw [rotM_at h, if_neg (by omega), if_neg (by omega)]
    have := hc.ge (hr a (by omega)).1 (hl a (a + 1 + j) (Nat.le_refl _) (by omega) (by omega) (by omega)) (hr _ (by omega)).2 (g2 (by omega))
    rw [t1]; rw [t2] at e1; omega
  · exact hh.u4 x y (by omega) q r
/-- .. where the second one has one number: i is its place -/
theorem one_right {c : Int → Int → Int} {K : Int → Int} {n : Nat} (hc : Cmpt c K n) {l T : List Int} {a m i : Nat} (hr : Rng n l) (hb : m + 1 ≤ n) (hi1 : a ≤ i) (hi2 : i ≤ m) (hu : Up K l a m) (hl : Lows l a m (m + 1))
    (g1 : a < i → ¬ c (nth l m) (nth l (i - 1)) < 0) (g2 : i < m → c (nth l m) (nth l i) < 0) (h : RotM T l m (m - i) 1) : Sm T l a (m + 1) ∧ Up K T a (m + 1) := by
  obtain ⟨t, rfl⟩ : ∃ t, m = i + t := ⟨m - i, by omega⟩
  rw [show i + t - i = t by omega] at h
  have hh := half (s := i) (i := t) (j := 1) (b := i + t + 1) (K := K) hi1 (Nat.le_refl _) h hu (Up.short (by omega)) hl (fun _ h => by omega) (fun ht _ => by
    rw [show i + t + 1 - 1 = i + t by omega]
    exact hc.lt (hr i (by omega)).1 (hl i _ hi1 (by omega) (by omega) (by omega)) (hr _ (by omega)).2 (g2 (by omega)))
  refine half_end hh hi1 (Nat.le_refl _) (Sm.refl _ _ _) (fun x y h1 h2 h3 => ?_) (Sm.refl _ _ _) hh.u3
  by_cases hy : y < i
  · exact hh.u1 x y h1 h2 hy
  · obtain rfl : y = i := by omega
    have e1 := hh.u1.le (x := x) (y := y - 1) h1 (by omega) (by omega)
    have t1 : nth T (y - 1) = nth l (y - 1) := by rw [rotM_at h, if_neg (by omega), if_neg (by omega)]
    have t2 : nth T y = nth l (y + t) := by rw [rotM_at h, if_pos (by omega)]
    rw [t1] at e1
    rw [t2]
    have := hc.ge (hr (y - 1) (by omega)).1 (hl (y - 1) (y + t) (by omega) (by omega) (by omega) (by omega)) (hr _ (by omega)).2 (g1 (by omega))
    omega
/-- .. where both have more -/
theorem both_half {c : Int → Int → Int} {K : Int → Int} {n : Nat} (hc : Cmpt c K n) {l T : List Int} {a m b mid s lo hi : Nat} (hr : Rng n l) (hb : b ≤ n) (ha : a < m) (hm : m < b) (hmid : mid = (a + b) / 2)
    (hlo : lo = if mid < m then mid + m - b else a) (hhi : hi = if mid < m then mid else m) (s1 : lo ≤ s) (s2 : s ≤ hi) (h1 : Up K l a m) (h2 : Up K l m b) (hl : Lows l a m b)
    (g1 : lo < s → ¬ c (nth l (mid + m - 1 - (s - 1))) (nth l (s - 1)) < 0) (g2 : s < hi → c (nth l (mid + m - 1 - s)) (nth l s) < 0) (h : RotM T l m (m - s) (mid + m - s - m)) :
    a ≤ s ∧ s ≤ m ∧ s ≤ mid ∧ m ≤ mid + m - s ∧ mid + m - s ≤ b ∧ Half K l T a s (m - s) (mid - s) b := by
  have hsm : s ≤ m := by split at hhi <;> omega
  have has : a ≤ s := by split at hlo <;> omega
  have hsd : s ≤ mid := by split at hhi <;> omega
  have he : mid + m - s ≤ b := by split at hlo <;> omega
  refine ⟨has, hsm, hsd, by omega, he, ?_⟩
  obtain ⟨i, rfl⟩ : ∃ i, m = s + i := ⟨m - s, by omega⟩
  obtain ⟨j, hj⟩ : ∃ j, mid = s + j := ⟨mid - s, by omega⟩
  have e1 : s + i - s = i := by omega
  have e2 : mid - s = j := by omega
  rw [e1, show mid + (s + i) - s - (s + i) = j by omega] at h
  rw [e1, e2]
  refine half has (by omega) h h1 h2 hl (fun q1 q2 => ?_) (fun q1 q2 => ?_)
  · have hls : lo < s := by split at hlo <;> omega
    have := g1 hls
    rw [show mid + (s + i) - 1 - (s - 1) = s + i + j by omega] at this
    exact hc.ge (hr (s - 1) (by omega)).1 (hl (s - 1) (s + i + j) (by omega) (by omega) (by omega) (by omega)) (hr _ (by omega)).2 this
  · have hls : s < hi := by split at hhi <;> omega
    have := g2 hls
    rw [show mid + (s + i) - 1 - s = s + i + j - 1 by omega] at this
    exact hc.lt (hr s (by omega)).1 (hl s (s + i + j - 1) (by omega) (by omega) (by omega) (by omega)) (hr _ (by omega)).2 this
end Go.Proofs.Ytgldgilhegdpjaa.so

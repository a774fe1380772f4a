/-
  cert: a certificate's text, and what reading tells of it; a text that is read is its certificate's.
-/
import Derived.Test.YtjajpmbmkagcaaaDoorCj
import Derived.Lib.ItoaMem
namespace Go.Proofs.YtjajpmbmkagcaaaDoor
open Go.RowKit
set_option linter.unusedVariables false
/-- bytes at a place -/
def At (s : ByteArray) (a : Nat) (l : List UInt8) : Prop := a + l.length ≤ s.size ∧ ∀ j (h : j < l.length), s.get! (a + j) = l[j]
theorem At.app {s : ByteArray} {a : Nat} {l m : List UInt8} : At s a (l ++ m) ↔ At s a l ∧ At s (a + l.length) m := by
  unfold At
  constructor
  · rintro ⟨h1, h2⟩
    rw [List.length_append] at h1
    refine ⟨⟨by omega, fun j h => ?_⟩, by omega, fun j h => ?_⟩
    · rw [h2 j (by rw [List.length_append]; omega), List.getElem_append_left h]
    · rw [Nat.add_assoc, h2 (l.length + j) (by rw [List.length_append]; omega), List.getElem_append_right (by omega)]
      simp
  · rintro ⟨⟨h1, h2⟩, h3, h4⟩
    refine ⟨by rw [List.length_append]; omega, fun j h => ?_⟩
    have h' := h
    rw [List.length_append] at h'
    by_cases c : j < l.length
    · rw [List.getElem_append_left c]; exact h2 j c
    · rw [List.getElem_append_right (by omega)]
      have := h4 (j - l.length) (by omega)
      rw [← this]; congr 1; omega
theorem At.cons {s : ByteArray} {a : Nat} {b : UInt8} {m : List UInt8} : At s a (b :: m) ↔ (a < s.size ∧ s.get! a = b) ∧ At s (a + 1) m := by
  have := At.app (s := s) (a := a) (l := [b]) (m := m)
  rw [List.singleton_append] at this
  rw [this]
  constructor
  · rintro ⟨⟨h1, h2⟩, h3⟩
    exact ⟨⟨by simp at h1; omega, by have := h2 0 (by simp); simpa using this⟩, h3⟩
  · rintro ⟨⟨h1, h2⟩, h3⟩
    exact ⟨⟨by simp; omega, fun j h => by obtain rfl : j = 0 := by simpa using h
                                          simpa using h2⟩, h3⟩
theorem at_self (s : ByteArray) : At s 0 s.data.toList := by
  refine ⟨by simp, fun j h => ?_⟩
  have h' : j < s.size := by simpa using h
  rw [Nat.zero_add, get_of s j h']
  rfl
theorem At.eq {s : ByteArray} {l : List UInt8} (h : At s 0 l) (hs : s.size = l.length) : s.data.toList = l := by
  have g := at_self s
  refine List.ext_getElem (by simpa using hs) fun j h1 h2 => ?_
  rw [← g.2 j h1, ← h.2 j h2]
theorem at_nil {s : ByteArray} {a : Nat} (h : a ≤ s.size) : At s a [] := ⟨by simpa using h, fun j h => by simp at h⟩
/-- two texts agree on their first bytes -/
def Agr (s t : ByteArray) (m : Nat) : Prop := m ≤ s.size ∧ m ≤ t.size ∧ ∀ j, j < m → s.get! j = t.get! j
theorem Agr.at_ {s t : ByteArray} {m a : Nat} {l : List UInt8} (h : Agr s t m) (g : At s a l) (hm : a + l.length ≤ m) : At t a l :=
  ⟨by have := h.2.1; omega, fun j hj => by rw [← h.2.2 (a + j) (by omega)]; exact g.2 j hj⟩

/-! the digits of a number -/
theorem nd_is (t : ByteArray) (k : Nat) (h : ∀ j, j < k → isd t j) (hn : ¬ isd t k) (hk : k ≤ t.size) : nd t = k := by
  have go : ∀ b i, i ≤ k → k ≤ i + b → ndf t b i = k := by
    intro b
    induction b with
    | zero => intro i h1 h2; rw [show i = k by omega]; exact ndf_end t 0 k hn
    | succ b ih =>
      intro i h1 h2
      rcases Nat.lt_or_ge i k with h3 | h3
      · rw [ndf_step t b i (h i h3)]; exact ih (i + 1) (by omega) (by omega)
      · rw [show i = k by omega]; exact ndf_end t (b + 1) k hn
  exact go t.size 0 (by omega) (by omega)
theorem nd_stop (t : ByteArray) : ¬ isd t (nd t) := by
  have go : ∀ b k, t.size ≤ b + k → ¬ isd t (ndf t b k) := by
    intro b
    induction b with
    | zero =>
      intro k h
      rw [show ndf t 0 k = k from by unfold ndf; rfl]
      exact fun c => by have := isd_lt c; omega
    | succ b ih =>
      intro k h
      by_cases c : isd t k
      · rw [ndf_step t b k c]; exact ih (k + 1) (by omega)
      · rw [ndf_end t (b + 1) k c]; exact c
  exact go t.size 0 (by omega)
theorem nd_isd (t : ByteArray) (j : Nat) (h : j < nd t) : isd t j := ndf_all t t.size 0 j (Nat.zero_le _) h
theorem isd_d {t : ByteArray} {k : Nat} (h : isd t k) : 48 ≤ (t.get! k).toNat ∧ (t.get! k).toNat ≤ 57 := by
  unfold isd at h
  exact h.2
theorem dv_congr {t u : ByteArray} : ∀ {k : Nat}, (∀ j, j < k → t.get! j = u.get! j) → dv t k = dv u k
  | 0, _ => by rw [dv_zero, dv_zero]
  | k + 1, h => by rw [dv_succ, dv_succ, h k (by omega), dv_congr (k := k) (fun j hj => h j (by omega))]
theorem dv_mono (t : ByteArray) : ∀ n k, k ≤ n → (∀ j, j < n → isd t j) → dv t k ≤ dv t n
  | 0, k, hk, _ => by rw [show k = 0 by omega]; exact Int.le_refl _
  | n + 1, k, hk, h => by
    by_cases e : k = n + 1
    · rw [e]; exact Int.le_refl _
    · have := dv_mono t n k (by omega) (fun j hj => h j (by omega))
      have b := (dv_b t n (fun j hj => h j (by omega))).1
      have d := (isd_d (h n (by omega))).1
      rw [dv_succ]
      omega
theorem dv_pos (t : ByteArray) (h0 : (t.get! 0).toNat ≠ 48) : ∀ k, 1 ≤ k → (∀ j, j < k → isd t j) → 1 ≤ dv t k
  | 0, h, _ => by omega
  | 1, _, h => by
    have d := (isd_d (h 0 (by omega))).1
    show 1 ≤ dv t (0 + 1)
    rw [dv_succ, dv_zero]
    omega
  | k + 2, _, h => by
    have := dv_pos t h0 (k + 1) (by omega) (fun j hj => h j (by omega))
    have d := (isd_d (h (k + 1) (by omega))).1
    rw [dv_succ]
    omega
theorem dec_digits (u : Nat) : ∀ (i : Nat) (h : i < (Lib.decDigits u).length), 48 ≤ ((Lib.decDigits u)[i]).toNat ∧ ((Lib.decDigits u)[i]).toNat ≤ 57 := by
  induction u using Nat.strongRecOn with
  | _ u ih =>
    intro i h
    by_cases h1 : u < 10
    · simp only [Lib.decDigits_one h1] at h ⊢
      have : i = 0 := by simpa using h
      subst this
      simp
      omega
    · have e : Lib.decDigits u = Lib.decDigits (u / 10) ++ [UInt8.ofNat (48 + u % 10)] := by conv => lhs; rw [Lib.decDigits, dif_neg h1]
      simp only [e] at h ⊢
      by_cases h2 : i < (Lib.decDigits (u / 10)).length
      · rw [List.getElem_append_left h2]; exact ih (u / 10) (by omega) i h2
      · rw [List.getElem_append_right (by omega)]
        simp only [List.length_append, List.length_singleton] at h
        have : i - (Lib.decDigits (u / 10)).length = 0 := by omega
        simp only [this]
        simp
        omega
theorem dec_head (u : Nat) (hu : u ≠ 0) (h : 0 < (Lib.decDigits u).length) : ((Lib.decDigits u)[0]).toNat ≠ 48 := by
  induction u using Nat.strongRecOn with
  | _ u ih =>
    by_cases h1 : u < 10
    · simp only [Lib.decDigits_one h1]
      simp
      omega
    · have e : Lib.decDigits u = Lib.decDigits (u / 10) ++ [UInt8.ofNat (48 + u % 10)] := by conv => lhs; rw [Lib.decDigits, dif_neg h1]
      have hl : 0 < (Lib.decDigits (u / 10)).length := by
        rw [Lib.decDigits_length]; unfold Lib.nDigits; split <;> omega
      simp only [e]
      rw [List.getElem_append_left hl]
      exact ih (u / 10) (by omega) (by omega) hl
theorem dec_value (t : ByteArray) (u : Nat) (h : ∀ (i : Nat) (hi : i < (Lib.decDigits u).length), t.get! i = (Lib.decDigits u)[i]) : dv t (Lib.decDigits u).length = u := by
  induction u using Nat.strongRecOn with
  | _ u ih =>
    by_cases h1 : u < 10
    · have e := Lib.decDigits_one h1
      have h0 := h 0 (by rw [e]; simp)
      simp only [e] at h0
      rw [e]
      show dv t (0 + 1) = u
      rw [dv_succ, dv_zero, h0]
      simp
      omega
    · have e : Lib.decDigits u = Lib.decDigits (u / 10) ++ [UInt8.ofNat (48 + u % 10)] := by conv => lhs; rw [Lib.decDigits, dif_neg h1]
      have hl : (Lib.decDigits u).length = (Lib.decDigits (u / 10)).length + 1 := by rw [e]; simp
      have h0 := h (Lib.decDigits (u / 10)).length (by omega)
      simp only [e] at h0
      rw [List.getElem_append_right (by omega)] at h0
      simp only [Nat.sub_self, List.getElem_singleton] at h0
      rw [hl, dv_succ, h0, ih (u / 10) (by omega) (fun i hi => by
        have := h i (by omega)
        simp only [e] at this
        rw [List.getElem_append_left hi] at this
        exact this)]
      simp
      omega
theorem dec_len (u : Nat) : 1 ≤ (Lib.decDigits u).length := by rw [Lib.decDigits_length]; exact Lib.nDigits_pos u
theorem dec_small : ∀ (k u : Nat), u < 10 ^ (k + 1) → (Lib.decDigits u).length ≤ k + 1
  | 0, u, h => by rw [Lib.decDigits_one (by simpa using h)]; simp
  | k + 1, u, h => by
    by_cases h1 : u < 10
    · rw [Lib.decDigits_one h1]; simp
    · have e : Lib.decDigits u = Lib.decDigits (u / 10) ++ [UInt8.ofNat (48 + u % 10)] := by conv => lhs; rw [Lib.decDigits, dif_neg h1]
      rw [Nat.pow_succ] at h
      have := dec_small k (u / 10) (by omega)
      rw [e, List.length_append]
      simp
      omega
/-- digits, no needless nought ahead: the number's own -/
theorem dec_dv (t : ByteArray) : ∀ k, 1 ≤ k → (∀ j, j < k → isd t j) → (1 < k → (t.get! 0).toNat ≠ 48) → Lib.decDigits (dv t k).toNat = (List.range k).map (fun j => t.get! j)
  | 0, h, _, _ => by omega
  | 1, _, h, _ => by
    have d := isd_d (h 0 (by omega))
    have e : dv t 1 = ((t.get! 0).toNat : Int) - 48 := by show dv t (0 + 1) = _; rw [dv_succ, dv_zero]; omega
    have e2 : (dv t 1).toNat = (t.get! 0).toNat - 48 := by rw [e]; omega
    rw [e2, Lib.decDigits_one (by omega), show 48 + ((t.get! 0).toNat - 48) = (t.get! 0).toNat by omega]
    simp
  | k + 2, _, h, h0 => by
    have hp := dv_pos t (h0 (by omega)) (k + 1) (by omega) (fun j hj => h j (by omega))
    have d := isd_d (h (k + 1) (by omega))
    have ih := dec_dv t (k + 1) (by omega) (fun j hj => h j (by omega)) (fun _ => h0 (by omega))
    have e : (dv t (k + 2)).toNat = 10 * (dv t (k + 1)).toNat + ((t.get! (k + 1)).toNat - 48) := by rw [dv_succ]; omega
    have h1 : ¬ (dv t (k + 2)).toNat < 10 := by omega
    rw [Lib.decDigits, dif_neg h1, e, show (10 * (dv t (k + 1)).toNat + ((t.get! (k + 1)).toNat - 48)) / 10 = (dv t (k + 1)).toNat by omega, ih, List.range_succ (n := k + 1), List.map_append]
    rw [show 48 + (10 * (dv t (k + 1)).toNat + ((t.get! (k + 1)).toNat - 48)) % 10 = (t.get! (k + 1)).toNat by omega]
    simp
theorem rest_size {s : ByteArray} {a : Nat} (ha : a ≤ s.size) : (rest s a).size = s.size - a := size_sub s a ha
theorem rest_get {s : ByteArray} {a k : Nat} (h : a + k < s.size) : (rest s a).get! k = s.get! (a + k) := get_subk s a k h
/-- a number stands there -/
structure NumOk (s : ByteArray) (a : Nat) (most : Int) : Prop where
  lt : a < s.size
  n1 : 1 ≤ nd (rest s a)
  n2 : nd (rest s a) ≤ 18
  nz : 1 < nd (rest s a) → ((rest s a).get! 0).toNat ≠ 48
  le : dv (rest s a) (nd (rest s a)) ≤ most
theorem num_iff {s : ByteArray} {a : Nat} {most : Int} : nme s a most = 0 ↔ NumOk s a most := by
  unfold nme rdv
  by_cases c0 : s.size ≤ a
  · rw [if_pos c0]
    exact ⟨fun h => absurd h (by decide), fun h => absurd h.lt (by omega)⟩
  · rw [if_neg c0]
    by_cases c1 : nd (rest s a) = 0 ∨ (1 < nd (rest s a) ∧ ((rest s a).get! 0).toNat = 48)
    · rw [if_pos c1]
      refine ⟨fun h => absurd h (by simp), fun h => ?_⟩
      rcases c1 with c | ⟨c, d⟩
      · have := h.n1; omega
      · exact absurd d (h.nz c)
    · rw [if_neg c1]
      by_cases c2 : 18 < nd (rest s a)
      · rw [if_pos c2]
        exact ⟨fun h => absurd h (by simp), fun h => absurd h.n2 (by omega)⟩
      · rw [if_neg c2, if_neg (by simp)]
        show (if most < dv (rest s a) (nd (rest s a)) then (5 : Int) else 0) = 0 ↔ _
        by_cases c3 : most < dv (rest s a) (nd (rest s a))
        · rw [if_pos c3]
          exact ⟨fun h => absurd h (by decide), fun h => absurd h.le (by omega)⟩
        · rw [if_neg c3]
          exact ⟨fun _ => ⟨by omega, by omega, by omega, fun g e => c1 (.inr ⟨g, e⟩), by omega⟩, fun _ => rfl⟩
theorem NumOk.val {s : ByteArray} {a : Nat} {most : Int} (h : NumOk s a most) : nmv s a = dv (rest s a) (nd (rest s a)) := by
  obtain ⟨h1, h2, h3, h4, h5⟩ := h
  unfold nmv rdv
  rw [if_neg (show ¬ (nd (rest s a) = 0 ∨ (1 < nd (rest s a) ∧ ((rest s a).get! 0).toNat = 48)) from fun c => by rcases c with c | ⟨c, d⟩; omega; exact h4 c d), if_neg (show ¬ 18 < nd (rest s a) by omega)]
theorem NumOk.at_ {s : ByteArray} {a : Nat} {most : Int} (h : NumOk s a most) : At s a (Lib.itoa (nmv s a)) ∧ (Lib.itoa (nmv s a)).length = nd (rest s a) := by
  have e := dec_dv (rest s a) _ h.n1 (fun j hj => nd_isd _ j hj) h.nz
  have b := (dv_b (rest s a) (nd (rest s a)) (fun j hj => nd_isd _ j hj)).1
  have z := rest_size (Nat.le_of_lt h.lt)
  have n : nd (rest s a) ≤ (rest s a).size := nd_le (rest s a) (rest s a).size 0 (Nat.zero_le _)
  rw [h.val, show dv (rest s a) (nd (rest s a)) = (((dv (rest s a) (nd (rest s a))).toNat : Nat) : Int) by omega, Lib.itoa_nonneg, e]
  refine ⟨⟨by simp; have := h.lt; omega, fun j hj => ?_⟩, by simp⟩
  have hj' : j < nd (rest s a) := by simpa using hj
  rw [List.getElem_map, List.getElem_range, rest_get (by omega)]
theorem num_at {s : ByteArray} {a : Nat} {u : Nat} {most : Int} {b : UInt8} {r : List UInt8} (h : At s a (Lib.itoa (u : Int) ++ b :: r)) (hb : ¬ (48 ≤ b.toNat ∧ b.toNat ≤ 57)) (hu : (u : Int) ≤ most) (h18 : u < 10 ^ 17) :
    NumOk s a most ∧ nmv s a = u ∧ nmn s a = a + (Lib.itoa (u : Int)).length := by
  rw [Lib.itoa_nonneg] at h ⊢
  obtain ⟨h1, h2⟩ := At.app.1 h
  obtain ⟨⟨h3, h4⟩, _⟩ := At.cons.1 h2
  have l1 := dec_len u
  have l2 := dec_small 16 u h18
  have z := rest_size (s := s) (a := a) (by omega)
  have g : ∀ (i : Nat) (hi : i < (Lib.decDigits u).length), (rest s a).get! i = (Lib.decDigits u)[i] := fun i hi => by rw [rest_get (by omega)]; exact h1.2 i hi
  have n : nd (rest s a) = (Lib.decDigits u).length := nd_is _ _ (fun j hj => by
      unfold isd; rw [g j hj]; exact ⟨by omega, dec_digits u j hj⟩) (fun c => by
      unfold isd at c; rw [rest_get (by omega), h4] at c; exact hb c.2) (by omega)
  have v := dec_value (rest s a) u g
  have ok : NumOk s a most := ⟨by omega, by omega, by omega, fun c => by
    rw [n] at c
    rw [g 0 (by omega)]
    refine dec_head u (fun e => ?_) (by omega)
    subst e
    rw [Lib.decDigits_one (by omega)] at c
    simp at c, by rw [n, v]; exact hu⟩
  refine ⟨ok, by rw [ok.val, n, v], ?_⟩
  unfold nmn
  rw [n]
theorem NumOk.agr {s t : ByteArray} {a m : Nat} {most : Int} (h : NumOk s a most) (A : Agr s t m) (hm : nmn s a < m) : NumOk t a most ∧ nmv t a = nmv s a ∧ nmn t a = nmn s a := by
  have hm' : a + nd (rest s a) < m := hm
  obtain ⟨A1, A2, A3⟩ := A
  have z1 := rest_size (s := s) (a := a) (by omega)
  have z2 := rest_size (s := t) (a := a) (by omega)
  have g : ∀ j, j ≤ nd (rest s a) → (rest t a).get! j = (rest s a).get! j := fun j hj => by rw [rest_get (by omega), rest_get (by omega)]; exact (A3 _ (by omega)).symm
  have n : nd (rest t a) = nd (rest s a) := nd_is _ _ (fun j hj => by
      have c := nd_isd _ j hj
      unfold isd at c ⊢
      rw [g j (by omega)]
      exact ⟨by omega, c.2⟩) (fun c => nd_stop (rest s a) (by
      unfold isd at c ⊢
      rw [g _ (Nat.le_refl _)] at c
      exact ⟨by omega, c.2⟩)) (by omega)
  have v : dv (rest t a) (nd (rest s a)) = dv (rest s a) (nd (rest s a)) := dv_congr fun j hj => g j (by omega)
  have ok : NumOk t a most := ⟨by omega, by rw [n]; exact h.n1, by rw [n]; exact h.n2, by rw [n, g 0 (by omega)]; exact h.nz, by rw [n, v]; exact h.le⟩
  refine ⟨ok, by rw [ok.val, h.val, n, v], ?_⟩
  unfold nmn
  rw [n]
theorem NumOk.cut {s t : ByteArray} {a : Nat} {most : Int} (h : NumOk s a most) (A : Agr s t t.size) (ha : a < t.size) (hn : t.size ≤ nmn s a) : NumOk t a most ∧ nmn t a = t.size ∧ (1 ≤ nmv s a → 1 ≤ nmv t a) ∧ nmv t a ≤ nmv s a := by
  have hn' : t.size ≤ a + nd (rest s a) := hn
  obtain ⟨A1, A2, A3⟩ := A
  have z1 := rest_size (s := s) (a := a) (by omega)
  have z2 := rest_size (s := t) (a := a) (by omega)
  have g : ∀ j, j < t.size - a → (rest t a).get! j = (rest s a).get! j := fun j hj => by rw [rest_get (by omega), rest_get (by omega)]; exact (A3 _ (by omega)).symm
  have d : ∀ j, j < t.size - a → isd (rest s a) j := fun j hj => nd_isd _ j (by omega)
  have d2 : ∀ j, j < t.size - a → isd (rest t a) j := fun j hj => by
      have c := d j hj
      unfold isd at c ⊢
      rw [g j hj]
      exact ⟨by omega, c.2⟩
  have n : nd (rest t a) = t.size - a := nd_is _ _ d2 (fun c => by have := isd_lt c; omega) (by omega)
  have v : dv (rest t a) (t.size - a) = dv (rest s a) (t.size - a) := dv_congr fun j hj => g j hj
  have mo := dv_mono (rest s a) (nd (rest s a)) (t.size - a) (by omega) (fun j hj => nd_isd _ j hj)
  have nz : 1 < nd (rest s a) → ((rest t a).get! 0).toNat ≠ 48 := fun c => by rw [g 0 (by omega)]; exact h.nz c
  have ok : NumOk t a most := ⟨by omega, by omega, by have := h.n2; omega, fun c => nz (by omega), by rw [n, v]; exact Int.le_trans mo h.le⟩
  refine ⟨ok, by unfold nmn; omega, fun c => ?_, by rw [ok.val, h.val, n, v]; exact mo⟩
  rw [ok.val, n]
  by_cases e : nd (rest s a) = t.size - a
  · rw [v, ← e, ← h.val]; exact c
  · exact dv_pos (rest t a) (nz (by omega)) _ (by omega) d2
end Go.Proofs.YtjajpmbmkagcaaaDoor

/-
  The order of a rank: plain mathematics.
-/
import Derived.Test.YtaobaiifbmhegaaNtNextR
import Derived.Test.YtaobaiifbmhegaaNtFact
import Derived.Test.YtaobaiifbmhegaaNtRise
namespace Go.Proofs.Ytaobaiifbmhegaa.nt
set_option linter.unusedVariables false

def Asc (l : List Int) : Prop := ∀ i j, i < j → j < l.length → nth l i < nth l j
theorem asc_erase {l : List Int} (h : Asc l) (d : Nat) : Asc (l.eraseIdx d) := by
  intro i j hij hj
  rw [List.length_eraseIdx] at hj
  have e : ∀ a, a < (l.eraseIdx d).length → nth (l.eraseIdx d) a = if a < d then nth l a else nth l (a + 1) := fun a ha => by
    rw [nth_at _ a ha, List.getElem_eraseIdx]
    rw [List.length_eraseIdx] at ha
    by_cases h1 : a < d
    · rw [dif_pos h1, if_pos h1, nth_at l a (by split at ha <;> omega)]
    · rw [dif_neg h1, if_neg h1, nth_at l (a + 1) (by split at ha <;> omega)]
  rw [e i (by rw [List.length_eraseIdx]; split at hj <;> split <;> omega), e j (by rw [List.length_eraseIdx]; split at hj <;> split <;> omega)]
  have hl : j + 1 < l.length ∨ j < l.length ∧ ¬ d < l.length := by split at hj <;> omega
  by_cases h1 : i < d
  · rw [if_pos h1]
    by_cases h2 : j < d
    · rw [if_pos h2]; exact h i j hij (by omega)
    · rw [if_neg h2]; exact h i (j + 1) (by omega) (by omega)
  · rw [if_neg h1, if_neg (by omega)]; exact h (i + 1) (j + 1) (by omega) (by omega)
/-- in a list that rises, as many are less than an element as stand ahead of it -/
theorem asc_cl : ∀ (l : List Int), Asc l → ∀ i, i < l.length → cl (nth l i) l = i := by
  intro l h i hi
  have key : ∀ m, m ≤ l.length → cl (nth l i) (l.take m) = ((min m i : Nat) : Int) := by
    intro m
    induction m with
    | zero => intro _; simp [cl_nil]
    | succ m ih =>
      intro hm
      rw [List.take_succ_eq_append_getElem (show m < l.length by omega), cl_snoc, ih (by omega), ← nth_at l m (by omega)]
      by_cases h1 : m < i
      · rw [if_pos (h m i h1 hi)]; omega
      · rcases Nat.eq_or_lt_of_le (show i ≤ m by omega) with h2 | h2
        · subst h2; rw [if_neg (by omega)]; omega
        · have := h i m h2 (by omega)
          rw [if_neg (by omega)]; omega
  have := key l.length (Nat.le_refl _)
  rw [List.take_length] at this
  rw [this]; omega
theorem asc_at {l : List Int} (h : Asc l) {v : Int} (hv : v ∈ l) : nth l (cl v l).toNat = v := by
  obtain ⟨i, hi, e⟩ := List.mem_iff_getElem.1 hv
  rw [← nth_at l i hi] at e
  have := asc_cl l h i hi
  rw [e] at this
  rw [this]; simpa using e
theorem cl_nonneg (v : Int) (l : List Int) : 0 ≤ cl v l := by unfold cl; omega
theorem upTo_asc (n : Nat) : Asc (upTo n) := fun i j hij hj => by
  rw [upTo_len] at hj
  rw [upTo_nth n i (by omega), upTo_nth n j hj]; omega
/-- what isn't used ahead of step k, where D k is taken at each -/
def un (n : Nat) (D : Nat → Nat) : Nat → List Int
  | 0 => upTo n
  | k + 1 => (un n D k).eraseIdx (D k)
theorem un_zero (n : Nat) (D : Nat → Nat) : un n D 0 = upTo n := rfl
theorem un_succ (n : Nat) (D : Nat → Nat) (k : Nat) : un n D (k + 1) = (un n D k).eraseIdx (D k) := rfl
theorem un_asc (n : Nat) (D : Nat → Nat) : ∀ k, Asc (un n D k)
  | 0 => upTo_asc n
  | k + 1 => asc_erase (un_asc n D k) _
theorem un_len (n : Nat) (D : Nat → Nat) (hD : ∀ k, k < n → D k < n - k) : ∀ k, k ≤ n → (un n D k).length = n - k
  | 0, _ => by rw [un_zero, upTo_len]; rfl
  | k + 1, h => by
    have := un_len n D hD k (by omega)
    have := hD k (by omega)
    rw [un_succ, List.length_eraseIdx, if_pos (by omega)]; omega
def tk (n : Nat) (D : Nat → Nat) (k : Nat) : Int := nth (un n D k) (D k)
def ord (n : Nat) (D : Nat → Nat) : List Int := (List.range n).map (tk n D)
theorem ord_len (n : Nat) (D : Nat → Nat) : (ord n D).length = n := by unfold ord; simp
theorem ord_nth (n : Nat) (D : Nat → Nat) (k : Nat) (h : k < n) : nth (ord n D) k = tk n D k := by
  rw [nth_at _ k (by rw [ord_len]; exact h)]; simp [ord]
theorem drop_nth {l : List Int} {k : Nat} (h : k < l.length) : l.drop k = nth l k :: l.drop (k + 1) := by
  rw [nth_at l k h]; exact List.drop_eq_getElem_cons h
theorem erase_perm {l : List Int} {d : Nat} (h : d < l.length) : (nth l d :: l.eraseIdx d).Perm l := by
  rw [List.eraseIdx_eq_take_drop_succ]
  have e : l.take d ++ nth l d :: l.drop (d + 1) = l := by rw [← drop_nth h, List.take_append_drop]
  have h2 := (List.perm_middle (a := nth l d) (l₁ := l.take d) (l₂ := l.drop (d + 1))).symm
  rw [e] at h2
  exact h2
theorem ord_drop (n : Nat) (D : Nat → Nat) (hD : ∀ k, k < n → D k < n - k) : ∀ d k, k + d = n → ((ord n D).drop k).Perm (un n D k)
  | 0, k, h => by
    have e1 := un_len n D hD k (by omega)
    rw [List.drop_of_length_le (by rw [ord_len]; omega), List.length_eq_zero_iff.1 (by omega : (un n D k).length = 0)]
  | d + 1, k, h => by
    have ih := ord_drop n D hD d (k + 1) (by omega)
    have e1 := un_len n D hD k (by omega)
    have e2 := hD k (by omega)
    rw [drop_nth (by rw [ord_len]; omega), ord_nth n D k (by omega)]
    exact (ih.cons _).trans (by rw [un_succ]; exact erase_perm (by omega))
theorem upTo_isP (n : Nat) : isP (upTo n) := ok_isP (by
  rw [upTo_len]
  refine ⟨fun j hj => by rw [upTo_nth n j hj, upTo_len]; omega, fun i j hij hj => ?_⟩
  rw [upTo_nth n i (by omega), upTo_nth n j hj]; omega)
theorem perm_isP {p q : List Int} (h : p.Perm q) (hq : isP q) : isP p := fun k hk => by rw [h.count_eq]; exact hq k (by rw [← h.length_eq]; exact hk)
theorem ord_isP (n : Nat) (D : Nat → Nat) (hD : ∀ k, k < n → D k < n - k) : isP (ord n D) := by
  have := ord_drop n D hD n 0 (by omega)
  rw [List.drop_zero, un_zero] at this
  exact perm_isP this (upTo_isP n)
theorem ord_lsc (n : Nat) (D : Nat → Nat) (hD : ∀ k, k < n → D k < n - k) (k : Nat) (hk : k < n) : lsc (ord n D) k (n - (k + 1)) = D k := by
  have h := lsc_all (ord n D) k (by rw [ord_len]; exact hk)
  rw [ord_len] at h
  have e1 := un_len n D hD k (by omega)
  have e2 := hD k hk
  rw [h, cl_perm (ord_drop n D hD (n - (k + 1)) (k + 1) (by omega)), ord_nth n D k hk]
  have hp := erase_perm (l := un n D k) (d := D k) (by omega)
  have hc := cl_perm (v := tk n D k) hp
  have ha := asc_cl (un n D k) (un_asc n D k) (D k) (by omega)
  have hs : cl (tk n D k) (nth (un n D k) (D k) :: (un n D k).eraseIdx (D k)) = cl (tk n D k) ((un n D k).eraseIdx (D k)) := by
    have := cl_app (tk n D k) [nth (un n D k) (D k)] ((un n D k).eraseIdx (D k))
    have h2 := cl_snoc (tk n D k) (nth (un n D k) (D k)) []
    rw [List.nil_append, cl_nil, if_neg (by unfold tk; omega)] at h2
    rw [List.singleton_append] at this
    omega
  rw [un_succ, ← hs, hc]
  exact ha
/-- an order is what its own counts choose -/
theorem ord_self {p : List Int} (h : isP p) (D : Nat → Nat) (hd : ∀ k, k < p.length → lsc p k (p.length - (k + 1)) = D k) : ord p.length D = p := by
  have hD : ∀ k, k < p.length → D k < p.length - k := fun k hk => by
    have := lsc_bd p k (p.length - (k + 1))
    rw [hd k hk] at this; omega
  have key : ∀ k, k ≤ p.length → (p.drop k).Perm (un p.length D k) := by
    intro k
    induction k with
    | zero => intro _; rw [List.drop_zero, un_zero]; exact isP_perm h (upTo_isP _) (upTo_len _).symm
    | succ k ih =>
      intro hk
      have pk := ih (by omega)
      have e1 := un_len p.length D hD k (by omega)
      have e2 := hD k (by omega)
      have hx : tk p.length D k = nth p k := by
        have hm : nth p k ∈ un p.length D k := pk.mem_iff.1 (by rw [drop_nth (by omega)]; exact List.mem_cons_self ..)
        have := asc_at (un_asc p.length D k) hm
        rw [← cl_perm pk, drop_nth (by omega : k < p.length)] at this
        have h1 := cl_app (nth p k) [nth p k] (p.drop (k + 1))
        have h2 := cl_snoc (nth p k) (nth p k) []
        rw [List.nil_append, cl_nil, if_neg (by omega)] at h2
        rw [List.singleton_append] at h1
        rw [h1, h2, ← lsc_all p k (by omega), hd k (by omega)] at this
        unfold tk
        simpa using this
      have hp := erase_perm (l := un p.length D k) (d := D k) (by omega)
      rw [un_succ]
      rw [drop_nth (by omega : k < p.length), ← hx] at pk
      exact (List.perm_cons _).1 (pk.trans hp.symm)
  have hx : ∀ k, k < p.length → tk p.length D k = nth p k := fun k hk => by
    have pk := key k (by omega)
    have hm : nth p k ∈ un p.length D k := pk.mem_iff.1 (by rw [drop_nth hk]; exact List.mem_cons_self ..)
    have := asc_at (un_asc p.length D k) hm
    rw [← cl_perm pk, drop_nth hk] at this
    have h1 := cl_app (nth p k) [nth p k] (p.drop (k + 1))
    have h2 := cl_snoc (nth p k) (nth p k) []
    rw [List.nil_append, cl_nil, if_neg (by omega)] at h2
    rw [List.singleton_append] at h1
    rw [h1, h2, ← lsc_all p k hk, hd k hk] at this
    unfold tk
    simpa using this
  exact nth_ext _ _ (ord_len _ _) (fun j hj => by rw [ord_len] at hj; rw [ord_nth _ _ j hj, hx j hj])
end Go.Proofs.Ytaobaiifbmhegaa.nt

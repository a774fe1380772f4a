/-
  What small changes make of an answer: rounds of exchanges (a tour's part turned round), each kept if it costs less. Plain mathematics.
-/
import Derived.Test.YtaobaiifbmhegaaCost
import Derived.Test.YtaobaiifbmhegaaOdAll
namespace Go.Proofs.Ytaobaiifbmhegaa
open Go.RowKit
set_option linter.unusedVariables false
theorem od_nth (l : List Int) (j : Nat) : od.nth l j = nth l j := by unfold od.nth nth; rfl
/-- a change of a pair: an exchange, or all between turned round -/
def chg (K : Int) (x : List Int) (a b : Nat) : List Int := if K = 3 then od.rv x a (b + 1 - a) ((b + 1 - a) / 2) else od.sw x a b
theorem chg_tour (x : List Int) (a b : Nat) : chg 3 x a b = od.rv x a (b + 1 - a) ((b + 1 - a) / 2) := by unfold chg; rw [if_pos rfl]
theorem chg_other {K : Int} (h : K ≠ 3) (x : List Int) (a b : Nat) : chg K x a b = od.sw x a b := by unfold chg; rw [if_neg h]
theorem chg_len (K : Int) (x : List Int) (a b : Nat) : (chg K x a b).length = x.length := by
  unfold chg
  split
  · exact od.rv_len _ _ _ _
  · exact od.sw_len _ _ _
theorem chg_nth {K : Int} {x : List Int} {a b : Nat} (hab : a < b) (hb : b < x.length) (j : Nat) :
    od.nth (chg K x a b) j = if K = 3 then (if a ≤ j ∧ j < b + 1 then od.nth x (a + b - j) else od.nth x j) else (if j = b then od.nth x a else if j = a then od.nth x b else od.nth x j) := by
  unfold chg
  split
  · rw [od.rv_all x a (b + 1 - a) (by omega) j]
    have e1 : (a ≤ j ∧ j < a + (b + 1 - a)) ↔ (a ≤ j ∧ j < b + 1) := by omega
    simp only [e1]
    split
    · congr 1; omega
    · rfl
  · rw [od.sw_nth x a b j (by omega) hb]
theorem chg_back {K : Int} {x : List Int} {a b : Nat} (hab : a < b) (hb : b < x.length) : chg K (chg K x a b) a b = x := by
  refine od.nth_ext _ _ (by rw [chg_len, chg_len]) fun j hj => ?_
  rw [chg_nth hab (by rw [chg_len]; exact hb) j]
  by_cases h3 : K = 3
  · rw [if_pos h3]
    split
    · rw [chg_nth hab hb, if_pos h3, if_pos (by omega)]
      congr 1; omega
    · rw [chg_nth hab hb, if_pos h3, if_neg (by assumption)]
  · rw [if_neg h3]
    have c1 := chg_nth (K := K) hab hb a
    have c2 := chg_nth (K := K) hab hb b
    have c3 := chg_nth (K := K) hab hb j
    rw [if_neg h3] at c1 c2 c3
    rw [if_neg (by omega), if_pos rfl] at c1
    rw [if_pos rfl] at c2
    split
    · rename_i e; rw [c1, e]
    · rename_i e
      split
      · rename_i f; rw [c2, f]
      · rename_i f
        rw [if_neg e, if_neg f] at c3
        exact c3
attribute [irreducible] chg
/-- a turned part, number by number -/
def rvt (x : List Int) (a b : Nat) : Nat → List Int
  | 0 => x
  | t + 1 => (rvt x a b t).set (a + t) (od.nth x (b - t))
theorem rvt_zero (x : List Int) (a b : Nat) : rvt x a b 0 = x := rfl
theorem rvt_succ (x : List Int) (a b t : Nat) : rvt x a b (t + 1) = (rvt x a b t).set (a + t) (od.nth x (b - t)) := rfl
theorem rvt_len (x : List Int) (a b : Nat) : ∀ t, (rvt x a b t).length = x.length
  | 0 => rfl
  | t + 1 => by rw [rvt_succ, List.length_set, rvt_len x a b t]
theorem rvt_nth {x : List Int} {a b : Nat} (hab : a < b) (hb : b < x.length) : ∀ t, t ≤ b + 1 - a → ∀ j, od.nth (rvt x a b t) j = if a ≤ j ∧ j < a + t then od.nth x (a + b - j) else od.nth x j
  | 0, _, j => by rw [rvt_zero, if_neg (by omega)]
  | t + 1, ht, j => by
    rw [rvt_succ, od.nth_set _ _ _ _ (by rw [rvt_len]; omega), rvt_nth hab hb t (by omega) j]
    by_cases e : a + t = j
    · rw [if_pos e, if_pos (by omega)]; congr 1; omega
    · rw [if_neg e]
      by_cases f : a ≤ j ∧ j < a + t
      · rw [if_pos f, if_pos (by omega)]
      · rw [if_neg f, if_neg (by omega)]
theorem rvt_end {x : List Int} {a b : Nat} (hab : a < b) (hb : b < x.length) : rvt x a b (b + 1 - a) = chg 3 x a b := by
  refine od.nth_ext _ _ (by rw [rvt_len, chg_len]) fun j hj => ?_
  rw [rvt_nth hab hb _ (Nat.le_refl _) j, chg_nth hab hb j, if_pos rfl]
  have e1 : (a ≤ j ∧ j < a + (b + 1 - a)) ↔ (a ≤ j ∧ j < b + 1) := by omega
  simp only [e1]
attribute [irreducible] rvt
/-! one change, a row of them, a round, rounds -/
def tryR (f : List Int → Int × Int) (K : Int) (p : List Int × Int) (a b : Nat) : List Int × Int :=
  if (f (chg K p.1 a b)).2 = 0 ∧ (f (chg K p.1 a b)).1 < p.2 then (chg K p.1 a b, (f (chg K p.1 a b)).1) else p
theorem try_yes {f : List Int → Int × Int} {K : Int} {p : List Int × Int} {a b : Nat} (h : (f (chg K p.1 a b)).2 = 0) (h1 : (f (chg K p.1 a b)).1 < p.2) : tryR f K p a b = (chg K p.1 a b, (f (chg K p.1 a b)).1) := by
  unfold tryR; rw [if_pos ⟨h, h1⟩]
theorem try_no {f : List Int → Int × Int} {K : Int} {p : List Int × Int} {a b : Nat} (h : (f (chg K p.1 a b)).2 ≠ 0 ∨ p.2 ≤ (f (chg K p.1 a b)).1) : tryR f K p a b = p := by
  unfold tryR; rw [if_neg]; rintro ⟨h1, h2⟩; rcases h with h | h <;> omega
/-- of n numbers, and that is what they cost -/
def Gd (f : List Int → Int × Int) (n : Nat) (p : List Int × Int) : Prop := p.1.length = n ∧ f p.1 = (p.2, 0)
theorem try_gd {f : List Int → Int × Int} {K : Int} {n : Nat} {p : List Int × Int} (h : Gd f n p) (a b : Nat) : Gd f n (tryR f K p a b) ∧ (tryR f K p a b).2 ≤ p.2 := by
  unfold tryR
  split
  · rename_i c
    refine ⟨⟨by show (chg K p.1 a b).length = n; rw [chg_len]; exact h.1, ?_⟩, by show (f _).1 ≤ _; omega⟩
    show f (chg K p.1 a b) = ((f (chg K p.1 a b)).1, 0)
    rw [← c.1]
  · exact ⟨h, Int.le_refl _⟩
attribute [irreducible] tryR
def inR (f : List Int → Int × Int) (K : Int) (a : Nat) (p : List Int × Int) : Nat → List Int × Int
  | 0 => p
  | k + 1 => tryR f K (inR f K a p k) a (a + 1 + k)
theorem in_zero (f : List Int → Int × Int) (K : Int) (a : Nat) (p : List Int × Int) : inR f K a p 0 = p := rfl
theorem in_succ (f : List Int → Int × Int) (K : Int) (a : Nat) (p : List Int × Int) (k : Nat) : inR f K a p (k + 1) = tryR f K (inR f K a p k) a (a + 1 + k) := rfl
theorem in_gd {f : List Int → Int × Int} {K : Int} {n : Nat} {p : List Int × Int} (h : Gd f n p) (a : Nat) : ∀ k, Gd f n (inR f K a p k) ∧ (inR f K a p k).2 ≤ p.2
  | 0 => ⟨h, Int.le_refl _⟩
  | k + 1 => by
    have := in_gd (K := K) h a k
    have t := try_gd (K := K) this.1 a (a + 1 + k)
    rw [in_succ]
    exact ⟨t.1, by omega⟩
attribute [irreducible] inR
def ouR (f : List Int → Int × Int) (K : Int) (n d : Nat) (p : List Int × Int) : Nat → List Int × Int
  | 0 => p
  | k + 1 => inR f K (d + k) (ouR f K n d p k) (n - (d + k + 1))
theorem ou_zero (f : List Int → Int × Int) (K : Int) (n d : Nat) (p : List Int × Int) : ouR f K n d p 0 = p := rfl
theorem ou_succ (f : List Int → Int × Int) (K : Int) (n d : Nat) (p : List Int × Int) (k : Nat) : ouR f K n d p (k + 1) = inR f K (d + k) (ouR f K n d p k) (n - (d + k + 1)) := rfl
theorem ou_gd {f : List Int → Int × Int} {K : Int} {n : Nat} {p : List Int × Int} (h : Gd f n p) (d : Nat) : ∀ k, Gd f n (ouR f K n d p k) ∧ (ouR f K n d p k).2 ≤ p.2
  | 0 => ⟨h, Int.le_refl _⟩
  | k + 1 => by
    have := ou_gd (K := K) h d k
    have t := in_gd (K := K) this.1 (d + k) (n - (d + k + 1))
    rw [ou_succ]
    exact ⟨t.1, by omega⟩
attribute [irreducible] ouR
/-- which number the changes begin with -/
def fro (K : Int) : Nat := if K = 3 then 1 else 0
theorem fro_tour : fro 3 = 1 := rfl
theorem fro_other {K : Int} (h : K ≠ 3) : fro K = 0 := by unfold fro; rw [if_neg h]
def rndR (f : List Int → Int × Int) (K : Int) (n : Nat) (p : List Int × Int) : List Int × Int := ouR f K n (fro K) p (n - fro K)
theorem rnd_def (f : List Int → Int × Int) (K : Int) (n : Nat) (p : List Int × Int) : rndR f K n p = ouR f K n (fro K) p (n - fro K) := rfl
theorem rnd_gd {f : List Int → Int × Int} {K : Int} {n : Nat} {p : List Int × Int} (h : Gd f n p) : Gd f n (rndR f K n p) ∧ (rndR f K n p).2 ≤ p.2 := by unfold rndR; exact ou_gd h _ _
attribute [irreducible] rndR
def runR (f : List Int → Int × Int) (K : Int) (n : Nat) : Nat → List Int × Int → List Int × Int
  | 0, p => p
  | k + 1, p => if (rndR f K n p).2 < p.2 then runR f K n k (rndR f K n p) else rndR f K n p
theorem run_zero (f : List Int → Int × Int) (K : Int) (n : Nat) (p : List Int × Int) : runR f K n 0 p = p := rfl
theorem run_on {f : List Int → Int × Int} {K : Int} {n : Nat} {p : List Int × Int} (k : Nat) (h : (rndR f K n p).2 < p.2) : runR f K n (k + 1) p = runR f K n k (rndR f K n p) := by
  show (if _ then _ else _) = _; rw [if_pos h]
theorem run_end {f : List Int → Int × Int} {K : Int} {n : Nat} {p : List Int × Int} (k : Nat) (h : ¬ (rndR f K n p).2 < p.2) : runR f K n (k + 1) p = rndR f K n p := by
  show (if _ then _ else _) = _; rw [if_neg h]
theorem run_gd {f : List Int → Int × Int} {K : Int} {n : Nat} : ∀ (k : Nat) {p : List Int × Int}, Gd f n p → Gd f n (runR f K n k p) ∧ (runR f K n k p).2 ≤ p.2
  | 0, p, h => ⟨h, Int.le_refl _⟩
  | k + 1, p, h => by
    have r := rnd_gd (K := K) h
    by_cases c : (rndR f K n p).2 < p.2
    · rw [run_on k c]
      have := run_gd (K := K) k r.1
      exact ⟨this.1, by omega⟩
    · rw [run_end k c]; exact r
attribute [irreducible] runR
end Go.Proofs.Ytaobaiifbmhegaa

/-
  The least cost of all answers that begin with some numbers, as the reference tries them: no answer costs less. Plain mathematics.
-/
import Derived.Test.YtaobaiifbmhegaaBd
import Derived.Test.YtaobaiifbmhegaaRcAll
namespace Go.Proofs.Ytaobaiifbmhegaa
open Go.RowKit
set_option linter.unusedVariables false
/-- is this number left out? -/
def skipR (K : Int) (x : List Int) (k : Nat) : Bool := (decide (K ≠ 1) && decide ((k : Int) ∈ x)) || (decide (K = 3) && decide (x.length = 0) && decide (k ≠ 0))
/-- the least of what the first k numbers lead to -/
def blR (r : List Int → Int) (K : Int) (x : List Int) : Nat → Int
  | 0 => -1
  | k + 1 => if skipR K x k = true then blR r K x k else if 0 ≤ r (x ++ [(k : Int)]) ∧ (blR r K x k < 0 ∨ r (x ++ [(k : Int)]) < blR r K x k) then r (x ++ [(k : Int)]) else blR r K x k
theorem bl_zero (r : List Int → Int) (K : Int) (x : List Int) : blR r K x 0 = -1 := rfl
theorem bl_skip {r : List Int → Int} {K : Int} {x : List Int} {k : Nat} (h : skipR K x k = true) : blR r K x (k + 1) = blR r K x k := by
  show (if _ then _ else _) = _; rw [if_pos h]
theorem bl_new {r : List Int → Int} {K : Int} {x : List Int} {k : Nat} (h : skipR K x k = false) (h1 : 0 ≤ r (x ++ [(k : Int)]) ∧ (blR r K x k < 0 ∨ r (x ++ [(k : Int)]) < blR r K x k)) : blR r K x (k + 1) = r (x ++ [(k : Int)]) := by
  show (if _ then _ else _) = _; rw [if_neg (by simp [h]), if_pos h1]
theorem bl_old {r : List Int → Int} {K : Int} {x : List Int} {k : Nat} (h : skipR K x k = false) (h1 : ¬ (0 ≤ r (x ++ [(k : Int)]) ∧ (blR r K x k < 0 ∨ r (x ++ [(k : Int)]) < blR r K x k))) : blR r K x (k + 1) = blR r K x k := by
  show (if _ then _ else _) = _; rw [if_neg (by simp [h]), if_neg h1]
attribute [irreducible] blR
def mostR (K : Int) (n : Nat) : Nat := if K = 1 then 2 else n
/-- d numbers are still wanted -/
def bstR (f : List Int → Int × Int) (K : Int) (n : Nat) : Nat → List Int → Int
  | 0, x => if (f x).2 ≠ 0 then -1 else (f x).1
  | d + 1, x => blR (bstR f K n d) K x (mostR K n)
theorem bst_bad {f : List Int → Int × Int} {K : Int} {n : Nat} {x : List Int} (h : (f x).2 ≠ 0) : bstR f K n 0 x = -1 := by show (if _ then _ else _) = _; rw [if_pos h]
theorem bst_ok {f : List Int → Int × Int} {K : Int} {n : Nat} {x : List Int} (h : (f x).2 = 0) : bstR f K n 0 x = (f x).1 := by show (if _ then _ else _) = _; rw [if_neg (by simp [h])]
theorem bst_succ (f : List Int → Int × Int) (K : Int) (n d : Nat) (x : List Int) : bstR f K n (d + 1) x = blR (bstR f K n d) K x (mostR K n) := rfl
attribute [irreducible] bstR
theorem bl_le {r : List Int → Int} {K : Int} {x : List Int} {j : Nat} {c : Int} (hs : skipR K x j = false) (h0 : 0 ≤ r (x ++ [(j : Int)])) (hc : r (x ++ [(j : Int)]) ≤ c) : ∀ k, j < k → 0 ≤ blR r K x k ∧ blR r K x k ≤ c
  | 0, h => absurd h (by omega)
  | k + 1, h => by
    by_cases e : j = k
    · subst e
      by_cases q : 0 ≤ r (x ++ [(j : Int)]) ∧ (blR r K x j < 0 ∨ r (x ++ [(j : Int)]) < blR r K x j)
      · rw [bl_new hs q]; exact ⟨h0, hc⟩
      · rw [bl_old hs q]; exact ⟨by omega, by omega⟩
    · have i := bl_le hs h0 hc k (by omega)
      cases s : skipR K x k with
      | true => rw [bl_skip s]; exact i
      | false =>
        by_cases q : 0 ≤ r (x ++ [(k : Int)]) ∧ (blR r K x k < 0 ∨ r (x ++ [(k : Int)]) < blR r K x k)
        · rw [bl_new s q]; exact ⟨by omega, by omega⟩
        · rw [bl_old s q]; exact i
theorem take_next (y : List Int) (m : Nat) (h : m < y.length) : y.take m ++ [nth y m] = y.take (m + 1) := by
  rw [List.take_succ_eq_append_getElem h, nth_at y m h]
/-- no answer that begins so costs less -/
theorem bst_le {f : List Int → Int × Int} {K N : Int} {n : Nat} (hn : N = (n : Nat)) {y : List Int} (ho : okx K N y) (h0 : (f y).2 = 0) (h1 : 0 ≤ (f y).1) : ∀ d m, m + d = n → 0 ≤ bstR f K n d (y.take m) ∧ bstR f K n d (y.take m) ≤ (f y).1
  | 0, m, hm => by
    have hl := ho.1
    rw [List.take_of_length_le (by omega), bst_ok h0]
    exact ⟨h1, Int.le_refl _⟩
  | d + 1, m, hm => by
    have hl := ho.1
    have i := bst_le hn ho h0 h1 d (m + 1) (by omega)
    rw [bst_succ]
    have hk : 0 ≤ nth y m ∧ nth y m < mostR K n ∧ skipR K (y.take m) (nth y m).toNat = false := by
      rcases ho.2 with ⟨k1, hb⟩ | ⟨k1, k3, hp⟩
      · have b := bad_nth y hb m (by omega)
        refine ⟨by omega, by unfold mostR; rw [if_pos k1]; omega, ?_⟩
        unfold skipR; simp [k1]
      · have e : N.toNat = n := by omega
        rw [e] at hp
        have p := perm_pig n y hp.2
        have r := (p.2 hp.1).2 (y[m]'(by omega)) (List.getElem_mem _)
        rw [← nth_at y m (by omega)] at r
        refine ⟨r.1, by unfold mostR; rw [if_neg k1]; exact r.2, ?_⟩
        have nm : nth y m ∉ y.take m := by
          intro q
          have c := (p.2 hp.1).1 (nth y m).toNat (by omega)
          have ei : (((nth y m).toNat : Nat) : Int) = nth y m := by omega
          rw [ei] at c
          have s : y = y.take m ++ y.drop m := (List.take_append_drop m y).symm
          rw [s, List.count_append] at c
          have c1 : 1 ≤ (y.take m).count (nth y m) := List.count_pos_iff.2 q
          have c2 : 1 ≤ (y.drop m).count (nth y m) := List.count_pos_iff.2 (by
            rw [nth_at y m (by omega), List.drop_eq_getElem_cons (by omega)]; exact List.mem_cons_self ..)
          rw [← s] at c
          omega
        have ei : (((nth y m).toNat : Nat) : Int) = nth y m := by omega
        have z : K = 3 → m = 0 → nth y m = 0 := fun a b => by subst b; have := k3 a; unfold nth; exact this
        have s1 : decide (nth y m ∈ y.take m) = false := decide_eq_false nm
        have s2 : (decide (K = 3) && decide ((y.take m).length = 0) && decide ((nth y m).toNat ≠ 0)) = false := by
          by_cases a : K = 3
          · by_cases b : m = 0
            · have := z a b
              rw [this]; simp
            · have q : ¬ (y.take m).length = 0 := by rw [List.length_take]; omega
              rw [decide_eq_false q]; simp
          · rw [decide_eq_false a]; simp
        unfold skipR
        rw [ei, s1, s2]
        simp
    have ei : (((nth y m).toNat : Nat) : Int) = nth y m := by omega
    have en : y.take m ++ [(((nth y m).toNat : Nat) : Int)] = y.take (m + 1) := by rw [ei]; exact take_next y m (by omega)
    exact bl_le hk.2.2 (by rw [en]; exact i.1) (by rw [en]; exact i.2) _ (by omega)
end Go.Proofs.Ytaobaiifbmhegaa

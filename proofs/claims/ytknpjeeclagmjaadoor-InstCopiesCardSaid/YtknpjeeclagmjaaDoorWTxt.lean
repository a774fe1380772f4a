/-
  A problem's text, line by line: plain mathematics.
-/
import Derived.Test.YtknpjeeclagmjaaDoorZero
import Derived.Test.YtknpjeeclagmjaaDoorText
import Derived.Lib.ItoaLen
import Derived.Lib.Join
namespace Go.Proofs.YtknpjeeclagmjaaDoor
open Go.RowKit
set_option linter.unusedVariables false
/-- a number's signs -/
def dg (n : Int) : List UInt8 := Lib.itoa n
theorem dg_sIt (n : Int) : sIt n = ⟨(dg n).toArray⟩ := by rw [sIt_eq]; rfl
theorem dg_len (n : Int) (h : 0 ≤ n ∧ n ≤ 2147483647) : (dg n).length ≤ 21 := Lib.itoa_length_le n (by omega) (by omega)
/-- the first c numbers of a line -/
def lnk (l : List Int) : Nat → List UInt8
  | 0 => []
  | c + 1 => (if c = 0 then [] else lnk l c ++ [32]) ++ dg (l[c]?.getD 0)
theorem lnk_zero (l : List Int) : lnk l 0 = [] := rfl
theorem lnk_one (l : List Int) : lnk l 1 = dg (l[0]?.getD 0) := by simp [lnk]
theorem lnk_succ (l : List Int) (c : Nat) (h : 0 < c) : lnk l (c + 1) = lnk l c ++ [32] ++ dg (l[c]?.getD 0) := by
  show (if c = 0 then [] else lnk l c ++ [32]) ++ dg (l[c]?.getD 0) = _
  rw [if_neg (by omega)]
theorem lnk_len (l : List Int) (h : ∀ j, j < l.length → 0 ≤ l[j]?.getD 0 ∧ l[j]?.getD 0 ≤ 2147483647) : ∀ c, c ≤ l.length → (lnk l c).length ≤ 22 * c
  | 0, _ => by simp [lnk]
  | c + 1, hc => by
    have h1 := lnk_len l h c (by omega)
    have h2 := dg_len _ (h c (by omega))
    rcases Nat.eq_zero_or_pos c with h0 | h0
    · subst h0; rw [lnk_one]; omega
    · rw [lnk_succ l c h0]; simp; omega
theorem join_snoc (xs : List (List UInt8)) (x : List UInt8) (sep : List UInt8) (h : xs ≠ []) : Lib.join (xs ++ [x]) sep = Lib.join xs sep ++ sep ++ x := by
  unfold Lib.join
  rw [List.intercalate, List.intercalate]
  induction xs with
  | nil => exact absurd rfl h
  | cons a xs ih =>
    cases xs with
    | nil => simp [List.intersperse]
    | cons b xs =>
      have := ih (by simp)
      simp [List.intersperse] at this ⊢
      exact this
theorem join_lnk (l : List Int) : ∀ c, c ≤ l.length → Lib.join ((l.take c).map dg) [32] = lnk l c
  | 0, _ => rfl
  | c + 1, hc => by
    have h1 := join_lnk l c (by omega)
    have e : l.take (c + 1) = l.take c ++ [l[c]?.getD 0] := by
      rw [List.take_succ_eq_append_getElem (by omega), List.getElem?_eq_getElem (by omega)]; rfl
    rcases Nat.eq_zero_or_pos c with h0 | h0
    · subst h0
      rw [e, lnk_one]; simp [Lib.join, List.intercalate]
    · rw [e, List.map_append, List.map_cons, List.map_nil, join_snoc _ _ _ (by intro hh; have := congrArg List.length hh; rw [List.length_map, List.length_take, List.length_nil] at this; omega), h1, lnk_succ l c h0]
theorem join_all (l : List Int) : Lib.join (l.map dg) [32] = lnk l l.length := by
  have := join_lnk l l.length (Nat.le_refl _)
  rwa [List.take_length] at this
/-- a knapsack's first k lines -/
def kt (wl vl : List Int) : Nat → List UInt8
  | 0 => []
  | k + 1 => kt wl vl k ++ dg (wl[k]?.getD 0) ++ [32] ++ dg (vl[k]?.getD 0) ++ [10]
/-- a table's first k lines -/
def rt (cl : List (List Int)) : Nat → List UInt8
  | 0 => []
  | k + 1 => rt cl k ++ lnk (cl[k]?.getD []) (cl[k]?.getD []).length ++ [10]
theorem kt_nil (wl vl : List Int) : kt wl vl 0 = [] := rfl
theorem rt_nil (cl : List (List Int)) : rt cl 0 = [] := rfl
theorem kt_succ (wl vl : List Int) (k : Nat) : kt wl vl (k + 1) = kt wl vl k ++ dg (wl[k]?.getD 0) ++ [32] ++ dg (vl[k]?.getD 0) ++ [10] := rfl
theorem rt_succ (cl : List (List Int)) (k : Nat) : rt cl (k + 1) = rt cl k ++ lnk (cl[k]?.getD []) (cl[k]?.getD []).length ++ [10] := rfl
theorem kt_len (wl vl : List Int) (hl : wl.length = vl.length) (h : itemsE wl vl = 0) : ∀ k, k ≤ wl.length → (kt wl vl k).length ≤ 50 * k
  | 0, _ => by simp [kt]
  | k + 1, hk => by
    have h1 := kt_len wl vl hl h k (by omega)
    have h2 := items_ok wl vl hl h k (by omega)
    have h3 := dg_len _ h2.1
    have h4 := dg_len _ h2.2
    rw [kt_succ]
    unfold nth at h3 h4
    simp; omega
theorem rt_len (K : Int) (cl : List (List Int)) (hr : rowsP cl) (h : costE K 0 cl = 0) (hn : cl.length ≤ 24) : ∀ k, k ≤ cl.length → (rt cl k).length ≤ 600 * k
  | 0, _ => by simp [rt]
  | k + 1, hk => by
    have h1 := rt_len K cl hr h hn k (by omega)
    have h2 := row_ok K _ _ 0 (cost_ok K cl 0 h k (by omega))
    have h3 := hr k (by omega)
    have h4 := lnk_len (cl[k]?.getD []) (fun j hj => (h2 j hj).1) _ (Nat.le_refl _)
    rw [rt_succ]
    simp; omega
/-- the first line -/
def hd (K N C : Int) : List UInt8 := nameOf K ++ [32] ++ dg N ++ (if K = 1 then [32] ++ dg C else if K = 3 then [32, 70, 85, 76, 76] else []) ++ [10]
/-- a problem's text -/
def wtx (K N C : Int) (wl vl : List Int) (cl : List (List Int)) : List UInt8 := hd K N C ++ (if K = 1 then kt wl vl wl.length else rt cl cl.length)
attribute [irreducible] dg lnk kt rt
end Go.Proofs.YtknpjeeclagmjaaDoor

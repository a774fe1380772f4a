/-
  The reference's Sorted: the walk.
-/
import Derived.Test.YtgldgilhegdpjaaSoQ
namespace Go.Proofs.Ytgldgilhegdpjaa.so
open Go.RowKit
set_option linter.unusedVariables false
/-- a list of records that is read: where its elements lie, by their numbers -/
def RdL (TB : Tb) (rs : List Rec) (va : Option Addr) (w : World) : Prop := ∀ k : Nat, k < rs.length → ∃ gl, va = some ⟨gl, 0, none⟩ ∧ gl < w.heap.size ∧ w.cell? ⟨gl, k * 2, none⟩ = some (.int .i64 (TB.k k)) ∧ w.cell? ⟨gl, k * 2 + 1, none⟩ = some (.slice (TB.a k) (TB.n k) (TB.c k))
def tblz (ks : List (Int × Value)) : Tb := tbl (ks ++ [(0, .slice none 0 0)])
theorem tblz_at {ks : List (Int × Value)} {j : Nat} {b : Int} {a : Option Addr} {n c : Nat} (h : ks[j]? = some (b, .slice a n c)) : (tblz ks).k j = b ∧ (tblz ks).a j = a ∧ (tblz ks).n j = n ∧ (tblz ks).c j = c ∧ (tblz ks).e (j : Int) = (tbl ks).e (j : Int) := by
  have hj : j < ks.length := (List.getElem?_eq_some_iff.1 h).1
  have h2 : (ks ++ [(0, Value.slice none 0 0)])[j]? = some (b, .slice a n c) := by rw [List.getElem?_append_left hj]; exact h
  refine ⟨?_, ?_, ?_, ?_, ?_⟩
  · simp [tblz, tbl, h2]
  · simp [tblz, tbl, h2, slA]
  · simp [tblz, tbl, h2, slN]
  · simp [tblz, tbl, h2, slC]
  · simp [tblz, tbl, Tb.e, h2, h]
theorem tblz_end {ks : List (Int × Value)} {n : Nat} (hn : ks.length = n) : (tblz ks).k n = 0 ∧ (tblz ks).a n = none ∧ (tblz ks).n n = 0 ∧ (tblz ks).c n = 0 ∧ (tblz ks).e (n : Int) = (0, .slice none 0 0) := by
  subst hn
  have h2 : (ks ++ [(0, Value.slice none 0 0)])[ks.length]? = some (0, .slice none 0 0) := by simp
  refine ⟨?_, ?_, ?_, ?_, ?_⟩
  · simp [tblz, tbl]
  · simp [tblz, tbl, slA]
  · simp [tblz, tbl, slN]
  · simp [tblz, tbl, slC]
  · simp [tblz, tbl, Tb.e, slA, slN, slC]
/-- what the shift leaves: all from p on up to k stand one further, down to place j -/
def Shf (U V : List Int) (p j k : Nat) : Prop := V.length = k + 1 ∧ ∀ x, x < k + 1 → x ≠ j → nth V x = if x ≤ j then nth U x else nth U (x - 1)
theorem shf_start {U : List Int} {k : Nat} {z : Int} (h : U.length = k) (p : Nat) : Shf U (U ++ [z]) p k k := by
  refine ⟨by simp [h], fun x hx hne => ?_⟩
  rw [if_pos (by omega)]
  unfold nth
  rw [List.getElem?_append_left (by omega)]
theorem shf_step {U V : List Int} {p j k : Nat} (h : Shf U V p (j + 1) k) (hj : j + 1 < k + 1) : Shf U (V.set (j + 1) (nth V j)) p j k := by
  obtain ⟨h1, h2⟩ := h
  refine ⟨by simpa using h1, fun x hx hne => ?_⟩
  rw [nth_set _ _ _ _ (by omega)]
  by_cases e : j + 1 = x
  · rw [if_pos e, h2 j (by omega) (by omega), if_pos (by omega), if_neg (by omega)]
    rw [show x - 1 = j by omega]
  · rw [if_neg e, h2 x hx (fun h => e h.symm)]
    by_cases c : x ≤ j
    · rw [if_pos (by omega), if_pos c]
    · rw [if_neg (by omega), if_neg c]
theorem shf_end {U V : List Int} {p k : Nat} {z : Int} (h : Shf U V p p k) (hp : p ≤ k) : (V.set p z).length = k + 1 ∧ ∀ x, x < k + 1 → nth (V.set p z) x = if x < p then nth U x else if x = p then z else nth U (x - 1) := by
  obtain ⟨h1, h2⟩ := h
  refine ⟨by simpa using h1, fun x hx => ?_⟩
  rw [nth_set _ _ _ _ (by omega)]
  by_cases e : p = x
  · subst e; rw [if_pos rfl, if_neg (by omega), if_pos rfl]
  · rw [if_neg e, h2 x hx (fun h => e h.symm)]
    by_cases c : x < p
    · rw [if_pos (by omega), if_pos c]
    · rw [if_neg (by omega), if_neg c, if_neg (fun h => e h.symm)]
theorem rwn_snoc {TB : Tb} {B g k cap : Nat} {U : List Int} {w0 w w2 : World} {g2 cap2 : Nat} {z : Int} {b : Int} {p : Value} (h : Rwn TB B g k cap U w0 w) (he : TB.e z = (b, p)) (ho : w2.ownsRow B 45 2 (.slice (some ⟨g2, 0, none⟩) (k + 1) cap2) (k + 1) (enc (U.map TB.e) ++ [.int .i64 b, p])) (hb : Below B w0 w2) (hg : B ≤ g2) : Rwn TB B g2 (k + 1) cap2 (U ++ [z]) w0 w2 := by
  refine ⟨by simp [h.1], hg, ?_, hb⟩
  rw [List.map_append, enc_app]
  simpa [enc, he] using ho
end Go.Proofs.Ytgldgilhegdpjaa.so

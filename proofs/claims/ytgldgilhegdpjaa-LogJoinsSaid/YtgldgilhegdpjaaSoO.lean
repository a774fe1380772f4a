/-
  A list of records in a block of its own, told by the numbers of a table.
-/
import Derived.Test.YtgldgilhegdpjaaLg2
namespace Go.Proofs.Ytgldgilhegdpjaa.so
open Go.RowKit
set_option linter.unusedVariables false
/-- a table of records -/
structure Tb where
  k : Int → Int
  a : Int → Option Addr
  n : Int → Nat
  c : Int → Nat
def Tb.e (T : Tb) (x : Int) : Int × Value := (T.k x, .slice (T.a x) (T.n x) (T.c x))
theorem enc_set : ∀ (ks : List (Int × Value)) (j : Nat) (b : Int) (p : Value), enc (ks.set j (b, p)) = ((enc ks).set (j * 2) (.int .i64 b)).set (j * 2 + 1) p
  | [], j, b, p => by simp [enc]
  | a :: l, 0, b, p => rfl
  | a :: l, j + 1, b, p => by
    have ih := enc_set l j b p
    have e : ∀ (x : Int × Value) (r : List (Int × Value)), enc (x :: r) = .int .i64 x.1 :: x.2 :: enc r := fun _ _ => rfl
    rw [List.set_cons_succ, e, ih, e, show (j + 1) * 2 = j * 2 + 1 + 1 by omega, List.set_cons_succ, List.set_cons_succ, List.set_cons_succ, List.set_cons_succ]
def Own (TB : Tb) (B g n cap : Nat) (l : List Int) (w0 wr : World) : Prop := l.length = n ∧ B ≤ g ∧ wr.ownsRow B 36 2 (.slice (some ⟨g, 0, none⟩) n cap) n (enc (l.map TB.e)) ∧ Tw [g] w0 wr
section
variable {TB : Tb} {B g n cap : Nat} {l : List Int} {w0 wr w1 : World}
theorem Own.cell (h : Own TB B g n cap l w0 wr) (j : Nat) (hj : j < n) : wr.cell? ⟨g, j * 2, none⟩ = some (.int .i64 (TB.k (nth l j))) ∧ wr.cell? ⟨g, j * 2 + 1, none⟩ = some (.slice (TB.a (nth l j)) (TB.n (nth l j)) (TB.c (nth l j))) := by
  obtain ⟨h1, h2, h3, h4⟩ := h
  have e : (l.map TB.e)[j]? = some (TB.e (nth l j)) := by
    rw [List.getElem?_map, List.getElem?_eq_getElem (by omega), nth_at l j (by omega)]
    rfl
  obtain ⟨a1, a2⟩ := enc_get _ _ _ e
  exact ⟨by rw [h3.cellAt (j * 2) (by omega)]; exact a1, by rw [h3.cellAt (j * 2 + 1) (by omega)]; exact a2⟩
theorem Own.frozen (h : Own TB B g n cap l w0 wr) (j : Nat) : wr.frozen? ⟨g, j, none⟩ = false := h.2.2.1.frozenAt j
theorem Own.set (h : Own TB B g n cap l w0 wr) (j : Nat) (x : Int) : Own TB B g n cap (l.set j x) w0 ((wr.setCell ⟨g, j * 2, none⟩ (.int .i64 (TB.k x))).setCell ⟨g, j * 2 + 1, none⟩ (.slice (TB.a x) (TB.n x) (TB.c x))) := by
  obtain ⟨h1, h2, h3, h4⟩ := h
  refine ⟨by simpa using h1, h2, ?_, (h4.st g (.inl (by simp)) _ _).st g (.inl (by simp)) _ _⟩
  rw [List.map_set]
  show World.ownsRow _ _ _ _ _ _ (enc ((l.map TB.e).set j (TB.k x, .slice (TB.a x) (TB.n x) (TB.c x))))
  rw [enc_set]
  exact ((h3.stored (j * 2) _).1.stored (j * 2 + 1) _).1
theorem Own.blk (h : Own TB B g n cap l w0 wr) : ∃ cur, wr.heap[g]? = some (.cells cur 36 (0, 0)) := by
  rcases h.2.2.1.2 with ⟨h', _⟩ | ⟨g', cap', cur, h', _, hg, _⟩
  · cases h'
  · cases h'
    exact ⟨cur, hg⟩
theorem Own.keep (h : Own TB B g n cap l w0 wr) (hb : Below wr.heap.size wr w1) : Own TB B g n cap l w0 w1 := by
  obtain ⟨cur, hg⟩ := h.blk
  have hl := lt_hp hg
  obtain ⟨h1, h2, h3, h4⟩ := h
  exact ⟨h1, h2, (Fr.of (B := 0) (P := fun _ => False) hb).row h3 (fun h => h), h4.trans (Tw.of hb)⟩
end
end Go.Proofs.Ytgldgilhegdpjaa.so

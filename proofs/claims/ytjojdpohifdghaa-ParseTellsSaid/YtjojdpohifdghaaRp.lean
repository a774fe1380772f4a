/-
  The reference's Parse: what lies in memory behind its scan.
-/
import Derived.Test.YtjojdpohifdghaaPb
import Derived.Test.YtjojdpohifdghaaRScan
namespace Go.Proofs.Ytjojdpohifdghaa
open Go.RowKit
set_option linter.unusedVariables false
/-- tokens of the reference's in a block -/
def TR (g : Nat) (T : List Tok) (w : World) : Prop := ∃ cur : Array Value, w.heap[g]? = some (.cells cur 51 (0, 0)) ∧ ∀ j, j < T.length * 4 → cur[j]? = (encL T)[j]?
theorem TR.at {g : Nat} {T : List Tok} {w : World} (h : TR g T w) {p : Nat} (hp : p < T.length) : w.cell? ⟨g, p * 4, none⟩ = some (.int .i64 (tk T p).kind) ∧ w.cell? ⟨g, p * 4 + 1, none⟩ = some (.string (tk T p).text) ∧ w.cell? ⟨g, p * 4 + 2, none⟩ = some (.int .i64 (tk T p).num) ∧ w.cell? ⟨g, p * 4 + 3, none⟩ = some (.int .i64 (tk T p).at_) := by
  obtain ⟨cur, h1, h2⟩ := h
  have ht : T[p]? = some (tk T p) := by unfold tk; rw [List.getElem?_eq_getElem hp]; rfl
  have hc : ∀ j u, (encT (tk T p))[j]? = some u → w.cell? ⟨g, p * 4 + j, none⟩ = some u := fun j u hj => by
    have hj4 : j < 4 := (List.getElem?_eq_some_iff.1 hj).1
    rw [cell_of_row _ _ _ _ _ _ h1, h2 _ (by omega)]
    exact encL_get T p _ j u ht hj
  exact ⟨hc 0 _ rfl, hc 1 _ rfl, hc 2 _ rfl, hc 3 _ rfl⟩
theorem TR.up {g : Nat} {T : List Tok} {w w' : World} (h : TR g T w) (hb : Below w.heap.size w w') : TR g T w' := by
  obtain ⟨cur, h1, h2⟩ := h
  exact ⟨cur, (hb.block _ (lt_blk h1)).trans h1, h2⟩
theorem tr_of {g cap : Nat} {T : List Tok} {w : World} {B : Nat} (h : w.ownsRow B 51 4 (.slice (some ⟨g, 0, none⟩) T.length cap) T.length (encL T)) : TR g T w := by
  rcases h.2 with ⟨e, _⟩ | ⟨g', cap', cur, e, _, hh, hn, _, hs, ht⟩
  · cases e
  · injection e with e1 e2 e3
    injection e1 with e1
    injection e1 with e1
    subst e1 e3
    refine ⟨cur, hh, fun j hj => ?_⟩
    rw [← ht, List.getElem?_take_of_lt hj]
    exact (Array.getElem?_toList).symm
def zo : Obj := .cells #[.int .i64 0, .int .i64 0, .int .i64 0, .slice none 0 0, .slice none 0 0, .slice none 0 0] 26 (0, 0)
/-- the none in its box, and a place's cell -/
def ZS (z g o : Nat) (a : Int) (w : World) : Prop := (w.cell? ⟨z, 0, none⟩ = some (.int .i64 0) ∧ w.cell? ⟨z, 1, none⟩ = some (.int .i64 0) ∧ w.cell? ⟨z, 2, none⟩ = some (.int .i64 0) ∧ w.cell? ⟨z, 3, none⟩ = some (.slice none 0 0) ∧ w.cell? ⟨z, 4, none⟩ = some (.slice none 0 0) ∧ w.cell? ⟨z, 5, none⟩ = some (.slice none 0 0)) ∧ w.cell? ⟨g, o, none⟩ = some (.int .i64 a)
def z6 (q : Nat) (W : World) : World := ((((((W.setCell ⟨q, 0, none⟩ (.int .i64 0)).setCell ⟨q, 1, none⟩ (.int .i64 0)).setCell ⟨q, 2, none⟩ (.int .i64 0)).setCell ⟨q, 3, none⟩ (.slice none 0 0)).setCell ⟨q, 4, none⟩ (.slice none 0 0)).setCell ⟨q, 5, none⟩ (.slice none 0 0))
/-- all that a way out by an error wants -/
theorem ret_zero {w0 : World} (W : World) (q z g o : Nat) (a : Int) (hq : W.heap[q]? = some zo) (hz : W.heap[z]? = some zo) (ha : W.cell? ⟨g, o, none⟩ = some (.int .i64 a)) (hqz : q ≠ z) (hqg : q ≠ g) (hB : Below q w0 W) :
    ZS z g o a W.drew ∧ ZS z g o a (z6 q W.drew) ∧
    (W.drew.cell? ⟨q, 0, none⟩ = some (.int .i64 0) ∧ W.drew.cell? ⟨q, 1, none⟩ = some (.int .i64 0) ∧ W.drew.cell? ⟨q, 2, none⟩ = some (.int .i64 0) ∧ W.drew.cell? ⟨q, 3, none⟩ = some (.slice none 0 0) ∧ W.drew.cell? ⟨q, 4, none⟩ = some (.slice none 0 0) ∧ W.drew.cell? ⟨q, 5, none⟩ = some (.slice none 0 0)) ∧
    (W.drew.frozen? ⟨q, 0, none⟩ = false ∧ W.drew.frozen? ⟨q, 1, none⟩ = false ∧ W.drew.frozen? ⟨q, 2, none⟩ = false ∧ W.drew.frozen? ⟨q, 3, none⟩ = false ∧ W.drew.frozen? ⟨q, 4, none⟩ = false ∧ W.drew.frozen? ⟨q, 5, none⟩ = false) ∧
    ((z6 q W.drew).cell? ⟨q, 0, none⟩ = some (.int .i64 0) ∧ (z6 q W.drew).cell? ⟨q, 1, none⟩ = some (.int .i64 0) ∧ (z6 q W.drew).cell? ⟨q, 2, none⟩ = some (.int .i64 0) ∧ (z6 q W.drew).cell? ⟨q, 3, none⟩ = some (.slice none 0 0) ∧ (z6 q W.drew).cell? ⟨q, 4, none⟩ = some (.slice none 0 0) ∧ (z6 q W.drew).cell? ⟨q, 5, none⟩ = some (.slice none 0 0)) ∧
    Below q w0 (z6 q W.drew) := by
  have hqd : W.drew.heap[q]? = some zo := hq
  have hzd : W.drew.heap[z]? = some zo := hz
  have had : W.drew.cell? ⟨g, o, none⟩ = some (.int .i64 a) := ha
  have hbd : Below q w0 W.drew := ⟨hB.os, hB.tape, hB.output, hB.size, hB.block⟩
  generalize W.drew = V at *
  unfold zo at hqd hzd
  have zf := ip.fr6 hqd
  have o6 := fun k (hk : k ≠ q) => ip.six_other (w := V) (g := q) (k := k) hk (.int .i64 0) (.int .i64 0) (.int .i64 0) (.slice none 0 0) (.slice none 0 0) (.slice none 0 0)
  refine ⟨⟨ip.box6 hzd, had⟩, ⟨ip.box6 ((o6 z (Ne.symm hqz)).trans hzd), (World.cell?_of_block (a := ⟨g, o, none⟩) (o6 g (Ne.symm hqg))).trans had⟩, ip.box6 hqd, ⟨zf 0, zf 1, zf 2, zf 3, zf 4, zf 5⟩, ip.box6 (ip.six hqd _ _ _ _ _ _), ip.six_below hbd (Nat.le_refl _) _ _ _ _ _ _⟩
end Go.Proofs.Ytjojdpohifdghaa

/-
  The walk of kurganlaw05.InstMirrors: what its loop that turns keeps.
-/
import Derived.Test.YtknpjeeclagmjaaDoorChecksW
import Derived.Test.YtknpjeeclagmjaaDoorMirror
import Derived.Test.YtknpjeeclagmjaaDoorShape
namespace Go.Proofs.YtknpjeeclagmjaaDoor
open Go.RowKit
set_option linter.unusedVariables false

structure Tn (kd N C : Int) (n1 n2 m g1 g2 k1 k2 bx cc' : Nat) (ca' : Option Addr) (ls : List Nat) (w : World) (B : Nat) (W : World) : Prop where
  q : W.heap[bx]? = some (.cells #[.int .i64 kd, .int .i64 N, .int .i64 C, .slice (some ⟨g1, 0, none⟩) n1 k1, .slice (some ⟨g2, 0, none⟩) n2 k2, .slice ca' m cc'] 25 (0, 0))
  a : IntsX W g1 n1
  b : IntsX W g2 n2
  s : Shp B W ca' ls
  t : Tab W
  bl : Below w.heap.size w W
  hm : ls.length = m
  hB : w.heap.size ≤ B
  hp : 0 < w.heap.size
theorem Tn.keep {kd N C : Int} {n1 n2 m g1 g2 k1 k2 bx cc' : Nat} {ca' : Option Addr} {ls : List Nat} {w : World} {B : Nat} {W W1 : World} (h : Tn kd N C n1 n2 m g1 g2 k1 k2 bx cc' ca' ls w B W) (hb : Below W.heap.size W W1) : Tn kd N C n1 n2 m g1 g2 k1 k2 bx cc' ca' ls w B W1 :=
  { q := (hb.block _ (lt_hp h.q)).trans h.q
    a := by obtain ⟨c, e1, e2⟩ := h.a; exact ⟨c, (hb.block _ (lt_hp e1)).trans e1, e2⟩
    b := by obtain ⟨c, e1, e2⟩ := h.b; exact ⟨c, (hb.block _ (lt_hp e1)).trans e1, e2⟩
    s := h.s.keep hb
    t := tab_keep _ _ h.t hb
    bl := bl_tr h.bl hb
    hm := h.hm, hB := h.hB, hp := h.hp }
theorem Tn.set {kd N C : Int} {n1 n2 m g1 g2 k1 k2 bx cc' : Nat} {ca' : Option Addr} {ls : List Nat} {w : World} {B : Nat} {W : World} {gr c : Nat} {x : Int} {cs : Array Value} (h : Tn kd N C n1 n2 m g1 g2 k1 k2 bx cc' ca' ls w B W) (hb : W.heap[gr]? = some (.cells cs 3 (0, 0))) (hg : B ≤ gr) : Tn kd N C n1 n2 m g1 g2 k1 k2 bx cc' ca' ls w B (W.setCell ⟨gr, c, none⟩ (.int .i64 x)) :=
  { q := (set_other hb h.q (by decide)).trans h.q
    a := h.a.set hb
    b := h.b.set hb
    s := h.s.set hb
    t := tab_b h.t ((Below.refl w.heap.size W).setCell (p := ⟨gr, c, none⟩) (Nat.le_trans h.hB hg) _) h.hp
    bl := h.bl.setCell (p := ⟨gr, c, none⟩) (Nat.le_trans h.hB hg) _
    hm := h.hm, hB := h.hB, hp := h.hp }
/-- the row r of what is kept: its block, its cells -/
theorem Tn.row {kd N C : Int} {n1 n2 m g1 g2 k1 k2 bx cc' : Nat} {ca' : Option Addr} {ls : List Nat} {w : World} {B : Nat} {W : World} (h : Tn kd N C n1 n2 m g1 g2 k1 k2 bx cc' ca' ls w B W) {r : Nat} (hr : r < m) : ∃ (g gr cj : Nat) (cs : Array Value), ca' = some ⟨g, 0, none⟩ ∧ W.cell? ⟨g, r, none⟩ = some (.slice (some ⟨gr, 0, none⟩) (ls[r]?.getD 0) cj) ∧ W.heap[gr]? = some (.cells cs 3 (0, 0)) ∧
    (∀ c, c < ls[r]?.getD 0 → ∃ z, W.cell? ⟨gr, c, none⟩ = some (.int .i64 z)) ∧ B ≤ gr ∧ (ls[r]?.getD 0 ≤ 1000) ∧ ∃ co : Array Value, W.heap[g]? = some (.cells co 22 (0, 0)) := by
  rcases h.s with e | ⟨g, cur, e1, e2, e3⟩
  · have := h.hm; rw [e] at this; simp at this; omega
  · obtain ⟨gr, cj, f1, ⟨cs, f2, f2'⟩, f3, f4⟩ := e3 r (by have := h.hm; omega)
    refine ⟨g, gr, cj, cs, e1, ?_, f2, fun c hc => ?_, f4, f3, cur, e2⟩
    · rw [cell_of_row _ _ _ _ _ _ e2]; exact f1
    · obtain ⟨z, hz⟩ := f2' c hc
      exact ⟨z, by rw [cell_of_row _ _ _ _ _ _ f2]; exact hz⟩
theorem set_cell_same {W : World} {gr c gc r : Nat} {x : Int} (h : W.cell? ⟨gc, r, none⟩ = some (.int .i64 x)) : (W.setCell ⟨gr, c, none⟩ (.int .i64 x)).cell? ⟨gc, r, none⟩ = some (.int .i64 x) := by
  by_cases e : (⟨gr, c, none⟩ : Addr) = ⟨gc, r, none⟩
  · rw [e]; exact World.cell?_setCell_same _ _ _ h
  · exact (World.cell?_setCell_other _ _ _ _ e).trans h
theorem set_cell_other {W : World} {gr c k j : Nat} {x : Int} {cs cs2 : Array Value} {t : TypeId} (hb : W.heap[gr]? = some (.cells cs 3 (0, 0))) (hk : W.heap[k]? = some (.cells cs2 t (0, 0))) (ht : t ≠ 3) :
    (W.setCell ⟨gr, c, none⟩ (.int .i64 x)).cell? ⟨k, j, none⟩ = W.cell? ⟨k, j, none⟩ := World.cell?_of_block (a := ⟨k, j, none⟩) (set_other hb hk ht)
end Go.Proofs.YtknpjeeclagmjaaDoor

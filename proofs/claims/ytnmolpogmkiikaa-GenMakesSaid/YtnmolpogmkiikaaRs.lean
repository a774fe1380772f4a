/-
  Where the reference's Make stands at a knapsack: two lists that grow in rows of their own, behind one box, out of a third list.
-/
import Derived.Test.YtnmolpogmkiikaaNums
namespace Go.Proofs.Ytnmolpogmkiikaa
open Go.RowKit
set_option linter.unusedVariables false
structure RS (m s n : Int) (gl gr gi B : Nat) (cl : Array Value) (w : World) (a b : Nat) (bW bV vW vV : Value) (wr : World) : Prop where
  box : wr.heap[gi]? = some (.cells #[.int .i64 1, .int .i64 n, .int .i64 0, bW, bV, .slice none 0 0] 32 (0, 0))
  res : wr.heap[gr]? = some (.cells #[.int .i64 0, .int .i64 0, .int .i64 0, .slice none 0 0, .slice none 0 0, .slice none 0 0] 32 (0, 0))
  l : wr.heap[gl]? = some (.cells cl 3 (0, 0))
  rw : wr.ownsRow B 3 1 vW a (enc (WL m s a))
  rv : wr.ownsRow B 3 1 vV b (enc (VL m s b))
  ap : ∀ x, vW.ownBlock = some x → vV.ownBlock ≠ some x
  below : Below w.heap.size w wr
  sz : B ≤ wr.heap.size
  lo : gi < B
  lol : gl < B
  ne : gr ≠ gi
  base : w.heap.size ≤ gi
theorem RS.drew {m s n : Int} {gl gr gi B : Nat} {cl : Array Value} {w : World} {a b : Nat} {bW bV vW vV : Value} {wr : World} (h : RS m s n gl gr gi B cl w a b bW bV vW vV wr) : RS m s n gl gr gi B cl w a b bW bV vW vV wr.drew :=
  ⟨h.box, h.res, h.l, h.rw, h.rv, h.ap, ⟨h.below.os, h.below.tape, h.below.output, h.below.size, h.below.block⟩, h.sz, h.lo, h.lol, h.ne, h.base⟩
theorem RS.alloc {m s n : Int} {gl gr gi B : Nat} {cl : Array Value} {w : World} {a b : Nat} {bW bV vW vV : Value} {wr : World} (h : RS m s n gl gr gi B cl w a b bW bV vW vV wr) (o : Obj) : RS m s n gl gr gi B cl w a b bW bV vW vV (wr.alloc o) := by
  have hb := fun k (hk : k < wr.heap.size) => Below.heap_alloc wr o k hk
  exact ⟨(hb gi (lt_hp h.box)).trans h.box, (hb gr (lt_hp h.res)).trans h.res, (hb gl (lt_hp h.l)).trans h.l, h.rw.alloc o, h.rv.alloc o, h.ap, h.below.alloc h.below.size o, by rw [World.size_alloc]; have := h.sz; omega, h.lo, h.lol, h.ne, h.base⟩
theorem rs_keep {m s n : Int} {gl gr gi B : Nat} {cl : Array Value} {w : World} {a b : Nat} {bW bV vW vV : Value} {wr w1 : World} (h : RS m s n gl gr gi B cl w a b bW bV vW vV wr) {v : Value} {k : Nat} {xs : List Value} (hr : wr.ownsRow B 3 1 v k xs) (hg : wr.grownBy w1 v.ownBlock) :
    w1.heap[gi]? = some (.cells #[.int .i64 1, .int .i64 n, .int .i64 0, bW, bV, .slice none 0 0] 32 (0, 0)) ∧ w1.heap[gr]? = some (.cells #[.int .i64 0, .int .i64 0, .int .i64 0, .slice none 0 0, .slice none 0 0, .slice none 0 0] 32 (0, 0)) ∧ w1.heap[gl]? = some (.cells cl 3 (0, 0)) ∧ Below w.heap.size w w1 ∧ B ≤ w1.heap.size := by
  have hlol := h.lol
  have hlo := h.lo
  have hbase := h.base
  refine ⟨(hg.block gi (lt_hp h.box) (fun e => row_ne hr h.box (by decide) e.symm)).trans h.box, (hg.block gr (lt_hp h.res) (fun e => row_ne hr h.res (by decide) e.symm)).trans h.res, (hg.block gl (lt_hp h.l) (fun e => by have := (hr.lt gl e.symm).1; omega)).trans h.l, h.below.grown hg h.below.size (fun k hk => by have := (hr.lt k hk).1; omega), Nat.le_trans h.sz hg.size⟩
theorem RS.addW {m s n : Int} {gl gr gi B : Nat} {cl : Array Value} {w : World} {a b : Nat} {bW bV vW vV : Value} {wr w1 : World} (h : RS m s n gl gr gi B cl w a b bW bV vW vV wr) {g' cap : Nat} {x : Int} (hx : x = dr m s (a + a))
    (hown : w1.ownsRow B 3 1 (.slice (some ⟨g', 0, none⟩) (a + 1) cap) (a + 1) (enc (WL m s a) ++ [.int .i64 x])) (hgrow : wr.grownBy w1 vW.ownBlock) (hl : vW.ownBlock = some g' ∨ g' = wr.heap.size) :
    RS m s n gl gr gi B cl w (a + 1) b bW bV (.slice (some ⟨g', 0, none⟩) (a + 1) cap) vV w1 := by
  obtain ⟨o1, o2, o3, o4, o5⟩ := rs_keep h h.rw hgrow
  have hv : vV.ownBlock = none ∨ vV.ownBlock ≠ vW.ownBlock := by
    cases e : vW.ownBlock with
    | none => cases e2 : vV.ownBlock with
      | none => exact .inl rfl
      | some y => exact .inr (by simp)
    | some y => exact .inr (h.ap y e)
  refine ⟨o1, o2, o3, ?_, h.rv.kept hgrow hv, ?_, o4, o5, h.lo, h.lol, h.ne, h.base⟩
  · rw [WL_succ, enc_app, ← hx]; exact hown
  · intro y hy e
    injection hy with hy
    rcases hl with hl | hl
    · exact h.ap g' hl (by rw [e]; exact congrArg some hy.symm)
    · have := (h.rv.lt y e).2
      have : g' = y := hy
      omega
theorem RS.addV {m s n : Int} {gl gr gi B : Nat} {cl : Array Value} {w : World} {a b : Nat} {bW bV vW vV : Value} {wr w1 : World} (h : RS m s n gl gr gi B cl w a b bW bV vW vV wr) {g' cap : Nat} {x : Int} (hx : x = dr m s (b + b + 1))
    (hown : w1.ownsRow B 3 1 (.slice (some ⟨g', 0, none⟩) (b + 1) cap) (b + 1) (enc (VL m s b) ++ [.int .i64 x])) (hgrow : wr.grownBy w1 vV.ownBlock) (hl : vV.ownBlock = some g' ∨ g' = wr.heap.size) :
    RS m s n gl gr gi B cl w a (b + 1) bW bV vW (.slice (some ⟨g', 0, none⟩) (b + 1) cap) w1 := by
  obtain ⟨o1, o2, o3, o4, o5⟩ := rs_keep h h.rv hgrow
  have hv : vW.ownBlock = none ∨ vW.ownBlock ≠ vV.ownBlock := by
    cases e : vW.ownBlock with
    | none => exact .inl rfl
    | some y => exact .inr (fun q => h.ap y e q.symm)
  refine ⟨o1, o2, o3, h.rw.kept hgrow hv, ?_, ?_, o4, o5, h.lo, h.lol, h.ne, h.base⟩
  · rw [VL_succ, enc_app, ← hx]; exact hown
  · intro y hy e
    injection e with e
    have e' : g' = y := e
    rcases hl with hl | hl
    · exact h.ap y hy (by rw [hl, e'])
    · have := (h.rw.lt y hy).2
      omega
theorem rs_put {m s n : Int} {gl gr gi B : Nat} {cl : Array Value} {w : World} {a b : Nat} {bW bV vW vV : Value} {wr : World} (h : RS m s n gl gr gi B cl w a b bW bV vW vV wr) (j : Nat) (u : Value) {bW' bV' : Value} (hc : #[Value.int .i64 1, .int .i64 n, .int .i64 0, bW, bV, .slice none 0 0].setIfInBounds j u = #[.int .i64 1, .int .i64 n, .int .i64 0, bW', bV', .slice none 0 0]) :
    RS m s n gl gr gi B cl w a b bW' bV' vW vV (wr.setCell ⟨gi, j, none⟩ u) := by
  have hlo := h.lo
  have n1 : gl ≠ gi := fun e => by have := h.l; rw [e, h.box] at this; injection this with this; injection this with _ this; cases this
  refine ⟨?_, (heap_setCell_other wr ⟨gi, j, none⟩ gr u h.ne).trans h.res, (heap_setCell_other wr ⟨gi, j, none⟩ gl u n1).trans h.l, Go.RowKit.ownsRow_setCell_below h.rw hlo _, Go.RowKit.ownsRow_setCell_below h.rv hlo _, h.ap, h.below.setCell (p := ⟨gi, j, none⟩) h.base _, by simpa [World.setCell] using h.sz, h.lo, h.lol, h.ne, h.base⟩
  have := heap_setCell_same wr gi j _ 32 u h.box
  rwa [hc] at this
/-- a block of one number behind an append elsewhere -/
theorem one_kept {wr w1 : World} {p : Nat} {v u : Value} (hc : wr.heap[p]? = some (.cells #[u] 3 (0, 0))) (hg : wr.grownBy w1 v.ownBlock) (hn : v.ownBlock ≠ some p) : w1.heap[p]? = some (.cells #[u] 3 (0, 0)) :=
  (hg.block p (lt_hp hc) (fun e => hn e.symm)).trans hc
theorem one_new (wr : World) (u : Value) : (wr.alloc (.cells #[u] 3)).heap[wr.heap.size]? = some (.cells #[u] 3 (0, 0)) := by
  show (wr.heap.push (Obj.cells #[u] 3))[wr.heap.size]? = _
  simp
theorem one_alloc {wr : World} {p : Nat} {u : Value} (hc : wr.heap[p]? = some (.cells #[u] 3 (0, 0))) (o : Obj) : (wr.alloc o).heap[p]? = some (.cells #[u] 3 (0, 0)) := (Below.heap_alloc wr o p (lt_hp hc)).trans hc
theorem one_news {wr : World} {p : Nat} {u : Value} (hc : wr.heap[p]? = some (.cells #[u] 3 (0, 0))) : ∀ j v, [u][j]? = some v → wr.cell? ((⟨p, 0, none⟩ : Addr).add j) = some v := World.news_of_block (cs := #[u]) hc
theorem row_fresh {wr : World} {B n : Nat} {v : Value} {xs : List Value} (h : wr.ownsRow B 3 1 v n xs) : v.ownBlock ≠ some wr.heap.size := fun e => by have := (h.lt _ e).2; omega
end Go.Proofs.Ytnmolpogmkiikaa

/-
  Where the reference's Parse stands at a knapsack: two lists that grow in rows of their own, behind one box, out of a third list.
-/
import Derived.Test.YtjojdpohifdghaaRp5
namespace Go.Proofs.Ytjojdpohifdghaa
open Go.RowKit
set_option linter.unusedVariables false
/-- the numbers of the weights' and of the values' places -/
def WK (T : List Tok) (k : Nat) : List Int := (List.range k).map fun j => (tk T (2 + (1 + 2 * j))).num
def VK (T : List Tok) (k : Nat) : List Int := (List.range k).map fun j => (tk T (2 + (2 + 2 * j))).num
theorem WK_len (T : List Tok) (k : Nat) : (WK T k).length = k := by simp [WK]
theorem VK_len (T : List Tok) (k : Nat) : (VK T k).length = k := by simp [VK]
theorem WK_succ (T : List Tok) (k : Nat) : WK T (k + 1) = WK T k ++ [(tk T (2 + (1 + 2 * k))).num] := by simp [WK, List.range_succ]
theorem VK_succ (T : List Tok) (k : Nat) : VK T (k + 1) = VK T k ++ [(tk T (2 + (2 + 2 * k))).num] := by simp [VK, List.range_succ]
theorem WK_k (T : List Tok) (n : Nat) : kWl T n = WK T n := rfl
theorem VK_k (T : List Tok) (n : Nat) : kVl T n = VK T n := rfl
attribute [irreducible] WK VK
/-- the cells of the numbers' list -/
def NL (gl cn : Nat) (T : List Tok) (w : World) : Prop := ∀ i, i < cn → w.cell? ⟨gl, i, none⟩ = some (.int .i64 (tk T (2 + i)).num)
structure KR (T : List Tok) (n cp : Int) (gl cn gi B : Nat) (wL : World) (a b : Nat) (bW bV vW vV : Value) (wr : World) : Prop where
  box : wr.heap[gi]? = some (.cells #[.int .i64 1, .int .i64 n, .int .i64 cp, bW, bV, .slice none 0 0] 26 (0, 0))
  l : NL gl cn T wr
  rw : wr.ownsRow B 3 1 vW a (enc (WK T a))
  rv : wr.ownsRow B 3 1 vV b (enc (VK T b))
  ap : ∀ x, vW.ownBlock = some x → vV.ownBlock ≠ some x
  up : Up B gi wL wr
  sz : B ≤ wr.heap.size
  lo : gi < B
  lol : gl < B
  lg : gl ≠ gi
theorem NL.kept {gl cn : Nat} {T : List Tok} {w w' : World} (h : NL gl cn T w) (hb : w'.heap[gl]? = w.heap[gl]?) : NL gl cn T w' := fun i hi => (World.cell?_of_block (a := ⟨gl, i, none⟩) hb).trans (h i hi)
theorem KR.drew {T : List Tok} {n cp : Int} {gl cn gi B : Nat} {wL : World} {a b : Nat} {bW bV vW vV : Value} {wr : World} (h : KR T n cp gl cn gi B wL a b bW bV vW vV wr) : KR T n cp gl cn gi B wL a b bW bV vW vV wr.drew :=
  ⟨h.box, h.l.kept rfl, h.rw, h.rv, h.ap, h.up.drew, h.sz, h.lo, h.lol, h.lg⟩
theorem Up.alloc {B b : Nat} {w w1 : World} (h : Up B b w w1) (hB : B ≤ w1.heap.size) (o : Obj) : Up B b w (w1.alloc o) :=
  ⟨h.os, h.tape, h.output, by have := h.size; simp; omega, fun k hk hne => (Below.heap_alloc w1 o k (by omega)).trans (h.block k hk hne)⟩
theorem KR.alloc {T : List Tok} {n cp : Int} {gl cn gi B : Nat} {wL : World} {a b : Nat} {bW bV vW vV : Value} {wr : World} (h : KR T n cp gl cn gi B wL a b bW bV vW vV wr) (o : Obj) : KR T n cp gl cn gi B wL a b bW bV vW vV (wr.alloc o) := by
  have hz := h.sz
  have hl := h.lol
  exact ⟨(Below.heap_alloc wr o gi (lt_blk h.box)).trans h.box, h.l.kept (Below.heap_alloc wr o gl (by omega)), h.rw.alloc o, h.rv.alloc o, h.ap, h.up.alloc hz o, by simp; omega, h.lo, hl, h.lg⟩
theorem kr_keep {T : List Tok} {n cp : Int} {gl cn gi B : Nat} {wL : World} {a b : Nat} {bW bV vW vV : Value} {wr w1 : World} (h : KR T n cp gl cn gi B wL a b bW bV vW vV wr) {v : Value} {k : Nat} {xs : List Value} (hr : wr.ownsRow B 3 1 v k xs) (hg : wr.grownBy w1 v.ownBlock) :
    w1.heap[gi]? = some (.cells #[.int .i64 1, .int .i64 n, .int .i64 cp, bW, bV, .slice none 0 0] 26 (0, 0)) ∧ NL gl cn T w1 ∧ Up B gi wL w1 ∧ B ≤ w1.heap.size := by
  have hz := h.sz
  have hl := h.lol
  have hlo := h.lo
  have hb : ∀ k, k < B → w1.heap[k]? = wr.heap[k]? := fun k hk => hg.block k (by omega) (fun e => by have := (hr.lt k e.symm).1; omega)
  exact ⟨(hb gi hlo).trans h.box, h.l.kept (hb gl hl), ⟨hg.os.trans h.up.os, hg.tape.trans h.up.tape, hg.output.trans h.up.output, Nat.le_trans h.up.size hg.size, fun k hk hne => (hb k hk).trans (h.up.block k hk hne)⟩, Nat.le_trans hz hg.size⟩
theorem KR.addW {T : List Tok} {n cp : Int} {gl cn gi B : Nat} {wL : World} {a b : Nat} {bW bV vW vV : Value} {wr w1 : World} (h : KR T n cp gl cn gi B wL a b bW bV vW vV wr) {g' cap : Nat} {x : Int} (hx : x = (tk T (2 + (1 + 2 * a))).num)
    (hown : w1.ownsRow B 3 1 (.slice (some ⟨g', 0, none⟩) (a + 1) cap) (a + 1) (enc (WK T a) ++ [.int .i64 x])) (hgrow : wr.grownBy w1 vW.ownBlock) (hl : vW.ownBlock = some g' ∨ g' = wr.heap.size) :
    KR T n cp gl cn gi B wL (a + 1) b bW bV (.slice (some ⟨g', 0, none⟩) (a + 1) cap) vV w1 := by
  obtain ⟨o1, o2, o4, o5⟩ := kr_keep h h.rw hgrow
  have hv : vV.ownBlock = none ∨ vV.ownBlock ≠ vW.ownBlock := by
    cases e : vW.ownBlock with
    | none => cases e2 : vV.ownBlock with
      | none => exact .inl rfl
      | some y => exact .inr (by simp)
    | some y => exact .inr (h.ap y e)
  refine ⟨o1, o2, ?_, h.rv.kept hgrow hv, ?_, o4, o5, h.lo, h.lol, h.lg⟩
  · rw [WK_succ, enc_app, ← hx]; exact hown
  · intro y hy e
    injection hy with hy
    rcases hl with hl | hl
    · exact h.ap g' hl (by rw [e]; exact congrArg some hy.symm)
    · have := (h.rv.lt y e).2
      have : g' = y := hy
      omega
theorem KR.addV {T : List Tok} {n cp : Int} {gl cn gi B : Nat} {wL : World} {a b : Nat} {bW bV vW vV : Value} {wr w1 : World} (h : KR T n cp gl cn gi B wL a b bW bV vW vV wr) {g' cap : Nat} {x : Int} (hx : x = (tk T (2 + (2 + 2 * b))).num)
    (hown : w1.ownsRow B 3 1 (.slice (some ⟨g', 0, none⟩) (b + 1) cap) (b + 1) (enc (VK T b) ++ [.int .i64 x])) (hgrow : wr.grownBy w1 vV.ownBlock) (hl : vV.ownBlock = some g' ∨ g' = wr.heap.size) :
    KR T n cp gl cn gi B wL a (b + 1) bW bV vW (.slice (some ⟨g', 0, none⟩) (b + 1) cap) w1 := by
  obtain ⟨o1, o2, o4, o5⟩ := kr_keep h h.rv hgrow
  have hv : vW.ownBlock = none ∨ vW.ownBlock ≠ vV.ownBlock := by
    cases e : vW.ownBlock with
    | none => exact .inl rfl
    | some y => exact .inr (fun q => h.ap y e q.symm)
  refine ⟨o1, o2, h.rw.kept hgrow hv, ?_, ?_, o4, o5, h.lo, h.lol, h.lg⟩
  · rw [VK_succ, enc_app, ← hx]; exact hown
  · intro y hy e
    injection e with e
    have e' : g' = y := e
    rcases hl with hl | hl
    · exact h.ap y hy (by rw [hl, e'])
    · have := (h.rw.lt y hy).2
      omega
theorem kr_put {T : List Tok} {n cp : Int} {gl cn gi B : Nat} {wL : World} {a b : Nat} {bW bV vW vV : Value} {wr : World} (h : KR T n cp gl cn gi B wL a b bW bV vW vV wr) (j : Nat) (u : Value) {bW' bV' : Value} (hc : #[Value.int .i64 1, .int .i64 n, .int .i64 cp, bW, bV, .slice none 0 0].setIfInBounds j u = #[.int .i64 1, .int .i64 n, .int .i64 cp, bW', bV', .slice none 0 0]) :
    KR T n cp gl cn gi B wL a b bW' bV' vW vV (wr.setCell ⟨gi, j, none⟩ u) := by
  have hlo := h.lo
  refine ⟨?_, h.l.kept (heap_setCell_other wr ⟨gi, j, none⟩ gl u h.lg), ownsRow_setCell_below (a := ⟨gi, j, none⟩) h.rw hlo _, ownsRow_setCell_below (a := ⟨gi, j, none⟩) h.rv hlo _, h.ap, ?_, by simpa [World.setCell] using h.sz, h.lo, h.lol, h.lg⟩
  · have := heap_setCell_same wr gi j _ 26 u h.box
    rwa [hc] at this
  · exact ⟨h.up.os, h.up.tape, h.up.output, by simpa [World.setCell] using h.up.size, fun k hk hne => (heap_setCell_other wr ⟨gi, j, none⟩ k u (by show k ≠ gi; exact hne)).trans (h.up.block k hk hne)⟩
/-- a block of one number behind an append elsewhere -/
theorem one_kept {wr w1 : World} {p : Nat} {v u : Value} (hc : wr.heap[p]? = some (.cells #[u] 3 (0, 0))) (hg : wr.grownBy w1 v.ownBlock) (hn : v.ownBlock ≠ some p) : w1.heap[p]? = some (.cells #[u] 3 (0, 0)) :=
  (hg.block p (lt_blk hc) (fun e => hn e.symm)).trans hc
theorem one_new (wr : World) (u : Value) : (wr.alloc (.cells #[u] 3)).heap[wr.heap.size]? = some (.cells #[u] 3 (0, 0)) := heap_alloc_new wr _
theorem one_alloc {wr : World} {p : Nat} {u : Value} (hc : wr.heap[p]? = some (.cells #[u] 3 (0, 0))) (o : Obj) : (wr.alloc o).heap[p]? = some (.cells #[u] 3 (0, 0)) := (Below.heap_alloc wr o p (lt_blk hc)).trans hc
theorem one_news {wr : World} {p : Nat} {u : Value} (hc : wr.heap[p]? = some (.cells #[u] 3 (0, 0))) : ∀ j v, [u][j]? = some v → wr.cell? ((⟨p, 0, none⟩ : Addr).add j) = some v := World.news_of_block (cs := #[u]) hc
theorem row_fresh {wr : World} {B n : Nat} {v : Value} {xs : List Value} (h : wr.ownsRow B 3 1 v n xs) : v.ownBlock ≠ some wr.heap.size := fun e => by have := (h.lt _ e).2; omega
end Go.Proofs.Ytjojdpohifdghaa

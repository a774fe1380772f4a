/-
  Where drawer.knapsack stands: two lists that grow in rows of their own, behind one box.
-/
import Derived.Test.YtnmolpogmkiikaaSeq
import Derived.OwnWalk
import Derived.Laws.AppendOwn
import Derived.Laws.OwnMore
import Derived.Deep.AppendLies
import Derived.Maps.AppendAt
namespace Go.Proofs.Ytnmolpogmkiikaa
open Go.RowKit
set_option linter.unusedVariables false
theorem lt_hp {w : World} {k : Nat} {o : Obj} (h : w.heap[k]? = some o) : k < w.heap.size := by
  rcases Nat.lt_or_ge k w.heap.size with hlt | hge
  · exact hlt
  · rw [Array.getElem?_eq_none hge] at h; cases h
theorem blk_ne {W : World} {a b : Nat} {c1 c2 : Array Value} {t1 t2 : TypeId} (h1 : W.heap[a]? = some (.cells c1 t1 (0, 0))) (h2 : W.heap[b]? = some (.cells c2 t2 (0, 0))) (h : t1 ≠ t2) : a ≠ b := by
  rintro rfl
  rw [h1] at h2
  injection h2 with h2
  injection h2 with _ h2
  exact h h2
theorem row_kind {w : World} {B n : Nat} {v : Value} {xs : List Value} (h : w.ownsRow B 3 1 v n xs) {x : Nat} (hx : v.ownBlock = some x) : ∃ cur, w.heap[x]? = some (.cells cur 3 (0, 0)) := by
  rcases h.2 with ⟨rfl, _⟩ | ⟨g, cap, cur, rfl, _, hg, _⟩
  · cases hx
  · injection hx with hx
    subst hx
    exact ⟨cur, hg⟩
theorem row_ne {w : World} {B n b : Nat} {v : Value} {xs : List Value} {cs : Array Value} {t : TypeId} (h : w.ownsRow B 3 1 v n xs) (hb : w.heap[b]? = some (.cells cs t (0, 0))) (ht : t ≠ 3) : v.ownBlock ≠ some b := fun e => by
  obtain ⟨cur, hc⟩ := row_kind h e
  exact blk_ne hb hc ht rfl
/-- the numbers of even and of odd places -/
def WL (m s : Int) (k : Nat) : List Int := (List.range k).map fun j => dr m s (j + j)
def VL (m s : Int) (k : Nat) : List Int := (List.range k).map fun j => dr m s (j + j + 1)
theorem WL_len (m s : Int) (k : Nat) : (WL m s k).length = k := by simp [WL]
theorem VL_len (m s : Int) (k : Nat) : (VL m s k).length = k := by simp [VL]
theorem WL_succ (m s : Int) (k : Nat) : WL m s (k + 1) = WL m s k ++ [dr m s (k + k)] := by simp [WL, List.range_succ]
theorem VL_succ (m s : Int) (k : Nat) : VL m s (k + 1) = VL m s k ++ [dr m s (k + k + 1)] := by simp [VL, List.range_succ]
attribute [irreducible] WL VL
def enc (l : List Int) : List Value := l.map (Value.int .i64)
theorem enc_app (l : List Int) (x : Int) : enc (l ++ [x]) = enc l ++ [.int .i64 x] := by simp [enc]
structure KS (m s n : Int) (g gr gi B : Nat) (w : World) (t a b : Nat) (vW vV : Value) (wr : World) : Prop where
  box : wr.heap[gi]? = some (.cells #[.int .i64 1, .int .i64 n, .int .i64 0, vW, vV, .slice none 0 0] 32 (0, 0))
  res : wr.heap[gr]? = some (.cells #[.int .i64 0, .int .i64 0, .int .i64 0, .slice none 0 0, .slice none 0 0, .slice none 0 0] 32 (0, 0))
  d : wr.heap[g]? = some (.cells #[.int .u64 (sd s t), .int .i64 m] 42 (0, 0))
  rw : wr.ownsRow B 3 1 vW a (enc (WL m s a))
  rv : wr.ownsRow B 3 1 vV b (enc (VL m s b))
  ap : ∀ x, vW.ownBlock = some x → vV.ownBlock ≠ some x
  gone : w.grownBy wr (some g)
  sz : B ≤ wr.heap.size
  lo : gi < B
  ne : gr ≠ gi
  base : w.heap.size ≤ gi
theorem KS.call {m s n : Int} {g gr gi B : Nat} {w : World} {t a b : Nat} {vW vV : Value} {wr w1 : World} (h : KS m s n g gr gi B w t a b vW vV wr) (hg : wr.grownBy w1 (some g)) (hd : w1.heap[g]? = some (.cells #[.int .u64 (sd s (t + 1)), .int .i64 m] 42 (0, 0))) : KS m s n g gr gi B w (t + 1) a b vW vV w1 := by
  have n1 : gi ≠ g := blk_ne h.box h.d (by decide)
  have n2 : gr ≠ g := blk_ne h.res h.d (by decide)
  refine ⟨(hg.block gi (lt_hp h.box) (fun e => n1 (by injection e))).trans h.box, (hg.block gr (lt_hp h.res) (fun e => n2 (by injection e))).trans h.res, hd, h.rw.kept hg (.inr (row_ne h.rw h.d (by decide))), h.rv.kept hg (.inr (row_ne h.rv h.d (by decide))), h.ap, ?_, Nat.le_trans h.sz hg.size, h.lo, h.ne, h.base⟩
  exact ⟨hg.os.trans h.gone.os, hg.tape.trans h.gone.tape, hg.output.trans h.gone.output, Nat.le_trans h.gone.size hg.size, fun i hi hne => (hg.block i (Nat.lt_of_lt_of_le hi h.gone.size) hne).trans (h.gone.block i hi hne)⟩
theorem KS.alloc {m s n : Int} {g gr gi B : Nat} {w : World} {t a b : Nat} {vW vV : Value} {wr : World} (h : KS m s n g gr gi B w t a b vW vV wr) (o : Obj) : KS m s n g gr gi B w t a b vW vV (wr.alloc o) := by
  have hb := fun k (hk : k < wr.heap.size) => Below.heap_alloc wr o k hk
  exact ⟨(hb gi (lt_hp h.box)).trans h.box, (hb gr (lt_hp h.res)).trans h.res, (hb g (lt_hp h.d)).trans h.d, h.rw.alloc o, h.rv.alloc o, h.ap,
    ⟨h.gone.os, h.gone.tape, h.gone.output, by rw [World.size_alloc]; have := h.gone.size; omega, fun i hi hne => (hb i (Nat.lt_of_lt_of_le hi h.gone.size)).trans (h.gone.block i hi hne)⟩, by rw [World.size_alloc]; have := h.sz; omega, h.lo, h.ne, h.base⟩
theorem KS.drew {m s n : Int} {g gr gi B : Nat} {w : World} {t a b : Nat} {vW vV : Value} {wr : World} (h : KS m s n g gr gi B w t a b vW vV wr) : KS m s n g gr gi B w t a b vW vV wr.drew :=
  ⟨h.box, h.res, h.d, h.rw, h.rv, h.ap, ⟨h.gone.os, h.gone.tape, h.gone.output, h.gone.size, h.gone.block⟩, h.sz, h.lo, h.ne, h.base⟩
/-- what an append to one row and a store into the box leave -/
theorem ks_other {m s n : Int} {g gr gi B : Nat} {w : World} {t a b : Nat} {vW vV : Value} {wr w1 : World} (h : KS m s n g gr gi B w t a b vW vV wr) {v : Value} {k : Nat} {xs : List Value} (hr : wr.ownsRow B 3 1 v k xs) (hgrow : wr.grownBy w1 v.ownBlock) (j : Nat) (u : Value) :
    (w1.setCell ⟨gi, j, none⟩ u).heap[gi]? = some (.cells (#[.int .i64 1, .int .i64 n, .int .i64 0, vW, vV, .slice none 0 0].setIfInBounds j u) 32 (0, 0)) ∧
    (w1.setCell ⟨gi, j, none⟩ u).heap[gr]? = some (.cells #[.int .i64 0, .int .i64 0, .int .i64 0, .slice none 0 0, .slice none 0 0, .slice none 0 0] 32 (0, 0)) ∧
    (w1.setCell ⟨gi, j, none⟩ u).heap[g]? = some (.cells #[.int .u64 (sd s t), .int .i64 m] 42 (0, 0)) ∧ w.grownBy (w1.setCell ⟨gi, j, none⟩ u) (some g) ∧ B ≤ (w1.setCell ⟨gi, j, none⟩ u).heap.size := by
  have n1 : gi ≠ g := blk_ne h.box h.d (by decide)
  have q1 := (hgrow.block gi (lt_hp h.box) (fun e => row_ne hr h.box (by decide) e.symm)).trans h.box
  have q2 := (hgrow.block gr (lt_hp h.res) (fun e => row_ne hr h.res (by decide) e.symm)).trans h.res
  have q3 := (hgrow.block g (lt_hp h.d) (fun e => row_ne hr h.d (by decide) e.symm)).trans h.d
  have hs : (w1.setCell ⟨gi, j, none⟩ u).heap.size = w1.heap.size := by simp [World.setCell]
  refine ⟨heap_setCell_same w1 gi j _ 32 u q1, (heap_setCell_other w1 ⟨gi, j, none⟩ gr u h.ne).trans q2, (heap_setCell_other w1 ⟨gi, j, none⟩ g u (Ne.symm n1)).trans q3, ⟨hgrow.os.trans h.gone.os, hgrow.tape.trans h.gone.tape, hgrow.output.trans h.gone.output, by rw [hs]; exact Nat.le_trans h.gone.size hgrow.size, fun i hi hne => ?_⟩, by rw [hs]; exact Nat.le_trans h.sz hgrow.size⟩
  have hb := h.base
  have hlo := h.lo
  rw [heap_setCell_other w1 ⟨gi, j, none⟩ i u (by show i ≠ gi; omega)]
  exact (hgrow.block i (Nat.lt_of_lt_of_le hi h.gone.size) (fun e => by have := (hr.lt i e.symm).1; omega)).trans (h.gone.block i hi hne)
theorem KS.addW {m s n : Int} {g gr gi B : Nat} {w : World} {t a b : Nat} {vW vV : Value} {wr w1 : World} (h : KS m s n g gr gi B w t a b vW vV wr) {g' cap : Nat} {x : Int} (hx : x = dr m s (a + a))
    (hown : w1.ownsRow B 3 1 (.slice (some ⟨g', 0, none⟩) (a + 1) cap) (a + 1) (enc (WL m s a) ++ [.int .i64 x])) (hgrow : wr.grownBy w1 vW.ownBlock) (hl : vW.ownBlock = some g' ∨ g' = wr.heap.size) :
    KS m s n g gr gi B w t (a + 1) b (.slice (some ⟨g', 0, none⟩) (a + 1) cap) vV (w1.setCell ⟨gi, 3, none⟩ (.slice (some ⟨g', 0, none⟩) (a + 1) cap)) := by
  obtain ⟨o1, o2, o3, o4, o5⟩ := ks_other h h.rw hgrow 3 (.slice (some ⟨g', 0, none⟩) (a + 1) cap)
  have hv : vV.ownBlock = none ∨ vV.ownBlock ≠ vW.ownBlock := by
    cases e : vW.ownBlock with
    | none => cases e2 : vV.ownBlock with
      | none => exact .inl rfl
      | some y => exact .inr (by simp)
    | some y => exact .inr (h.ap y e)
  refine ⟨o1, o2, o3, ?_, ?_, ?_, o4, o5, h.lo, h.ne, h.base⟩
  · rw [WL_succ, enc_app, ← hx]
    exact Go.RowKit.ownsRow_setCell_below hown h.lo _
  · exact Go.RowKit.ownsRow_setCell_below (h.rv.kept hgrow hv) h.lo _
  · intro y hy e
    injection hy with hy
    rcases hl with hl | hl
    · exact h.ap g' hl (by rw [e]; exact congrArg some hy.symm)
    · have := (h.rv.lt y e).2
      have : g' = y := hy
      omega
theorem KS.addV {m s n : Int} {g gr gi B : Nat} {w : World} {t a b : Nat} {vW vV : Value} {wr w1 : World} (h : KS m s n g gr gi B w t a b vW vV wr) {g' cap : Nat} {x : Int} (hx : x = dr m s (b + b + 1))
    (hown : w1.ownsRow B 3 1 (.slice (some ⟨g', 0, none⟩) (b + 1) cap) (b + 1) (enc (VL m s b) ++ [.int .i64 x])) (hgrow : wr.grownBy w1 vV.ownBlock) (hl : vV.ownBlock = some g' ∨ g' = wr.heap.size) :
    KS m s n g gr gi B w t a (b + 1) vW (.slice (some ⟨g', 0, none⟩) (b + 1) cap) (w1.setCell ⟨gi, 4, none⟩ (.slice (some ⟨g', 0, none⟩) (b + 1) cap)) := by
  obtain ⟨o1, o2, o3, o4, o5⟩ := ks_other h h.rv hgrow 4 (.slice (some ⟨g', 0, none⟩) (b + 1) cap)
  have hv : vW.ownBlock = none ∨ vW.ownBlock ≠ vV.ownBlock := by
    cases e : vW.ownBlock with
    | none => exact .inl rfl
    | some y => exact .inr (fun q => h.ap y e q.symm)
  refine ⟨o1, o2, o3, ?_, ?_, ?_, o4, o5, h.lo, h.ne, h.base⟩
  · exact Go.RowKit.ownsRow_setCell_below (h.rw.kept hgrow hv) h.lo _
  · rw [VL_succ, enc_app, ← hx]
    exact Go.RowKit.ownsRow_setCell_below hown h.lo _
  · intro y hy e
    injection e with e
    have e' : g' = y := e
    rcases hl with hl | hl
    · exact h.ap y hy (by rw [hl, e'])
    · have := (h.rw.lt y hy).2
      omega
end Go.Proofs.Ytnmolpogmkiikaa

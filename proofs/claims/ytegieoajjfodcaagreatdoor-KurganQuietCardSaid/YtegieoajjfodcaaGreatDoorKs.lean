/-
  Where the reader's knapsack stands: two lists that grow in rows of their own, behind one box.
-/
import Derived.Test.YtegieoajjfodcaaGreatDoorTour
namespace Go.Proofs.YtegieoajjfodcaaGreatDoor
open Go.RowKit
set_option linter.unusedVariables false
/-- the numbers of the weights' and of the values' places -/
def WL (T : List Tok) (S : St) (k : Nat) : List Int := (List.range k).map fun j => vn eK T S (1 + (j + j))
def VL (T : List Tok) (S : St) (k : Nat) : List Int := (List.range k).map fun j => vn eK T S (1 + (j + j + 1))
theorem WL_len (T : List Tok) (S : St) (k : Nat) : (WL T S k).length = k := by simp [WL]
theorem VL_len (T : List Tok) (S : St) (k : Nat) : (VL T S k).length = k := by simp [VL]
theorem WL_succ (T : List Tok) (S : St) (k : Nat) : WL T S (k + 1) = WL T S k ++ [vn eK T S (1 + (k + k))] := by simp [WL, List.range_succ]
theorem VL_succ (T : List Tok) (S : St) (k : Nat) : VL T S (k + 1) = VL T S k ++ [vn eK T S (1 + (k + k + 1))] := by simp [VL, List.range_succ]
attribute [irreducible] WL VL
def enc (l : List Int) : List Value := l.map (Value.int .i64)
theorem enc_app (l : List Int) (x : Int) : enc (l ++ [x]) = enc l ++ [.int .i64 x] := by simp [enc]
structure KS (b g C : Nat) (T : List Tok) (S : St) (n cp : Int) (gr gi B : Nat) (w : World) (t a c : Nat) (vW vV : Value) (wr : World) : Prop where
  box : wr.heap[gi]? = some (.cells #[.int .i64 1, .int .i64 n, .int .i64 cp, vW, vV, .slice none 0 0] 30 (0, 0))
  res : wr.heap[gr]? = some (.cells #[.int .i64 0, .int .i64 0, .int .i64 0, .slice none 0 0, .slice none 0 0, .slice none 0 0] 30 (0, 0))
  rd : RS b g C T (steps eK T S t) wr
  rw : wr.ownsRow B 3 1 vW a (enc (WL T S a))
  rv : wr.ownsRow B 3 1 vV c (enc (VL T S c))
  ap : ∀ x, vW.ownBlock = some x → vV.ownBlock ≠ some x
  gone : w.grownBy wr (some b)
  sz : B ≤ wr.heap.size
  lo : gi < B
  ne : gr ≠ gi
  base : w.heap.size ≤ gi
theorem RS.rbox {b g C : Nat} {T : List Tok} {s : St} {w : World} (h : RS b g C T s w) : ∃ cs : Array Value, w.heap[b]? = some (.cells cs 62 (0, 0)) := ⟨_, by have := h.box; unfold RD at this; exact this⟩
theorem KS.call {b g C : Nat} {T : List Tok} {S : St} {n cp : Int} {gr gi B : Nat} {w : World} {t a c : Nat} {vW vV : Value} {wr w1 : World} (h : KS b g C T S n cp gr gi B w t a c vW vV wr) (hg : wr.grownBy w1 (some b)) (hd : RS b g C T (steps eK T S (t + 1)) w1) : KS b g C T S n cp gr gi B w (t + 1) a c vW vV w1 := by
  have n1 := (h.rd.far h.box (by decide) (by decide)).1
  have n2 := (h.rd.far h.res (by decide) (by decide)).1
  obtain ⟨cs, hb⟩ := h.rd.rbox
  refine ⟨(hg.block gi (ip.lt_hp h.box) (fun e => n1 (by injection e))).trans h.box, (hg.block gr (ip.lt_hp h.res) (fun e => n2 (by injection e))).trans h.res, hd, h.rw.kept hg (.inr (row_neE h.rw hb (by decide))), h.rv.kept hg (.inr (row_neE h.rv hb (by decide))), h.ap, ?_, Nat.le_trans h.sz hg.size, h.lo, h.ne, h.base⟩
  exact ⟨hg.os.trans h.gone.os, hg.tape.trans h.gone.tape, hg.output.trans h.gone.output, Nat.le_trans h.gone.size hg.size, fun i hi hne => (hg.block i (Nat.lt_of_lt_of_le hi h.gone.size) hne).trans (h.gone.block i hi hne)⟩
theorem KS.alloc {b g C : Nat} {T : List Tok} {S : St} {n cp : Int} {gr gi B : Nat} {w : World} {t a c : Nat} {vW vV : Value} {wr : World} (h : KS b g C T S n cp gr gi B w t a c vW vV wr) (o : Obj) : KS b g C T S n cp gr gi B w t a c vW vV (wr.alloc o) := by
  have hb := fun k (hk : k < wr.heap.size) => Below.heap_alloc wr o k hk
  exact ⟨(hb gi (ip.lt_hp h.box)).trans h.box, (hb gr (ip.lt_hp h.res)).trans h.res, h.rd.alloc o, h.rw.alloc o, h.rv.alloc o, h.ap,
    ⟨h.gone.os, h.gone.tape, h.gone.output, by rw [World.size_alloc]; have := h.gone.size; omega, fun i hi hne => (hb i (Nat.lt_of_lt_of_le hi h.gone.size)).trans (h.gone.block i hi hne)⟩, by rw [World.size_alloc]; have := h.sz; omega, h.lo, h.ne, h.base⟩
theorem KS.drew {b g C : Nat} {T : List Tok} {S : St} {n cp : Int} {gr gi B : Nat} {w : World} {t a c : Nat} {vW vV : Value} {wr : World} (h : KS b g C T S n cp gr gi B w t a c vW vV wr) : KS b g C T S n cp gr gi B w t a c vW vV wr.drew :=
  ⟨h.box, h.res, h.rd.drew, h.rw, h.rv, h.ap, ⟨h.gone.os, h.gone.tape, h.gone.output, h.gone.size, h.gone.block⟩, h.sz, h.lo, h.ne, h.base⟩
/-- what an append to one row and a store into the box leave -/
theorem ks_other {b g C : Nat} {T : List Tok} {S : St} {n cp : Int} {gr gi B : Nat} {w : World} {t a c : Nat} {vW vV : Value} {wr w1 : World} (h : KS b g C T S n cp gr gi B w t a c vW vV wr) {v : Value} {k : Nat} {xs : List Value} (hr : wr.ownsRow B 3 1 v k xs) (hgrow : wr.grownBy w1 v.ownBlock) (j : Nat) (u : Value) :
    (w1.setCell ⟨gi, j, none⟩ u).heap[gi]? = some (.cells (#[.int .i64 1, .int .i64 n, .int .i64 cp, vW, vV, .slice none 0 0].setIfInBounds j u) 30 (0, 0)) ∧
    (w1.setCell ⟨gi, j, none⟩ u).heap[gr]? = some (.cells #[.int .i64 0, .int .i64 0, .int .i64 0, .slice none 0 0, .slice none 0 0, .slice none 0 0] 30 (0, 0)) ∧
    RS b g C T (steps eK T S t) (w1.setCell ⟨gi, j, none⟩ u) ∧ w.grownBy (w1.setCell ⟨gi, j, none⟩ u) (some b) ∧ B ≤ (w1.setCell ⟨gi, j, none⟩ u).heap.size := by
  obtain ⟨n1, n1g⟩ := h.rd.far h.box (by decide) (by decide)
  have q1 := (hgrow.block gi (ip.lt_hp h.box) (fun e => row_neE hr h.box (by decide) e.symm)).trans h.box
  have q2 := (hgrow.block gr (ip.lt_hp h.res) (fun e => row_neE hr h.res (by decide) e.symm)).trans h.res
  have q3 : RS b g C T (steps eK T S t) w1 := by
    obtain ⟨cs, hb⟩ := h.rd.rbox
    obtain ⟨cur, hgg, _⟩ := h.rd.toks
    exact h.rd.keep (hgrow.block b h.rd.ltb.1 (fun e => row_neE hr hb (by decide) e.symm)) (hgrow.block g h.rd.ltb.2 (fun e => row_neE hr hgg (by decide) e.symm))
  have hs : (w1.setCell ⟨gi, j, none⟩ u).heap.size = w1.heap.size := by simp [World.setCell]
  refine ⟨heap_setCell_same w1 gi j _ 30 u q1, (heap_setCell_other w1 ⟨gi, j, none⟩ gr u h.ne).trans q2, q3.set n1 n1g j u, ⟨hgrow.os.trans h.gone.os, hgrow.tape.trans h.gone.tape, hgrow.output.trans h.gone.output, by rw [hs]; exact Nat.le_trans h.gone.size hgrow.size, fun i hi hne => ?_⟩, by rw [hs]; exact Nat.le_trans h.sz hgrow.size⟩
  have hb := h.base
  have hlo := h.lo
  rw [heap_setCell_other w1 ⟨gi, j, none⟩ i u (by show i ≠ gi; omega)]
  exact (hgrow.block i (Nat.lt_of_lt_of_le hi h.gone.size) (fun e => by have := (hr.lt i e.symm).1; omega)).trans (h.gone.block i hi hne)
theorem KS.addW {b g C : Nat} {T : List Tok} {S : St} {n cp : Int} {gr gi B : Nat} {w : World} {t a c : Nat} {vW vV : Value} {wr w1 : World} (h : KS b g C T S n cp gr gi B w t a c vW vV wr) {g' cap : Nat} {x : Int} (hx : x = vn eK T S (1 + (a + a)))
    (hown : w1.ownsRow B 3 1 (.slice (some ⟨g', 0, none⟩) (a + 1) cap) (a + 1) (enc (WL T S a) ++ [.int .i64 x])) (hgrow : wr.grownBy w1 vW.ownBlock) (hl : vW.ownBlock = some g' ∨ g' = wr.heap.size) :
    KS b g C T S n cp gr gi B w t (a + 1) c (.slice (some ⟨g', 0, none⟩) (a + 1) cap) vV (w1.setCell ⟨gi, 3, none⟩ (.slice (some ⟨g', 0, none⟩) (a + 1) cap)) := by
  obtain ⟨o1, o2, o3, o4, o5⟩ := ks_other h h.rw hgrow 3 (.slice (some ⟨g', 0, none⟩) (a + 1) cap)
  have hv : vV.ownBlock = none ∨ vV.ownBlock ≠ vW.ownBlock := by
    cases e : vW.ownBlock with
    | none => cases e2 : vV.ownBlock with
      | none => exact .inl rfl
      | some y => exact .inr (by simp)
    | some y => exact .inr (h.ap y e)
  refine ⟨o1, o2, o3, ?_, ?_, ?_, o4, o5, h.lo, h.ne, h.base⟩
  · rw [WL_succ, enc_app, ← hx]
    exact Go.RowKit.ownsRow_setCell_below hown h.lo _
  · exact Go.RowKit.ownsRow_setCell_below (h.rv.kept hgrow hv) h.lo _
  · intro y hy e
    injection hy with hy
    rcases hl with hl | hl
    · exact h.ap g' hl (by rw [e]; exact congrArg some hy.symm)
    · have := (h.rv.lt y e).2
      have : g' = y := hy
      omega
theorem KS.addV {b g C : Nat} {T : List Tok} {S : St} {n cp : Int} {gr gi B : Nat} {w : World} {t a c : Nat} {vW vV : Value} {wr w1 : World} (h : KS b g C T S n cp gr gi B w t a c vW vV wr) {g' cap : Nat} {x : Int} (hx : x = vn eK T S (1 + (c + c + 1)))
    (hown : w1.ownsRow B 3 1 (.slice (some ⟨g', 0, none⟩) (c + 1) cap) (c + 1) (enc (VL T S c) ++ [.int .i64 x])) (hgrow : wr.grownBy w1 vV.ownBlock) (hl : vV.ownBlock = some g' ∨ g' = wr.heap.size) :
    KS b g C T S n cp gr gi B w t a (c + 1) vW (.slice (some ⟨g', 0, none⟩) (c + 1) cap) (w1.setCell ⟨gi, 4, none⟩ (.slice (some ⟨g', 0, none⟩) (c + 1) cap)) := by
  obtain ⟨o1, o2, o3, o4, o5⟩ := ks_other h h.rv hgrow 4 (.slice (some ⟨g', 0, none⟩) (c + 1) cap)
  have hv : vW.ownBlock = none ∨ vW.ownBlock ≠ vV.ownBlock := by
    cases e : vW.ownBlock with
    | none => exact .inl rfl
    | some y => exact .inr (fun q => h.ap y e q.symm)
  refine ⟨o1, o2, o3, ?_, ?_, ?_, o4, o5, h.lo, h.ne, h.base⟩
  · exact Go.RowKit.ownsRow_setCell_below (h.rw.kept hgrow hv) h.lo _
  · rw [VL_succ, enc_app, ← hx]
    exact Go.RowKit.ownsRow_setCell_below hown h.lo _
  · intro y hy e
    injection e with e
    have e' : g' = y := e
    rcases hl with hl | hl
    · exact h.ap y hy (by rw [hl, e'])
    · have := (h.rw.lt y hy).2
      omega
end Go.Proofs.YtegieoajjfodcaaGreatDoor

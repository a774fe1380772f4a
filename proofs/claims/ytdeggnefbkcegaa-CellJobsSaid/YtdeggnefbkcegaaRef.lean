/-
  What the reference's memory answers.
-/
import Derived.Test.YtdeggnefbkcegaaOpsB
import Derived.Test.YtdeggnefbkcegaaArRefZ
import Derived.Test.YtdeggnefbkcegaaArInt
namespace Go.Proofs.Ytdeggnefbkcegaa
open Go.RowKit
set_option linter.unusedVariables false
/-- the reference's memory: its box, and its cells -/
def RB (g b : Nat) (l : List Int) (s k c o n : Int) (d : Bool) (w : World) : Prop :=
  w.heap[g]? = some (.cells #[.slice (some ⟨b, 0, none⟩) l.length l.length, .int .i64 s, .int .i64 k, .int .i64 c, .int .i64 o, .int .i64 n, .bool d] 46 (0, 0)) ∧ w.heap[b]? = some (.cells (enc l) 3 (0, 0))
theorem RB.ne {g b : Nat} {l : List Int} {s k c o n : Int} {d : Bool} {w : World} (h : RB g b l s k c o n d w) : g ≠ b := by
  rintro rfl
  have := h.1.symm.trans h.2
  simp at this
theorem RB.keep {g b : Nat} {l : List Int} {s k c o n : Int} {d : Bool} {w w1 : World} (h : RB g b l s k c o n d w) (hb : Below w.heap.size w w1) : RB g b l s k c o n d w1 :=
  ⟨(hb.block g (lt_hp h.1)).trans h.1, (hb.block b (lt_hp h.2)).trans h.2⟩
structure RC (g b : Nat) (l : List Int) (s k c o n : Int) (d : Bool) (w : World) : Prop where
  c0 : w.cell? ⟨g, 0, none⟩ = some (.slice (some ⟨b, 0, none⟩) l.length l.length)
  c1 : w.cell? ⟨g, 1, none⟩ = some (.int .i64 s)
  c2 : w.cell? ⟨g, 2, none⟩ = some (.int .i64 k)
  c3 : w.cell? ⟨g, 3, none⟩ = some (.int .i64 c)
  c4 : w.cell? ⟨g, 4, none⟩ = some (.int .i64 o)
  c5 : w.cell? ⟨g, 5, none⟩ = some (.int .i64 n)
  c6 : w.cell? ⟨g, 6, none⟩ = some (.bool d)
  fg : ∀ j, w.frozen? ⟨g, j, none⟩ = false
  cb : ∀ j, j < l.length → w.cell? ⟨b, j, none⟩ = some (.int .i64 (nth l j))
  fb : ∀ j, w.frozen? ⟨b, j, none⟩ = false
theorem RB.rc {g b : Nat} {l : List Int} {s k c o n : Int} {d : Bool} {w : World} (h : RB g b l s k c o n d w) : RC g b l s k c o n d w := by
  obtain ⟨h1, h2⟩ := h
  exact ⟨(cell_of_row w g 0 _ 46 _ h1).trans rfl, (cell_of_row w g 1 _ 46 _ h1).trans rfl, (cell_of_row w g 2 _ 46 _ h1).trans rfl, (cell_of_row w g 3 _ 46 _ h1).trans rfl, (cell_of_row w g 4 _ 46 _ h1).trans rfl, (cell_of_row w g 5 _ 46 _ h1).trans rfl, (cell_of_row w g 6 _ 46 _ h1).trans rfl, fun j => by simp [World.frozen?, h1], fun j hj => (cell_of_row w b j _ 3 _ h2).trans (enc_at l j hj), fun j => by simp [World.frozen?, h2]⟩
/-- what a step of the reference leaves -/
def RDid (r : Value) (g b : Nat) (l : List Int) (s k c o n : Int) (d : Bool) (w : World) (e : Ending) (w' : World) : Prop := e = .returned r ∧ RB g b l s k c o n d w' ∧ Ch g b w w'
set_option maxHeartbeats 2000000 in
theorem rstep_of (g b : Nat) (l : List Int) (s k c o n : Int) (d : Bool) (K x nw : Int) (dn : Bool) (ix : Nat) (w : World) (h : RB g b l s k c o n d w) : RDid (.tuple #[]) g b (l.set ix nw) (s + 1) K ix x nw dn w (.returned (.tuple #[])) (((((((w.setCell ⟨g, 2, none⟩ (.int .i64 K)).setCell ⟨g, 3, none⟩ (.int .i64 ix)).setCell ⟨g, 4, none⟩ (.int .i64 x)).setCell ⟨g, 5, none⟩ (.int .i64 nw)).setCell ⟨g, 6, none⟩ (.bool dn)).setCell ⟨b, ix, none⟩ (.int .i64 nw)).setCell ⟨g, 1, none⟩ (.int .i64 (s + 1))) := by
  have a1 := (blk_set (blk_oth (blk_set (blk_set (blk_set (blk_set (blk_set h.1 2 (.int .i64 K)) 3 (.int .i64 ix)) 4 (.int .i64 x)) 5 (.int .i64 nw)) 6 (.bool dn)) h.ne ix (.int .i64 nw)) 1 (.int .i64 (s + 1)))
  have b1 := (blk_oth (blk_set (blk_oth (blk_oth (blk_oth (blk_oth (blk_oth h.2 h.ne.symm 2 (.int .i64 K)) h.ne.symm 3 (.int .i64 ix)) h.ne.symm 4 (.int .i64 x)) h.ne.symm 5 (.int .i64 nw)) h.ne.symm 6 (.bool dn)) ix (.int .i64 nw)) h.ne.symm 1 (.int .i64 (s + 1)))
  have c1 := ((((((((Ch.refl g b w).st (.inl rfl) 2 (.int .i64 K)).st (.inl rfl) 3 (.int .i64 ix)).st (.inl rfl) 4 (.int .i64 x)).st (.inl rfl) 5 (.int .i64 nw)).st (.inl rfl) 6 (.bool dn)).st (.inr (.inl rfl)) ix (.int .i64 nw)).st (.inl rfl) 1 (.int .i64 (s + 1)))
  generalize (((((((w.setCell ⟨g, 2, none⟩ (.int .i64 K)).setCell ⟨g, 3, none⟩ (.int .i64 ix)).setCell ⟨g, 4, none⟩ (.int .i64 x)).setCell ⟨g, 5, none⟩ (.int .i64 nw)).setCell ⟨g, 6, none⟩ (.bool dn)).setCell ⟨b, ix, none⟩ (.int .i64 nw)).setCell ⟨g, 1, none⟩ (.int .i64 (s + 1))) = u at *
  rw [enc_set] at b1
  exact ⟨rfl, ⟨by rw [show (l.set ix nw).length = l.length by simp]; exact a1, b1⟩, c1⟩
set_option maxRecDepth 100000 in
set_option maxHeartbeats 4000000 in
theorem rstep (g b : Nat) (l : List Int) (s k c o n : Int) (d : Bool) (K i x nw : Int) (dn : Bool) (ix : Nat) (hi : i = ix) (hx : ix < l.length) (hn : nth l ix = x) (s0 : 0 ≤ s) (s1 : s ≤ 1000000) (w : World) (h : RB g b l s k c o n d w) :
    Calls Try.prog 34 #[.pointer (some ⟨g, 0, none⟩), .int .i64 K, .int .i64 i, .int .i64 nw, .bool dn] w (RDid (.tuple #[]) g b (l.set ix nw) (s + 1) K i x nw dn w) := by
  subst hi
  have F := Lib.hid (rstep_of g b l s k c o n d K x nw dn ix w h)
  obtain ⟨c0, c1, c2, c3, c4, c5, c6, fg, cb, fb⟩ := h.rc
  have cx := cb ix hx
  rw [hn] at cx
  have ne1 := h.ne
  clear cb h hn
  generalize l.set ix nw = l2 at *
  generalize l.length = m at *
  go_enter Try.func34, Try.ntmps34
  go_wp2
  go_end0
  exact F.out
end Go.Proofs.Ytdeggnefbkcegaa

/-
  Where drawer.costs stands: rows of numbers in blocks of their own, listed in one of their own.
-/
import Derived.Test.YtnmolpogmkiikaaKsw
import Derived.OneCell
namespace Go.Proofs.Ytnmolpogmkiikaa
open Go.RowKit
set_option linter.unusedVariables false
/-- how many are drawn in a row ahead of a column; in the rows ahead -/
def ctn (t : Bool) (a b : Nat) : Nat := if t && decide (a < b) then b - 1 else b
def bas (t : Bool) (n a : Nat) : Nat := a * (if t then n - 1 else n)
def ent (t : Bool) (m s : Int) (n a b : Nat) : Int := if t && decide (a = b) then 0 else dr m s (bas t n a + ctn t a b)
theorem ctn_zero (t : Bool) (a : Nat) : ctn t a 0 = 0 := by unfold ctn; simp
theorem ctn_skip (a : Nat) : ctn true a (a + 1) = ctn true a a := by unfold ctn; simp
theorem ctn_next {t : Bool} {a b : Nat} (h : (t && decide (a = b)) = false) : ctn t a (b + 1) = ctn t a b + 1 := by
  unfold ctn
  cases t
  · simp
  · simp at h
    by_cases q : a < b
    · simp [q, show a < b + 1 by omega]; omega
    · simp [q, show ¬ a < b + 1 by omega]
theorem bas_zero (t : Bool) (n : Nat) : bas t n 0 = 0 := by unfold bas; omega
theorem bas_next (t : Bool) (n a : Nat) (h : a < n) : bas t n a + ctn t a n = bas t n (a + 1) := by
  unfold bas ctn
  cases t
  · simp [Nat.succ_mul]
  · simp [h, Nat.succ_mul]
theorem ent_diag (m s : Int) (n a : Nat) : ent true m s n a a = 0 := by unfold ent; simp
theorem ent_draw {t : Bool} (m s : Int) (n : Nat) {a b : Nat} (h : (t && decide (a = b)) = false) : ent t m s n a b = dr m s (bas t n a + ctn t a b) := by unfold ent; rw [h]; rfl
attribute [irreducible] ctn bas ent
/-- a row of which b numbers are told -/
def rl (t : Bool) (m s : Int) (n a b : Nat) : List Value := (List.range n).map fun j => .int .i64 (if j < b then ent t m s n a j else 0)
def tl (gs : Nat → Nat) (n a : Nat) : List Value := (List.range n).map fun j => if j < a then .slice (some ⟨gs j, 0, none⟩) n n else .slice none 0 0
theorem rl_set (t : Bool) (m s : Int) (n a b : Nat) : (rl t m s n a b).set b (.int .i64 (ent t m s n a b)) = rl t m s n a (b + 1) := by
  apply List.ext_getElem
  · simp [rl]
  · intro j h1 h2
    rw [List.getElem_set]
    by_cases e : b = j
    · subst e; simp [rl]
    · have : j < b ↔ j < b + 1 := by omega
      simp [rl, e, this]
theorem rl_zero (t : Bool) (m s : Int) (n a b : Nat) (h : ent t m s n a b = 0) : rl t m s n a b = rl t m s n a (b + 1) := by
  unfold rl
  apply List.map_congr_left
  intro j _
  by_cases e : j = b
  · subst e; simp [h]
  · have : j < b ↔ j < b + 1 := by omega
    simp [this]
theorem tl_set (gs : Nat → Nat) (n a g : Nat) : (tl gs n a).set a (.slice (some ⟨g, 0, none⟩) n n) = tl (fun j => if j = a then g else gs j) n (a + 1) := by
  apply List.ext_getElem
  · simp [tl]
  · intro j h1 h2
    rw [List.getElem_set]
    by_cases e : a = j
    · subst e; simp [tl]
    · have : j < a ↔ j < a + 1 := by omega
      simp [tl, e, this, show ¬ j = a by omega]
theorem tl_at (gs : Nat → Nat) (n a j : Nat) (hj : j < n) : (tl gs n a)[j]? = some (if j < a then .slice (some ⟨gs j, 0, none⟩) n n else .slice none 0 0) := by unfold tl; simp [hj]
theorem rl_at (t : Bool) (m s : Int) (n a b j : Nat) (hj : j < n) : (rl t m s n a b)[j]? = some (.int .i64 (if j < b then ent t m s n a j else 0)) := by unfold rl; simp [hj]
attribute [irreducible] rl tl
theorem row_kindE {w : World} {B n size : Nat} {e : TypeId} {v : Value} {xs : List Value} (h : w.ownsRow B e size v n xs) {x : Nat} (hx : v.ownBlock = some x) : ∃ cur, w.heap[x]? = some (.cells cur e (0, 0)) := by
  rcases h.2 with ⟨rfl, _⟩ | ⟨g, cap, cur, rfl, _, hg, _⟩
  · cases hx
  · injection hx with hx
    subst hx
    exact ⟨cur, hg⟩
theorem row_neE {w : World} {B n b size : Nat} {e : TypeId} {v : Value} {xs : List Value} {cs : Array Value} {t : TypeId} (h : w.ownsRow B e size v n xs) (hb : w.heap[b]? = some (.cells cs t (0, 0))) (ht : t ≠ e) : v.ownBlock ≠ some b := fun q => by
  obtain ⟨cur, hc⟩ := row_kindE h q
  exact blk_ne hb hc ht rfl
structure CS (t : Bool) (m s : Int) (n g gc B : Nat) (w : World) (a b : Nat) (k : Nat) (gs : Nat → Nat) (wr : World) : Prop where
  top : wr.ownsRow B 29 1 (.slice (some ⟨gc, 0, none⟩) n n) n (tl gs n (a + 1))
  rows : ∀ j, j < a → wr.ownsRow B 3 1 (.slice (some ⟨gs j, 0, none⟩) n n) n (rl t m s n j n) ∧ gs j ≠ gs a
  cur : wr.ownsRow B 3 1 (.slice (some ⟨gs a, 0, none⟩) n n) n (rl t m s n a b)
  d : wr.heap[g]? = some (.cells #[.int .u64 (sd s k), .int .i64 m] 42 (0, 0))
  gone : w.grownBy wr (some g)
  sz : w.heap.size ≤ B
theorem gone_trans {w wr w1 : World} {g : Nat} (h : w.grownBy wr (some g)) (hg : wr.grownBy w1 (some g)) : w.grownBy w1 (some g) :=
  ⟨hg.os.trans h.os, hg.tape.trans h.tape, hg.output.trans h.output, Nat.le_trans h.size hg.size, fun i hi hne => (hg.block i (Nat.lt_of_lt_of_le hi h.size) hne).trans (h.block i hi hne)⟩
theorem CS.call {t : Bool} {m s : Int} {n g gc B : Nat} {w : World} {a b k : Nat} {gs : Nat → Nat} {wr w1 : World} (h : CS t m s n g gc B w a b k gs wr) (hg : wr.grownBy w1 (some g)) (hd : w1.heap[g]? = some (.cells #[.int .u64 (sd s (k + 1)), .int .i64 m] 42 (0, 0))) : CS t m s n g gc B w a b (k + 1) gs w1 :=
  ⟨h.top.kept hg (.inr (row_neE h.top h.d (by decide))), fun j hj => ⟨(h.rows j hj).1.kept hg (.inr (row_neE (h.rows j hj).1 h.d (by decide))), (h.rows j hj).2⟩, h.cur.kept hg (.inr (row_neE h.cur h.d (by decide))), hd, gone_trans h.gone hg, h.sz⟩
theorem CS.drew {t : Bool} {m s : Int} {n g gc B : Nat} {w : World} {a b k : Nat} {gs : Nat → Nat} {wr : World} (h : CS t m s n g gc B w a b k gs wr) : CS t m s n g gc B w a b k gs wr.drew :=
  ⟨h.top, h.rows, h.cur, h.d, ⟨h.gone.os, h.gone.tape, h.gone.output, h.gone.size, h.gone.block⟩, h.sz⟩
theorem CS.store {t : Bool} {m s : Int} {n g gc B : Nat} {w : World} {a b k : Nat} {gs : Nat → Nat} {wr : World} (h : CS t m s n g gc B w a b k gs wr) {x : Int} (hx : x = ent t m s n a b) : CS t m s n g gc B w a (b + 1) k gs (wr.setCell ⟨gs a, b, none⟩ (.int .i64 x)) := by
  obtain ⟨cur, hc⟩ := row_kindE h.cur rfl
  have hlt := (h.cur.lt (gs a) rfl).1
  refine ⟨ownsRow_setCell_other h.top (fun e => ?_) _, fun j hj => ⟨ownsRow_setCell_other (h.rows j hj).1 (fun e => (h.rows j hj).2 (by injection e)) _, (h.rows j hj).2⟩, ?_, ?_, gone_set h.gone (Nat.le_trans h.sz hlt) _, h.sz⟩
  · exact row_neE h.top hc (by decide) e
  · subst hx
    rw [← rl_set]
    exact (h.cur.stored b _).1
  · exact (heap_setCell_other wr ⟨gs a, b, none⟩ g _ (blk_ne h.d hc (by decide))).trans h.d
theorem CS.skip {t : Bool} {m s : Int} {n g gc B : Nat} {w : World} {a b k : Nat} {gs : Nat → Nat} {wr : World} (h : CS t m s n g gc B w a b k gs wr) (hx : ent t m s n a b = 0) : CS t m s n g gc B w a (b + 1) k gs wr :=
  ⟨h.top, h.rows, by have := h.cur; rwa [rl_zero t m s n a b hx] at this, h.d, h.gone, h.sz⟩
/-- between two rows -/
structure CR (t : Bool) (m s : Int) (n g gc B : Nat) (w : World) (a : Nat) (gs : Nat → Nat) (wr : World) : Prop where
  top : wr.ownsRow B 29 1 (.slice (some ⟨gc, 0, none⟩) n n) n (tl gs n a)
  rows : ∀ j, j < a → wr.ownsRow B 3 1 (.slice (some ⟨gs j, 0, none⟩) n n) n (rl t m s n j n)
  d : wr.heap[g]? = some (.cells #[.int .u64 (sd s (bas t n a)), .int .i64 m] 42 (0, 0))
  gone : w.grownBy wr (some g)
  sz : w.heap.size ≤ B
  bs : B ≤ wr.heap.size
theorem CR.begin {t : Bool} {m s : Int} {n g gc B : Nat} {w : World} {a : Nat} {gs : Nat → Nat} {wr w1 : World} (h : CR t m s n g gc B w a gs wr) (hr : w1.ownsRow B 3 1 (.slice (some ⟨wr.heap.size, 0, none⟩) n n) n (rl t m s n a 0)) (hg : wr.grownBy w1 none) :
    CS t m s n g gc B w a 0 (bas t n a) (fun j => if j = a then wr.heap.size else gs j) (w1.setCell ⟨gc, a, none⟩ (.slice (some ⟨wr.heap.size, 0, none⟩) n n)) := by
  have e0 : (fun j => if j = a then wr.heap.size else gs j) a = wr.heap.size := by simp
  obtain ⟨ct, hct⟩ := row_kindE h.top rfl
  have hgc := (h.top.lt gc rfl)
  have hct1 : w1.heap[gc]? = some (.cells ct 29 (0, 0)) := (hg.block gc hgc.2 (by simp)).trans hct
  have kp : ∀ {v : Value} {k : Nat} {xs : List Value}, wr.ownsRow B 3 1 v k xs → (w1.setCell ⟨gc, a, none⟩ (.slice (some ⟨wr.heap.size, 0, none⟩) n n)).ownsRow B 3 1 v k xs := fun hv =>
    ownsRow_setCell_other (hv.kept hg (by cases e : Value.ownBlock _ with | none => exact .inl rfl | some y => exact .inr (by simp))) (row_neE (hv.kept hg (by cases e : Value.ownBlock _ with | none => exact .inl rfl | some y => exact .inr (by simp))) hct1 (by decide)) _
  refine ⟨?_, fun j hj => ⟨?_, ?_⟩, ?_, ?_, gone_set ⟨hg.os.trans h.gone.os, hg.tape.trans h.gone.tape, hg.output.trans h.gone.output, Nat.le_trans h.gone.size hg.size, fun i hi hne => (hg.block i (Nat.lt_of_lt_of_le hi h.gone.size) (by simp)).trans (h.gone.block i hi hne)⟩ (Nat.le_trans h.sz hgc.1) _, h.sz⟩
  · rw [← tl_set]
    exact ((h.top.kept hg (.inr (by simp [Value.ownBlock]))).stored a _).1
  · have hj2 : ¬ j = a := by omega
    simp only [hj2, if_false]
    exact kp (h.rows j hj)
  · have hj2 : ¬ j = a := by omega
    have := ((h.rows j hj).lt (gs j) rfl).2
    simp [hj2]; omega
  · simp only [if_true]
    exact ownsRow_setCell_other hr (row_neE hr hct1 (by decide)) _
  · exact (heap_setCell_other w1 ⟨gc, a, none⟩ g _ (by have := blk_ne h.d hct (by decide); exact this)).trans ((hg.block g (lt_hp h.d) (by simp)).trans h.d)
theorem CS.done {t : Bool} {m s : Int} {n g gc B : Nat} {w : World} {a : Nat} {gs : Nat → Nat} {wr : World} (h : CS t m s n g gc B w a n (bas t n (a + 1)) gs wr) (hB : B ≤ wr.heap.size) : CR t m s n g gc B w (a + 1) gs wr := by
  refine ⟨h.top, fun j hj => ?_, h.d, h.gone, h.sz, hB⟩
  by_cases e : j = a
  · subst e; exact h.cur
  · exact (h.rows j (by omega)).1
end Go.Proofs.Ytnmolpogmkiikaa

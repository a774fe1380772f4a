/-
  Where the reference's Parse stands when it lays its rows.
-/
import Derived.Test.YtjojdpohifdghaaRp4
namespace Go.Proofs.Ytjojdpohifdghaa
open Go.RowKit
set_option linter.unusedVariables false
def tl3 (gs : Nat → Nat) (n a : Nat) : List Value := (List.range a).map fun j => .slice (some ⟨gs j, 0, none⟩) n n
theorem tl3_zero (gs : Nat → Nat) (n : Nat) : tl3 gs n 0 = [] := rfl
theorem tl3_at (gs : Nat → Nat) (n a j : Nat) (h : j < a) : (tl3 gs n a)[j]? = some (.slice (some ⟨gs j, 0, none⟩) n n) := by simp [tl3, h]
theorem tl3_next (gs : Nat → Nat) (n a g : Nat) : tl3 gs n a ++ [.slice (some ⟨g, 0, none⟩) n n] = tl3 (fun j => if j = a then g else gs j) n (a + 1) := by
  unfold tl3
  rw [List.range_succ, List.map_append]
  congr 1
  · apply List.map_congr_left
    intro j hj
    have : ¬ j = a := by have : j < a := by simpa using hj
                         omega
    simp [this]
  · simp
attribute [irreducible] tl3
/-- a row of which c numbers are told -/
def Mc (M : Nat → Nat → Int) (c i j : Nat) : Int := if j < c then M i j else 0
theorem Mc_set (M : Nat → Nat → Int) (n a c : Nat) : (rwv (Mc M c) n a).set c (.int .i64 (M a c)) = rwv (Mc M (c + 1)) n a := by
  rw [rwv_set]
  apply rwv_congr
  intro b hb
  unfold upd Mc
  by_cases e : b = c
  · subst e; simp
  · rw [if_neg (fun q => e q.2)]
    by_cases q : b < c
    · rw [if_pos q, if_pos (by omega)]
    · rw [if_neg q, if_neg (by omega)]
theorem Mc_skip (M : Nat → Nat → Int) (n a c : Nat) (h : M a c = 0) : rwv (Mc M c) n a = rwv (Mc M (c + 1)) n a := by
  apply rwv_congr
  intro b hb
  unfold Mc
  by_cases e : b = c
  · subst e; simp [h]
  · by_cases q : b < c
    · rw [if_pos q, if_pos (by omega)]
    · rw [if_neg q, if_neg (by omega)]
theorem Mc_zero (M : Nat → Nat → Int) (n a : Nat) : rwv (Mc M 0) n a = List.replicate n (.int .i64 0) := by
  rw [← rwv_zero n a]
  apply rwv_congr
  intro b hb
  unfold Mc; rw [if_neg (by omega)]
theorem Mc_all (M : Nat → Nat → Int) (n a : Nat) : rwv (Mc M n) n a = rwv M n a := by
  apply rwv_congr
  intro b hb
  unfold Mc; rw [if_pos hb]
structure RT (K : Int) (n gi B : Nat) (wL : World) (M : Nat → Nat → Int) (a : Nat) (vC : Value) (gs : Nat → Nat) (wr : World) : Prop where
  box : wr.heap[gi]? = some (.cells #[.int .i64 K, .int .i64 n, .int .i64 0, .slice none 0 0, .slice none 0 0, vC] 26 (0, 0))
  top : wr.ownsRow B 23 1 vC a (tl3 gs n a)
  rows : ∀ j, j < a → wr.ownsRow B 3 1 (.slice (some ⟨gs j, 0, none⟩) n n) n (rwv M n j)
  up : Up B gi wL wr
  sz : B ≤ wr.heap.size
  lo : gi < B
/-- what lies below B, but for the box -/
theorem RT.far {K : Int} {n gi B : Nat} {wL : World} {M : Nat → Nat → Int} {a : Nat} {vC : Value} {gs : Nat → Nat} {wr : World} (h : RT K n gi B wL M a vC gs wr) {x : Nat} (hx : x < B) (hne : x ≠ gi) (o : Nat) : wr.cell? ⟨x, o, none⟩ = wL.cell? ⟨x, o, none⟩ := World.cell?_of_block (a := ⟨x, o, none⟩) (h.up.block x hx hne)
/-- a new row that grows -/
structure RTI (K : Int) (n gi B : Nat) (wL : World) (M : Nat → Nat → Int) (a : Nat) (vC : Value) (gs : Nat → Nat) (gr c : Nat) (wr : World) : Prop where
  t : RT K n gi B wL M a vC gs wr
  row : wr.ownsRow B 3 1 (.slice (some ⟨gr, 0, none⟩) n n) n (rwv (Mc M c) n a)
  ap : ∀ j, j < a → gs j ≠ gr
theorem RT.begin {K : Int} {n gi B : Nat} {wL : World} {M : Nat → Nat → Int} {a : Nat} {vC : Value} {gs : Nat → Nat} {wr w1 : World} (h : RT K n gi B wL M a vC gs wr) (hr : w1.ownsRow B 3 1 (.slice (some ⟨wr.heap.size, 0, none⟩) n n) n (rwv (Mc M 0) n a)) (hg : wr.grownBy w1 none) : RTI K n gi B wL M a vC gs wr.heap.size 0 w1 := by
  have hb : ∀ k, k < wr.heap.size → w1.heap[k]? = wr.heap[k]? := fun k hk => hg.block k hk (by simp)
  have hz := h.sz
  have kp : ∀ {e : TypeId} {size k : Nat} {v : Value} {xs : List Value}, wr.ownsRow B e size v k xs → w1.ownsRow B e size v k xs := fun hv => hv.kept hg (by cases e : Value.ownBlock _ with | none => exact .inl rfl | some y => exact .inr (by simp))
  refine ⟨⟨(hb gi (lt_blk h.box)).trans h.box, kp h.top, fun j hj => kp (h.rows j hj), ⟨hg.os.trans h.up.os, hg.tape.trans h.up.tape, hg.output.trans h.up.output, Nat.le_trans h.up.size hg.size, fun k hk hne => (hb k (by omega)).trans (h.up.block k hk hne)⟩, Nat.le_trans hz hg.size, h.lo⟩, hr, fun j hj e => ?_⟩
  have := ((h.rows j hj).lt (gs j) rfl).2
  omega
theorem RTI.store {K : Int} {n gi B : Nat} {wL : World} {M : Nat → Nat → Int} {a : Nat} {vC : Value} {gs : Nat → Nat} {gr c : Nat} {wr : World} (h : RTI K n gi B wL M a vC gs gr c wr) {x : Int} (hx : x = M a c) : RTI K n gi B wL M a vC gs gr (c + 1) (wr.setCell ⟨gr, c, none⟩ (.int .i64 x)) := by
  obtain ⟨cur, hc⟩ := row_kindE h.row rfl
  have hgr := (h.row.lt gr rfl).1
  have hlo := h.t.lo
  refine ⟨⟨(heap_setCell_other wr ⟨gr, c, none⟩ gi _ (by show gi ≠ gr; omega)).trans h.t.box, ownsRow_setCell_other (a := ⟨gr, c, none⟩) h.t.top (row_neE h.t.top hc (by decide)) _, fun j hj => ownsRow_setCell_other (a := ⟨gr, c, none⟩) (h.t.rows j hj) (fun e => h.ap j hj (by injection e)) _, h.t.up.set hgr _ _, by simpa [World.setCell] using h.t.sz, hlo⟩, ?_, h.ap⟩
  subst hx
  rw [← Mc_set]
  exact (h.row.stored c _).1
theorem RTI.skip {K : Int} {n gi B : Nat} {wL : World} {M : Nat → Nat → Int} {a : Nat} {vC : Value} {gs : Nat → Nat} {gr c : Nat} {wr : World} (h : RTI K n gi B wL M a vC gs gr c wr) (h0 : M a c = 0) : RTI K n gi B wL M a vC gs gr (c + 1) wr :=
  ⟨h.t, by rw [← Mc_skip M n a c h0]; exact h.row, h.ap⟩
/-- the row is put behind the others -/
theorem RTI.put {K : Int} {n gi B : Nat} {wL : World} {M : Nat → Nat → Int} {a : Nat} {vC : Value} {gs : Nat → Nat} {gr : Nat} {wr w1 : World} {o : Obj} (h : RTI K n gi B wL M a vC gs gr n wr) {v' : Value}
    (hown : w1.ownsRow B 23 1 v' (a + 1) (tl3 gs n a ++ [.slice (some ⟨gr, 0, none⟩) n n])) (hg : (wr.alloc o).grownBy w1 vC.ownBlock) : RT K n gi B wL M (a + 1) v' (fun j => if j = a then gr else gs j) (w1.setCell ⟨gi, 5, none⟩ v') ∧ w1.cell? ⟨gi, 5, none⟩ = some vC ∧ w1.frozen? ⟨gi, 5, none⟩ = false := by
  have hlo := h.t.lo
  have hz := h.t.sz
  have hza : wr.heap.size ≤ (wr.alloc o).heap.size := by simp
  have tp := h.t.top.alloc o
  have hbox : w1.heap[gi]? = some (.cells #[.int .i64 K, .int .i64 n, .int .i64 0, .slice none 0 0, .slice none 0 0, vC] 26 (0, 0)) :=
    (hg.block gi (by omega) (fun e => by have := (tp.lt gi e.symm).1; omega)).trans ((Below.heap_alloc wr o gi (by omega)).trans h.t.box)
  have kp : ∀ {x : Nat}, (wr.alloc o).ownsRow B 3 1 (.slice (some ⟨x, 0, none⟩) n n) n (rwv M n a) → True := fun _ => trivial
  have kr : ∀ {x : Nat} {xs : List Value}, wr.ownsRow B 3 1 (.slice (some ⟨x, 0, none⟩) n n) n xs → (w1.setCell ⟨gi, 5, none⟩ v').ownsRow B 3 1 (.slice (some ⟨x, 0, none⟩) n n) n xs := fun {x xs} hv => by
    refine ownsRow_setCell_below (a := ⟨gi, 5, none⟩) ((hv.alloc o).kept hg ?_) hlo _
    obtain ⟨cur, hc⟩ := row_kindE (hv.alloc o) rfl
    exact .inr (fun e => row_neE tp hc (by decide) e.symm)
  refine ⟨⟨heap_setCell_same w1 gi 5 _ 26 v' hbox, ?_, fun j hj => ?_, ?_, by have := hg.size; simp [World.setCell] at *; omega, hlo⟩, by rw [cell_of_row _ _ _ _ _ _ hbox]; rfl, frozen_of_row _ _ _ _ _ hbox⟩
  · rw [← tl3_next]; exact ownsRow_setCell_below (a := ⟨gi, 5, none⟩) hown hlo _
  · by_cases e : j = a
    · subst e
      simp only [if_true]
      have := h.row
      rw [Mc_all] at this
      exact kr this
    · simp only [e, if_false]
      exact kr (h.t.rows j (by omega))
  · refine ⟨hg.os.trans h.t.up.os, hg.tape.trans h.t.up.tape, hg.output.trans h.t.up.output, by have := hg.size; have := h.t.up.size; simp [World.setCell] at *; omega, fun k hk hne => ?_⟩
    rw [heap_setCell_other w1 ⟨gi, 5, none⟩ k v' (by show k ≠ gi; exact hne)]
    exact (hg.block k (by omega) (fun e => by have := (tp.lt k e.symm).1; omega)).trans ((Below.heap_alloc wr o k (by omega)).trans (h.t.up.block k hk hne))
theorem rws_tab {W : World} {B g c n : Nat} {gs : Nat → Nat} {M : Nat → Nat → Int} (hn : n ≤ 1000) (ht : W.ownsRow B 23 1 (.slice (some ⟨g, 0, none⟩) n c) n (tl3 gs n n)) (hr : ∀ j, j < n → W.ownsRow B 3 1 (.slice (some ⟨gs j, 0, none⟩) n n) n (rwv M n j)) : ip.Rws W (some ⟨g, 0, none⟩) (tab n M) := fun j hj => by
  rw [tab_len] at hj
  have e : (tab n M)[j]?.getD [] = (List.range n).map fun b => M j b := by unfold tab; simp [hj]
  rw [e]
  have l : ((List.range n).map fun b => M j b).length = n := by simp
  rw [l]
  refine ⟨g, 0, some ⟨gs j, 0, none⟩, n, rfl, (ht.lt g rfl).2, ?_, fun b hb => ?_, hn⟩
  · rw [Nat.zero_add, ht.cellAt j (by omega), tl3_at _ _ _ _ hj]
  · rw [l] at hb
    refine ⟨gs j, 0, rfl, ((hr j hj).lt (gs j) rfl).2, ?_⟩
    rw [Nat.zero_add, (hr j hj).cellAt b (by omega), rwv_at _ _ _ _ hb]
    simp [hb]
theorem tab_out {K : Int} {n gi B q gt ct : Nat} {w wL wr : World} {M : Nat → Nat → Int} {gs : Nat → Nat} {T : List Tok} (h : RT K n gi B wL M n (.slice (some ⟨gt, 0, none⟩) n ct) gs wr) (hqB : q < B) (hn : n ≤ 1000) (hb : Below q w wr) (hq : q = w.heap.size) (hP : PR T = .ok K n 0 [] [] (tab n M)) (v0 v1 v2 v3 v4 v5 : Value) :
    PaR w (PR T) (.returned (.tuple #[.agg #[.int .i64 K, .int .i64 n, .int .i64 0, .slice none 0 0, .slice none 0 0, .slice (some ⟨gt, 0, none⟩) n ct], .int .i64 0, .int .i64 0])) ((((((wr.setCell ⟨q, 0, none⟩ v0).setCell ⟨q, 1, none⟩ v1).setCell ⟨q, 2, none⟩ v2).setCell ⟨q, 3, none⟩ v3).setCell ⟨q, 4, none⟩ v4).setCell ⟨q, 5, none⟩ v5) := by
  rw [hP]
  have hl : (tab n M).length = n := tab_len n M
  have ht := ownsRow_setCell_below (a := ⟨q, 5, none⟩) (ownsRow_setCell_below (a := ⟨q, 4, none⟩) (ownsRow_setCell_below (a := ⟨q, 3, none⟩) (ownsRow_setCell_below (a := ⟨q, 2, none⟩) (ownsRow_setCell_below (a := ⟨q, 1, none⟩) (ownsRow_setCell_below (a := ⟨q, 0, none⟩) h.top hqB v0) hqB v1) hqB v2) hqB v3) hqB v4) hqB v5
  have hr := fun j (hj : j < n) => ownsRow_setCell_below (a := ⟨q, 5, none⟩) (ownsRow_setCell_below (a := ⟨q, 4, none⟩) (ownsRow_setCell_below (a := ⟨q, 3, none⟩) (ownsRow_setCell_below (a := ⟨q, 2, none⟩) (ownsRow_setCell_below (a := ⟨q, 1, none⟩) (ownsRow_setCell_below (a := ⟨q, 0, none⟩) (h.rows j hj) hqB v0) hqB v1) hqB v2) hqB v3) hqB v4) hqB v5
  have hB := ip.six_below hb (Nat.le_refl q) v0 v1 v2 v3 v4 v5
  rw [hq] at hB
  exact ⟨none, none, some ⟨gt, 0, none⟩, 0, 0, ct, by rw [hl]; rfl, fun j hj => by simp at hj, fun j hj => by simp at hj, rws_tab hn ht hr, by rw [hq]; exact hB⟩
end Go.Proofs.Ytjojdpohifdghaa

/-
  What the walk of inst.Write keeps, for every problem.
-/
import Derived.Test.YtknpjeeclagmjaaDoorWTxt
import Derived.Test.YtknpjeeclagmjaaDoorLine
namespace Go.Proofs.YtknpjeeclagmjaaDoor
open Go.RowKit
set_option linter.unusedVariables false
structure Wt (w : World) (bx bb : Nat) (cs : Array Value) (acc : List UInt8) (W : World) : Prop where
  box : W.heap[bx]? = some (.cells cs 25 (0, 0))
  bld : Lib.IsBuilderF 45 5 bb bb (Lib.byteCells acc) W
  tab : Tab W
  bel : Below w.heap.size w W
  l0 : bx < bb
  hw : w.heap.size ≤ bb
  hB : bb < W.heap.size
theorem Wt.keep {w W W1 : World} {bx bb : Nat} {cs : Array Value} {acc : List UInt8} (h : Wt w bx bb cs acc W) (hb : Below W.heap.size W W1) : Wt w bx bb cs acc W1 :=
  { box := (hb.block bx (Nat.lt_trans h.l0 h.hB)).trans h.box
    bld := h.bld.elim (fun x => Or.inl (at_keep x hb)) (fun x => Or.inr (at_keep x hb))
    tab := tab_keep _ _ h.tab hb
    bel := bl_tr h.bel hb
    l0 := h.l0, hw := h.hw, hB := Nat.lt_of_lt_of_le h.hB hb.size }
theorem Wt.put {w W W1 : World} {bx bb : Nat} {cs : Array Value} {acc acc' : List UInt8} {s : ByteArray} (h : Wt w bx bb cs acc W) (k : Lib.BuilderAtF 45 5 bb bb (.pointer (some ⟨bb, 0, none⟩)) (Lib.byteCells acc ++ Lib.strCells s) W1)
    (hb : Below bb W W1) (ha : acc ++ s.data.toList = acc') : Wt w bx bb cs acc' W1 :=
  { box := (hb.block bx h.l0).trans h.box
    bld := Or.inr (by rw [← ha, Lib.byteCells_append]; exact k)
    tab := tab_b h.tab hb (Nat.lt_of_le_of_lt (Nat.zero_le _) h.l0)
    bel := h.bel.trans (hb.mono h.hw)
    l0 := h.l0, hw := h.hw, hB := Nat.lt_of_lt_of_le h.hB hb.size }
theorem Wt.puts {w W : World} {bx bb : Nat} {cs : Array Value} {acc : List UInt8} (h : Wt w bx bb cs acc W) (s : ByteArray) (acc' : List UInt8) (ha : acc ++ s.data.toList = acc') (hl : acc.length + s.size ≤ 100000) :
    Calls Tryd.prog 24 #[.pointer (some ⟨bb, 0, none⟩), .string s] W fun e w' => e = .returned (.tuple #[.int .i64 s.size, .nilIface]) ∧ Wt w bx bb cs acc' w' :=
  (put_any bb bb (Lib.byteCells acc) s W h.bld (by simp [Lib.byteCells]; omega) (Nat.le_of_lt h.hB)).mono fun e w' ⟨he, k, hb, _⟩ => ⟨he, h.put k hb ha⟩
theorem Wt.cells {w W : World} {bx bb : Nat} {v0 v1 v2 v3 v4 v5 : Value} {acc : List UInt8} (h : Wt w bx bb #[v0, v1, v2, v3, v4, v5] acc W) : W.cell? ⟨bx, 0, none⟩ = some v0 ∧ W.cell? ⟨bx, 1, none⟩ = some v1 ∧ W.cell? ⟨bx, 2, none⟩ = some v2 ∧
    W.cell? ⟨bx, 3, none⟩ = some v3 ∧ W.cell? ⟨bx, 4, none⟩ = some v4 ∧ W.cell? ⟨bx, 5, none⟩ = some v5 :=
  ⟨cell_of_row _ _ 0 _ _ _ h.box, cell_of_row _ _ 1 _ _ _ h.box, cell_of_row _ _ 2 _ _ _ h.box, cell_of_row _ _ 3 _ _ _ h.box, cell_of_row _ _ 4 _ _ _ h.box, cell_of_row _ _ 5 _ _ _ h.box⟩
theorem Wt.dr {w W : World} {bx bb : Nat} {cs : Array Value} {acc : List UInt8} (h : Wt w bx bb cs acc W) : Wt w bx bb cs acc W.drew := h.keep (Below.refl _ _).drew
theorem Wt.c01 {w W : World} {bx bb : Nat} {v0 v1 v2 v3 v4 v5 : Value} {acc : List UInt8} (h : Wt w bx bb #[v0, v1, v2, v3, v4, v5] acc W) : W.cell? ⟨bx, 0, none⟩ = some v0 ∧ W.cell? ⟨bx, 1, none⟩ = some v1 := ⟨h.cells.1, h.cells.2.1⟩
theorem wt_start {w w1 : World} {cs : Array Value} (ht : Tab w) (hb : Below (w.alloc (.cells cs 25)).heap.size (w.alloc (.cells cs 25)) w1) : Wt w w.heap.size w1.heap.size cs [] (w1.alloc (.cells #[.pointer none, .slice none 0 0] 45)) := by
  have hs := hb.size
  simp at hs
  have b0 : Below w.heap.size w w1 := bl_tr (bl_al (Below.refl _ _) _) hb
  have bA : Below w1.heap.size w1 (w1.alloc (.cells #[.pointer none, .slice none 0 0] 45)) := bl_al (Below.refl _ _) _
  exact {
    box := (bA.block _ (by omega)).trans ((hb.block _ (by simp)).trans (heap_alloc_new w _))
    bld := Lib.IsBuilderF.of (Lib.fresh_isBuilder 45 5 w1)
    tab := tab_keep _ _ ht (bl_al b0 _)
    bel := bl_al b0 _
    l0 := by omega
    hw := by omega
    hB := by simp }
/-- a line of any numbers -/
theorem line_any (b o c : Nat) (l : List Int) (hl : l.length ≤ 64) (h0 : 0 < l.length) (w : World) (ht : Tab w) (hbw : b < w.heap.size) (hn : ∀ j, j < l.length → 0 ≤ l[j]?.getD 0 ∧ l[j]?.getD 0 ≤ 2147483647)
    (hc : ∀ j, j < l.length → w.cell? ⟨b, o + j, none⟩ = some (.int .i64 (l[j]?.getD 0))) :
    Calls Tryd.prog 26 #[.slice (some ⟨b, o, none⟩) l.length c] w fun e w' => e = .returned (.string ⟨(lnk l l.length ++ [10]).toArray⟩) ∧ Below w.heap.size w w' := by
  have e : (Lib.join ((l.map sIt).map (·.data.toList)) [32]) = lnk l l.length := by
    rw [← join_all, List.map_map]
    congr 1
    apply List.map_congr_left
    intro n _
    rw [Function.comp, dg_sIt]
  have hlen := lnk_len l hn _ (Nat.le_refl _)
  have key := line_core Tab tab_keep write_any ⟨(lnk l l.length).toArray⟩ (by show (lnk l l.length).toArray.size ≤ _; simp; omega) b o c l hl h0 w ht hbw (fun j hj => by have := hn j hj; omega) hc (fun W g cap hown => by
      have hlt := hown.lt g rfl
      have hcap : l.length ≤ cap := by
        rcases hown.2 with ⟨h, _⟩ | ⟨g', cap', cur, hv, _, _, _, _, hc, _⟩
        · cases h
        · cases hv
          have := hown.1
          omega
      have hJ := Tryd.strings_Join g 0 cap (l.map sIt) ⟨#[32]⟩ W (fun j x hx => by
        have hj : j < l.length := by have := (List.getElem?_eq_some_iff.1 hx).1; simpa using this
        rw [Nat.zero_add]
        have := hown.cellAt j (by omega)
        rw [this]
        rw [List.getElem?_map] at hx ⊢
        rw [List.getElem?_eq_getElem hj] at hx ⊢
        simp at hx ⊢
        rw [hx]) hlt.2 (by simp; omega) (by simpa using hcap) (by
          rw [show (⟨#[32]⟩ : ByteArray).data.toList = [32] from rfl, e]; omega)
      rw [show (⟨#[32]⟩ : ByteArray).data.toList = [32] from rfl, e, List.length_map] at hJ
      exact hJ)
  refine key.mono ?_
  rintro en w' ⟨rfl, hb⟩
  refine ⟨?_, hb⟩
  congr 2
theorem line_pair (x y : Int) (hx : 0 ≤ x ∧ x ≤ 2147483647) (hy : 0 ≤ y ∧ y ≤ 2147483647) (b c : Nat) (w : World) (ht : Tab w) (hbw : b < w.heap.size) (h3 : w.cell? ⟨b, 0, none⟩ = some (.int .i64 x)) (h4 : w.cell? ⟨b, 1, none⟩ = some (.int .i64 y)) :
    Calls Tryd.prog 26 #[.slice (some ⟨b, 0, none⟩) 2 c] w fun e w' => e = .returned (.string ⟨(dg x ++ [32] ++ dg y ++ [10]).toArray⟩) ∧ Below w.heap.size w w' := by
  have e : lnk [x, y] 2 = dg x ++ [32] ++ dg y := by rw [lnk_succ _ 1 (by omega), lnk_one]; rfl
  have := line_any b 0 c [x, y] (by simp) (by simp) w ht hbw (fun j hj => by
    rcases j with _ | _ | j
    · exact hx
    · exact hy
    · simp at hj; omega) (fun j hj => by
    rcases j with _ | _ | j
    · exact h3
    · exact h4
    · simp at hj; omega)
  rw [show [x, y].length = 2 from rfl, e] at this
  exact this
end Go.Proofs.YtknpjeeclagmjaaDoor

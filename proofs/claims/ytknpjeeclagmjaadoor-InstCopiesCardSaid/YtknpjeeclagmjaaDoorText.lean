/-
  What inst.Write answers of the one problem that the laws write down, in every world that holds the table of the powers of ten.
-/
import Derived.Test.YtknpjeeclagmjaaDoorBuild
import Derived.Test.YtknpjeeclagmjaaDoorLine
import Derived.Test.YtknpjeeclagmjaaDoorShelf
import Derived.Deep.RegionHeld3
namespace Go.Proofs.YtknpjeeclagmjaaDoor
open Go.RowKit
set_option linter.unusedVariables false

def Tab (w : World) : Prop := Lib.TabIs Tryd.prog w "internal/strconv.uint64pow10" .u64 Lib.pow10Tab
theorem gPow : Tryd.prog.globalNamed "internal/strconv.uint64pow10" = some 0 := by kernel_rfl
theorem tab_b {w w' : World} {B : Nat} (h : Tab w) (hb : Below B w w') (h0 : 0 < B) : Tab w' := by
  have hv : w.var? Tryd.prog "internal/strconv.uint64pow10" = _ := h
  show w'.var? Tryd.prog "internal/strconv.uint64pow10" = _
  rw [← hv]
  unfold World.var?
  rw [gPow]
  simp only [Option.bind_some]
  rw [hb.block 0 h0]
theorem tab_pos {w : World} (h : Tab w) : 0 < w.heap.size := by
  rcases Nat.lt_or_ge 0 w.heap.size with h' | h'
  · exact h'
  · exfalso
    have hv : w.var? Tryd.prog "internal/strconv.uint64pow10" = _ := h
    unfold World.var? at hv
    rw [gPow, Option.bind_some, Array.getElem?_eq_none h'] at hv
    cases hv
theorem tab_keep (w w' : World) (h : Tab w) (hb : Below w.heap.size w w') : Tab w' := tab_b h hb (tab_pos h)
theorem bl_grow (w : World) (k : Nat) (os : Array Obj) : Below w.heap.size w (Go.Sort.grow (w.drewN k) os) := by
  refine ⟨rfl, rfl, rfl, ?_, fun i hi => ?_⟩
  · show w.heap.size ≤ (w.heap ++ os).size
    simp
  · show (w.heap ++ os)[i]? = w.heap[i]?
    rw [Array.getElem?_append_left hi]
theorem sIt_eq (n : Int) : sIt n = ⟨(Lib.itoa n).toArray⟩ := by unfold sIt; rfl
theorem write_any (n : Int) (w : World) (h0 : -9223372036854775808 ≤ n) (h1 : n ≤ 9223372036854775807) (ht : Tab w) :
    Calls Tryd.prog 25 #[.int .i64 n] w fun e w' => e = .returned (.string (sIt n)) ∧ Below w.heap.size w w' := by
  have HI := Lib.hid (Tryd.strconv_Itoa n h0 h1 w ht)
  rw [sIt_eq]
  go_enter Tryd.func25, Tryd.ntmps25
  go_wp2_with fail
  refine HI.out.mono ?_; rintro e w1 ⟨rfl, k, os, rfl⟩
  go_wp2
  go_ret
  exact ⟨rfl, bl_grow w k os⟩
theorem line_two (b c : Nat) (w : World) (ht : Tab w) (hbw : b < w.heap.size) (h3 : w.cell? ⟨b, 0, none⟩ = some (.int .i64 3)) (h4 : w.cell? ⟨b, 1, none⟩ = some (.int .i64 4)) :
    Calls Tryd.prog 26 #[.slice (some ⟨b, 0, none⟩) 2 c] w fun e w' => e = .returned (.string ⟨#[51, 32, 52, 10]⟩) ∧ Below w.heap.size w w' := by
  have e : (⟨(Lib.join ([sIt 3, sIt 4].map (·.data.toList)) [32]).toArray⟩ : ByteArray) = ⟨#[51, 32, 52]⟩ := by rw [sIt_eq, sIt_eq]; kernel_rfl
  have key := line_core Tab tab_keep write_any ⟨#[51, 32, 52]⟩ (by decide) b 0 c [3, 4] (by decide) (by decide) w ht hbw (fun j hj => by
      rcases j with _ | _ | j
      · decide
      · decide
      · simp at hj; omega) (fun j hj => by
      rcases j with _ | _ | j
      · exact h3
      · exact h4
      · simp at hj; omega) (fun W g cap hown => by
      have hlt := hown.lt g rfl
      have hcap : 2 ≤ cap := by
        rcases hown.2 with ⟨h, _⟩ | ⟨g', cap', cur, hv, _, _, _, _, hc, _⟩
        · cases h
        · cases hv
          have := hown.1
          omega
      have hJ := Tryd.strings_Join g 0 cap [sIt 3, sIt 4] ⟨#[32]⟩ W (fun j x hx => by
        rcases j with _ | _ | j
        · rw [show (0 + 0 : Nat) = 0 from rfl, hown.cellAt 0 (by decide)]; simp at hx; subst hx; rfl
        · rw [show (0 + (0 + 1) : Nat) = 1 from rfl, hown.cellAt 1 (by decide)]; simp at hx; subst hx; rfl
        · simp at hx) hlt.2 (by decide) hcap (by rw [sIt_eq, sIt_eq]; exact of_decide_eq_true (by kernel_rfl))
      rw [show ([32] : List UInt8) = (⟨#[32]⟩ : ByteArray).data.toList from rfl] at e
      rw [e] at hJ
      exact hJ)
  exact key

/-- what the walk of inst.Write keeps: the problem in its box (bx), its two lists (b1, b2), the builder (bb) with what has been written -/
structure St (w : World) (bx bb b1 b2 : Nat) (acc : List UInt8) (W : World) : Prop where
  box : W.heap[bx]? = some (.cells #[.int .i64 1, .int .i64 1, .int .i64 5, .slice (some ⟨b1, 0, none⟩) 1 1, .slice (some ⟨b2, 0, none⟩) 1 1, .slice none 0 0] 25 (0, 0))
  e1 : W.cell? ⟨b1, 0, none⟩ = some (.int .i64 3)
  e2 : W.cell? ⟨b2, 0, none⟩ = some (.int .i64 4)
  bld : Lib.IsBuilderF 45 5 bb bb (Lib.byteCells acc) W
  tab : Tab W
  bel : Below w.heap.size w W
  l0 : bx < bb
  l1 : b1 < bb
  l2 : b2 < bb
  hw : w.heap.size ≤ bb
  hB : bb < W.heap.size
theorem at_keep {b : Nat} {p : Value} {bs : List Value} {W W1 : World} (h : Lib.BuilderAtF 45 5 b b p bs W) (hb : Below W.heap.size W W1) : Lib.BuilderAtF 45 5 b b p bs W1 := by
  obtain ⟨h1, v, h2, h3, h4⟩ := h
  have hlt : b < W.heap.size := by
    rcases Nat.lt_or_ge b W.heap.size with h' | h'
    · exact h'
    · simp [Array.getElem?_eq_none h'] at h2
  refine ⟨h1, v, (hb.block b hlt).trans h2, h3.kept (row := none) ⟨hb.os, hb.tape, hb.output, hb.size, fun i hi _ => hb.block i hi⟩ ?_, h4⟩
  by_cases h : v.ownBlock = none
  · exact Or.inl h
  · exact Or.inr h
theorem St.keep {w W W1 : World} {bx bb b1 b2 : Nat} {acc : List UInt8} (h : St w bx bb b1 b2 acc W) (hb : Below W.heap.size W W1) : St w bx bb b1 b2 acc W1 :=
  { box := (hb.block bx (Nat.lt_trans h.l0 h.hB)).trans h.box
    e1 := (hb.cell (p := ⟨b1, 0, none⟩) (Nat.lt_trans h.l1 h.hB)).trans h.e1
    e2 := (hb.cell (p := ⟨b2, 0, none⟩) (Nat.lt_trans h.l2 h.hB)).trans h.e2
    bld := h.bld.elim (fun x => Or.inl (at_keep x hb)) (fun x => Or.inr (at_keep x hb))
    tab := tab_keep _ _ h.tab hb
    bel := bl_tr h.bel hb
    l0 := h.l0, l1 := h.l1, l2 := h.l2, hw := h.hw, hB := Nat.lt_of_lt_of_le h.hB hb.size }
theorem St.put {w W W1 : World} {bx bb b1 b2 : Nat} {acc acc' : List UInt8} {s : ByteArray} (h : St w bx bb b1 b2 acc W) (k : Lib.BuilderAtF 45 5 bb bb (.pointer (some ⟨bb, 0, none⟩)) (Lib.byteCells acc ++ Lib.strCells s) W1)
    (hb : Below bb W W1) (ha : acc ++ s.data.toList = acc') : St w bx bb b1 b2 acc' W1 :=
  { box := (hb.block bx h.l0).trans h.box
    e1 := (hb.cell (p := ⟨b1, 0, none⟩) h.l1).trans h.e1
    e2 := (hb.cell (p := ⟨b2, 0, none⟩) h.l2).trans h.e2
    bld := Or.inr (by rw [← ha, Lib.byteCells_append]; exact k)
    tab := tab_b h.tab hb (Nat.lt_of_le_of_lt (Nat.zero_le _) h.l0)
    bel := h.bel.trans (hb.mono h.hw)
    l0 := h.l0, l1 := h.l1, l2 := h.l2, hw := h.hw, hB := Nat.lt_of_lt_of_le h.hB hb.size }
theorem St.cells {w W : World} {bx bb b1 b2 : Nat} {acc : List UInt8} (h : St w bx bb b1 b2 acc W) : W.cell? ⟨bx, 0, none⟩ = some (.int .i64 1) ∧ W.cell? ⟨bx, 1, none⟩ = some (.int .i64 1) ∧ W.cell? ⟨bx, 2, none⟩ = some (.int .i64 5) ∧
    W.cell? ⟨bx, 3, none⟩ = some (.slice (some ⟨b1, 0, none⟩) 1 1) ∧ W.cell? ⟨bx, 4, none⟩ = some (.slice (some ⟨b2, 0, none⟩) 1 1) ∧ W.cell? ⟨bx, 5, none⟩ = some (.slice none 0 0) :=
  ⟨cell_of_row _ _ 0 _ _ _ h.box, cell_of_row _ _ 1 _ _ _ h.box, cell_of_row _ _ 2 _ _ _ h.box, cell_of_row _ _ 3 _ _ _ h.box, cell_of_row _ _ 4 _ _ _ h.box, cell_of_row _ _ 5 _ _ _ h.box⟩
theorem St.puts {w W : World} {bx bb b1 b2 : Nat} {acc : List UInt8} (h : St w bx bb b1 b2 acc W) (s : ByteArray) (acc' : List UInt8) (ha : acc ++ s.data.toList = acc') (hl : acc.length + s.size ≤ 1000) :
    Calls Tryd.prog 24 #[.pointer (some ⟨bb, 0, none⟩), .string s] W fun e w' => e = .returned (.tuple #[.int .i64 s.size, .nilIface]) ∧ St w bx bb b1 b2 acc' w' :=
  (put_any bb bb (Lib.byteCells acc) s W h.bld (by simp [Lib.byteCells]; omega) (Nat.le_of_lt h.hB)).mono fun e w' ⟨he, k, hb, _⟩ => ⟨he, h.put k hb ha⟩
end Go.Proofs.YtknpjeeclagmjaaDoor

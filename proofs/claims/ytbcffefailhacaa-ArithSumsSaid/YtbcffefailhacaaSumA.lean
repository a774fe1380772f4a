/-
  What the function Sum of the package arith answers for a list of at most a thousand ints: the sum, or that no int is it.
-/
import Derived.Test.YtbcffefailhacaaFar2
import Derived.Deep.RegionWith
namespace Go.Proofs.Ytbcffefailhacaa
open Go.RowKit
set_option linter.unusedVariables false

/-- the sum of the first i -/
def ps (zs : List Int) : Nat → Int
  | 0 => 0
  | i + 1 => ps zs i + zs.getD i 0
theorem ps_b (zs : List Int) (hz : ∀ i, -9223372036854775808 ≤ zs.getD i 0 ∧ zs.getD i 0 ≤ 9223372036854775807) : ∀ i : Nat, -9223372036854775808 * (i : Int) ≤ ps zs i ∧ ps zs i ≤ 9223372036854775808 * (i : Int)
  | 0 => by simp [ps]
  | i + 1 => by
    have h := ps_b zs hz i
    have h2 := hz i
    simp only [ps]
    omega
theorem ps_succ (zs : List Int) (i : Nat) : ps zs (i + 1) = ps zs i + zs.getD i 0 := rfl
theorem ps_zero (zs : List Int) : ps zs 0 = 0 := rfl
theorem hl_zero : hi64 0 = 0 ∧ lo64 0 = 0 := by decide
attribute [irreducible] ps
theorem wide_cells {w : World} {g : Nat} {a b : Int} (h : w.heap[g]? = some (.cells #[.int .u64 a, .int .u64 b] 50 (0, 0))) : w.cell? ⟨g, 0, none⟩ = some (.int .u64 a) ∧ w.cell? ⟨g, 1, none⟩ = some (.int .u64 b) ∧ (∀ j, w.frozen? ⟨g, j, none⟩ = false) :=
  ⟨cell_of_row _ _ 0 _ _ _ h, cell_of_row _ _ 1 _ _ _ h, fun j => frozen_of_row _ _ _ _ _ h⟩
theorem wide_store {w : World} {g : Nat} {a b c d : Int} (h : w.heap[g]? = some (.cells #[.int .u64 a, .int .u64 b] 50 (0, 0))) :
    ((w.setCell ⟨g, 0, none⟩ (.int .u64 c)).setCell ⟨g, 1, none⟩ (.int .u64 d)).heap[g]? = some (.cells #[.int .u64 c, .int .u64 d] 50 (0, 0)) := by
  have h0 := heap_setCell_same w g 0 _ 50 (.int .u64 c) h
  have h1 := heap_setCell_same _ g 1 _ 50 (.int .u64 d) h0
  simpa using h1
theorem belowD {w w1 : World} (h : Below w.drew.heap.size w.drew w1) : Below w.heap.size w w1 := ⟨h.os, h.tape, h.output, h.size, h.block⟩
theorem widen_b (a : Int) (h1 : -9223372036854775808 ≤ a) (h2 : a ≤ 9223372036854775807) (w : World) :
    Calls Try.prog 28 #[.int .i64 a] w fun e w' => e = .returned (.agg #[.int .u64 (hi64 a), .int .u64 (lo64 a)]) ∧ Below w.heap.size w w' :=
  (widen_any a h1 h2 w).mono fun _ _ ⟨he, c, hw⟩ => ⟨he, by rw [hw]; exact bl_al (Below.refl _ _) _⟩
theorem plus_b (x y : Int) (w : World) :
    Calls Try.prog 29 #[.agg #[.int .u64 (hi64 x), .int .u64 (lo64 x)], .agg #[.int .u64 (hi64 y), .int .u64 (lo64 y)]] w fun e w' =>
      e = .returned (.agg #[.int .u64 (hi64 (x + y)), .int .u64 (lo64 (x + y))]) ∧ Below w.heap.size w w' :=
  (plus_any x y w).mono fun _ _ ⟨he, c1, c2, c3, hw⟩ => ⟨he, by rw [hw]; exact bl_al (bl_al (bl_al (Below.refl _ _) _) _) _⟩
structure SumAt (w wr : World) (zs : List Int) (i : Nat) : Prop where
  blk : wr.heap[w.heap.size]? = some (.cells #[.int .u64 (hi64 (ps zs i)), .int .u64 (lo64 (ps zs i))] 50 (0, 0))
  bl : Below w.heap.size w wr
theorem SumAt.next {w wr : World} {zs : List Int} {i : Nat} {zi : Int} (h : SumAt w wr zs i) (hzi : zs.getD i 0 = zi) {w2 : World} (hb : Below wr.heap.size wr w2) :
    SumAt w ((w2.setCell ⟨w.heap.size, 0, none⟩ (.int .u64 (hi64 (ps zs i + zi)))).setCell ⟨w.heap.size, 1, none⟩ (.int .u64 (lo64 (ps zs i + zi)))) zs (i + 1) := by
  have h2 : w2.heap[w.heap.size]? = _ := (hb.block _ (lt_heap h.blk)).trans h.blk
  refine ⟨?_, ((bl_tr h.bl hb).setCell (p := ⟨w.heap.size, 0, none⟩) (Nat.le_refl _) _).setCell (p := ⟨w.heap.size, 1, none⟩) (Nat.le_refl _) _⟩
  rw [ps_succ, hzi]
  exact wide_store h2
theorem SumAt.keep {w wr : World} {zs : List Int} {i : Nat} (h : SumAt w wr zs i) {w2 : World} (hb : Below wr.heap.size wr w2) : SumAt w w2 zs i := ⟨(hb.block _ (lt_heap h.blk)).trans h.blk, bl_tr h.bl hb⟩
theorem SumAt.keepD {w wr : World} {zs : List Int} {i : Nat} (h : SumAt w wr zs i) {w2 : World} (hb : Below wr.drew.heap.size wr.drew w2) : SumAt w w2 zs i := h.keep (belowD hb)

set_option maxRecDepth 100000 in
set_option maxHeartbeats 400000 in
theorem sum_any (b off n c : Nat) (zs : List Int) (hn : n ≤ 1000) (hz : ∀ i, -9223372036854775808 ≤ zs.getD i 0 ∧ zs.getD i 0 ≤ 9223372036854775807) (w : World)
    (hc : ∀ i, i < n → w.cell? ⟨b, off + i, none⟩ = some (.int .i64 (zs.getD i 0))) (hlt : b < w.heap.size) :
    Calls Try.prog 22 #[.slice (some ⟨b, off, none⟩) n c] w fun e w' => e = .returned (.tuple #[.int .i64 (fitv (ps zs n)), .bool (fits (ps zs n))]) ∧ Below w.heap.size w w' := by
  have HB := Lib.hid (ps_b zs hz)
  have HZ := Lib.hid hz
  have HC := Lib.hid hc
  have S0 : SumAt w (w.alloc (.cells #[.int .u64 0, .int .u64 0] 50)) zs 0 := ⟨by rw [ps_zero, hl_zero.1, hl_zero.2]; exact heap_alloc_new w _, bl_al (Below.refl _ _) _⟩
  clear hz hc
  go_enter Try.func22, Try.ntmps22
  go_wp2_with fail
  go_loopw [9] (fun t wr => ∃ i : Nat, i ≤ n ∧ t = .int .i64 i ∧ SumAt w wr zs i) (fun t _ => n - (intOf t).toNat)
  case atStart => exact ⟨0, by omega, rfl, S0⟩
  case round =>
    obtain ⟨i, hi, rfl, hs⟩ := hrel
    clear S0
    by_cases hin : i < n
    · have hcell : wr.cell? ⟨b, off + i, none⟩ = some (.int .i64 (zs.getD i 0)) := (hs.bl.cell (p := ⟨b, off + i, none⟩) hlt).trans (HC.out i hin)
      obtain ⟨z1, z2⟩ := HZ.out i
      have HS := Lib.hid hs
      obtain ⟨c0, c1, cf⟩ := wide_cells hs.blk
      clear hs
      generalize hzi : zs.getD i 0 = zi at *
      have HZI := Lib.hid hzi
      clear hzi
      go_wp2
      go_region_with (first
        | (go_at_call 28; refine (widen_b zi z1 z2 _).mono ?_; rintro e w1 ⟨rfl, hb1⟩; have k1 := HS.out.keepD hb1; obtain ⟨d0, d1, df⟩ := wide_cells k1.blk; clear k1)
        | (go_at_call 29; refine (plus_b (ps zs i) zi _).mono ?_; rintro e w2 ⟨rfl, hb2⟩; have k2 := (HS.out.keepD hb1).keep hb2; obtain ⟨f0, f1, ff⟩ := wide_cells k2.blk; clear k2 d0 d1 df))
      all_goals
        go_wp2
        go_roundw
        case rel =>
          have h := SumAt.next HS.out (zi := zi) HZI.out (bl_tr (belowD hb1) hb2)
          exact ⟨i + 1, by omega, by go_num, h⟩
        case measure => simp [intOf]; omega
    · obtain rfl : i = n := by omega
      obtain ⟨c0, c1, cf⟩ := wide_cells hs.blk
      have bl := hs.bl
      have hb := HB.out i
      have HN := fun W => narrow_any (ps zs i) (by omega) (by omega) W
      clear hs hb
      have H := Lib.hid HN
      clear HN
      go_wp2_with fail
      refine (H.out _).mono ?_; rintro e w3 ⟨rfl, hb3⟩
      go_wp2_with fail
      go_ret2
      exact ⟨rfl, bl_tr bl hb3⟩
end Go.Proofs.Ytbcffefailhacaa

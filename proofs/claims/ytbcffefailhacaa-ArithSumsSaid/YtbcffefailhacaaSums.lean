/-
  For every list of ints, kurganlaw01.ArithSums answers true and leaves it as it was: of its first thousand the sum is told, however great the sums on the way are, or that no int is it. No condition.
-/
import Derived.Test.YtbcffefailhacaaSumA
import Derived.Test.YtbcffefailhacaaRows
import Derived.WalkKit
import Derived.ProofKit
import Derived.OpenShut
import Derived.ShutString
import Derived.ChangeOld
import Derived.Below
namespace Go.Proofs.Ytbcffefailhacaa.arithSums
open Go.ChangeShapes Go.WideShapes Go.ChangeAt Go.RowKit
open Go.ChangeMaps (open_string shut_string)
set_option linter.unusedVariables false

theorem own : ownKnob Try.prog.godebug = none := by kernel_rfl
theorem laidOut : laidOutB Try.prog = true := by kernel_rfl

/-- WHAT THE WALK IS TOLD OF A SLICE OF INTEGERS THAT CAME IN: it is nil; or it leads to a row of 'cap' cells, the numbers 'zs' (the first 'len' are its elements, the rest its spare room), each fitting its kind. -/
def IsRow (k : IntKind) (w : World) (a : Option Addr) (len cap : Nat) (zs : List Int) : Prop :=
  (a = none ∧ len = 0 ∧ cap = 0 ∧ zs = []) ∨
  ∃ x, a = some x ∧ len ≤ cap ∧ cap ≤ maxLen ∧ zs.length = cap ∧ (∀ i, i < zs.length → w.cell? (x.add i) = some (.int k (zs.getD i 0))) ∧ ∀ n ∈ zs, (Lit.int k n).wf = true


/-- what has been added so far lies in block g -/
def Acc (w : World) (zs : List Int) (g i : Nat) (wr : World) : Prop :=
  ∃ (k : Bool) (z : Nat), wr.heap[g]? = some (.cells #[.bool k, .int .i64 (dg z 0), .int .i64 (dg z 1), .int .i64 (dg z 2), .int .i64 (dg z 3), .int .i64 (dg z 4), .int .i64 (dg z 5), .int .i64 (dg z 6), .int .i64 (dg z 7), .int .i64 (dg z 8)] 28 (0, 0)) ∧ sv k z = ps zs i ∧ z ≤ i * 9223372036854775808 ∧ Below w.heap.size w wr
theorem sum_zero (a : Option Addr) (c : Nat) (w : World) :
    Calls Try.prog 22 #[.slice a 0 c] w fun e w' => e = .returned (.tuple #[.int .i64 0, .bool true]) ∧ Below w.heap.size w w' := by
  have S0 : w.heap.size = w.heap.size := rfl
  have h0 := hl_zero
  have HN := fun W => narrow_yes 0 (by decide) W
  rw [h0.1, h0.2] at HN
  have H := Lib.hid HN
  clear HN S0 h0
  go_enter Try.func22, Try.ntmps22
  go_wp2_with fail
  go_loopw [9] (fun t wr => t = .int .i64 0 ∧ wr = w.alloc (.cells #[.int .u64 0, .int .u64 0] 50)) (fun t _ => 0)
  case atStart => exact ⟨rfl, rfl⟩
  case round =>
    obtain ⟨rfl, rfl⟩ := hrel
    go_wp2_with fail
    refine (H.out _).mono ?_; rintro e w3 ⟨rfl, hb3⟩
    go_wp2_with fail
    go_ret2
    exact ⟨rfl, bl_tr (bl_al (Below.refl _ _) _) hb3⟩
theorem cells_frozen {w : World} {g : Nat} {k : Bool} {z : Nat} (h : w.heap[g]? = some (.cells #[.bool k, .int .i64 (dg z 0), .int .i64 (dg z 1), .int .i64 (dg z 2), .int .i64 (dg z 3), .int .i64 (dg z 4), .int .i64 (dg z 5), .int .i64 (dg z 6), .int .i64 (dg z 7), .int .i64 (dg z 8)] 28 (0, 0))) : w.cell? ⟨g, 0, none⟩ = some (.bool k) ∧ w.cell? ⟨g, 1, none⟩ = some (.int .i64 (dg z 0)) ∧ w.cell? ⟨g, 2, none⟩ = some (.int .i64 (dg z 1)) ∧ w.cell? ⟨g, 3, none⟩ = some (.int .i64 (dg z 2)) ∧ w.cell? ⟨g, 4, none⟩ = some (.int .i64 (dg z 3)) ∧ w.cell? ⟨g, 5, none⟩ = some (.int .i64 (dg z 4)) ∧ w.cell? ⟨g, 6, none⟩ = some (.int .i64 (dg z 5)) ∧ w.cell? ⟨g, 7, none⟩ = some (.int .i64 (dg z 6)) ∧ w.cell? ⟨g, 8, none⟩ = some (.int .i64 (dg z 7)) ∧ w.cell? ⟨g, 9, none⟩ = some (.int .i64 (dg z 8)) ∧ (∀ j, w.frozen? ⟨g, j, none⟩ = false) :=
  ⟨cell_of_row _ _ 0 _ _ _ h, cell_of_row _ _ 1 _ _ _ h, cell_of_row _ _ 2 _ _ _ h, cell_of_row _ _ 3 _ _ _ h, cell_of_row _ _ 4 _ _ _ h, cell_of_row _ _ 5 _ _ _ h, cell_of_row _ _ 6 _ _ _ h, cell_of_row _ _ 7 _ _ _ h, cell_of_row _ _ 8 _ _ _ h, cell_of_row _ _ 9 _ _ _ h, fun j => frozen_of_row _ _ _ _ _ h⟩
theorem ten_sg {w : World} {g : Nat} {k : Bool} {z : Nat} (h : w.heap[g]? = some (.cells #[.bool k, .int .i64 (dg z 0), .int .i64 (dg z 1), .int .i64 (dg z 2), .int .i64 (dg z 3), .int .i64 (dg z 4), .int .i64 (dg z 5), .int .i64 (dg z 6), .int .i64 (dg z 7), .int .i64 (dg z 8)] 28 (0, 0))) (v0 v1 v2 v3 v4 v5 v6 v7 v8 v9 : Value) :
    ((((((((((w.setCell ⟨g, 0, none⟩ v0).setCell ⟨g, 1, none⟩ v1).setCell ⟨g, 2, none⟩ v2).setCell ⟨g, 3, none⟩ v3).setCell ⟨g, 4, none⟩ v4).setCell ⟨g, 5, none⟩ v5).setCell ⟨g, 6, none⟩ v6).setCell ⟨g, 7, none⟩ v7).setCell ⟨g, 8, none⟩ v8).setCell ⟨g, 9, none⟩ v9).heap[g]? = some (.cells #[v0, v1, v2, v3, v4, v5, v6, v7, v8, v9] 28 (0, 0)) := by
  have h0 := heap_setCell_same w g 0 _ 28 v0 h
  have h1 := heap_setCell_same _ g 1 _ 28 v1 h0
  have h2 := heap_setCell_same _ g 2 _ 28 v2 h1
  have h3 := heap_setCell_same _ g 3 _ 28 v3 h2
  have h4 := heap_setCell_same _ g 4 _ 28 v4 h3
  have h5 := heap_setCell_same _ g 5 _ 28 v5 h4
  have h6 := heap_setCell_same _ g 6 _ 28 v6 h5
  have h7 := heap_setCell_same _ g 7 _ 28 v7 h6
  have h8 := heap_setCell_same _ g 8 _ 28 v8 h7
  have h9 := heap_setCell_same _ g 9 _ 28 v9 h8
  simpa using h9
theorem acc_next {w wr w2 : World} {zs : List Int} {g i : Nat} {k : Bool} {z : Nat} {zi : Int} (hg : w.heap.size ≤ g) (hb : Below wr.heap.size wr w2)
    (h1 : wr.heap[g]? = some (.cells #[.bool k, .int .i64 (dg z 0), .int .i64 (dg z 1), .int .i64 (dg z 2), .int .i64 (dg z 3), .int .i64 (dg z 4), .int .i64 (dg z 5), .int .i64 (dg z 6), .int .i64 (dg z 7), .int .i64 (dg z 8)] 28 (0, 0))) (h2 : sv k z = ps zs i) (h3 : z ≤ i * 9223372036854775808) (h4 : Below w.heap.size w wr) (hz : zs.getD i 0 = zi) (b1 : -9223372036854775808 ≤ zi) (b2 : zi ≤ 9223372036854775807) :
    Acc w zs g (i + 1) ((((((((((w2.setCell ⟨g, 0, none⟩ (.bool (addk k (decide (zi < 0)) z zi.natAbs))).setCell ⟨g, 1, none⟩ (.int .i64 (dg (addz k (decide (zi < 0)) z zi.natAbs) 0))).setCell ⟨g, 2, none⟩ (.int .i64 (dg (addz k (decide (zi < 0)) z zi.natAbs) 1))).setCell ⟨g, 3, none⟩ (.int .i64 (dg (addz k (decide (zi < 0)) z zi.natAbs) 2))).setCell ⟨g, 4, none⟩ (.int .i64 (dg (addz k (decide (zi < 0)) z zi.natAbs) 3))).setCell ⟨g, 5, none⟩ (.int .i64 (dg (addz k (decide (zi < 0)) z zi.natAbs) 4))).setCell ⟨g, 6, none⟩ (.int .i64 (dg (addz k (decide (zi < 0)) z zi.natAbs) 5))).setCell ⟨g, 7, none⟩ (.int .i64 (dg (addz k (decide (zi < 0)) z zi.natAbs) 6))).setCell ⟨g, 8, none⟩ (.int .i64 (dg (addz k (decide (zi < 0)) z zi.natAbs) 7))).setCell ⟨g, 9, none⟩ (.int .i64 (dg (addz k (decide (zi < 0)) z zi.natAbs) 8))) := by
  refine ⟨_, _, ten_sg ((hb.block _ (lt_heap h1)).trans h1) _ _ _ _ _ _ _ _ _ _, ?_, ?_, ten_below (bl_tr h4 hb) g hg _ _ _ _ _ _ _ _ _ _⟩
  · rw [add_sv, sv_num, ps_succ, h2, hz]
  · have := addz_le k (decide (zi < 0)) z zi.natAbs
    omega

set_option maxRecDepth 100000 in
set_option maxHeartbeats 1000000 in
theorem walk_short (b off len cap : Nat) (zs : List Int) (hz : ∀ i, -9223372036854775808 ≤ zs.getD i 0 ∧ zs.getD i 0 ≤ 9223372036854775807) (w : World)
    (hc : ∀ i, i < len → w.cell? ⟨b, off + i, none⟩ = some (.int .i64 (zs.getD i 0))) (hlt : b < w.heap.size) (hlen : len ≤ 1000) (hcap : len ≤ cap) (hcap2 : cap ≤ 9223372036854775807) :
    Calls Try.prog 5 #[.slice (some ⟨b, off, none⟩) len cap] w fun e w' => e = .returned (.bool true) ∧ Below w.heap.size w w' := by
  have hN : len ≤ 1000 := by omega
  have hNl : len ≤ len := by omega
  have HS := fun (W : World) (h : Below w.heap.size w W) => sum_any b off len cap zs hN hz W (fun i hi => (h.cell (p := ⟨b, off + i, none⟩) hlt).trans (hc i (by omega))) (Nat.lt_of_lt_of_le hlt h.size)
  have HSh := Lib.hid HS
  have HB := Lib.hid (ps_b zs hz)
  have HZ := Lib.hid hz
  have HC := Lib.hid hc
  have b9 : 1000 * 9223372036854775808 < BB ^ 9 := by decide
  have B9' := Lib.hid b9
  have b99 := Lib.hid B9
  clear HS hz hc b9
  go_enter Try.func5, Try.ntmps5
  go_wp2_with fail
  have hmin : min (len : Int) 1000 = (len : Int) := by omega
  simp only [hmin, Int.toNat_natCast]
  clear hmin
  refine (num_any 0 (by decide) (by decide) _).mono ?_; rintro e w1 ⟨rfl, hb1⟩
  go_wp2_with fail
  have A0 : Acc w zs w1.heap.size 0 (w1.alloc (.cells #[.bool false, .int .i64 (dg 0 0), .int .i64 (dg 0 1), .int .i64 (dg 0 2), .int .i64 (dg 0 3), .int .i64 (dg 0 4), .int .i64 (dg 0 5), .int .i64 (dg 0 6), .int .i64 (dg 0 7), .int .i64 (dg 0 8)] 28)) :=
    ⟨false, 0, heap_alloc_new w1 _, by have := sv_num 0; simpa [ps_zero] using this, by simp, bl_al hb1 _⟩
  have hg : w.heap.size ≤ w1.heap.size := hb1.size
  clear hb1
  go_loopw [4] (fun t wr => ∃ i : Nat, i ≤ len ∧ t = .int .i64 i ∧ Acc w zs w1.heap.size i wr) (fun t _ => len - (intOf t).toNat)
  case atStart => exact ⟨0, by omega, rfl, A0⟩
  case round =>
    obtain ⟨i, hi, rfl, k, z, q1, q2, q3, q4⟩ := hrel
    clear A0
    by_cases hin : i < len
    · have hcell : wr.cell? ⟨b, off + i, none⟩ = some (.int .i64 (zs.getD i 0)) := (q4.cell (p := ⟨b, off + i, none⟩) hlt).trans (HC.out i (by omega))
      obtain ⟨z1, z2⟩ := HZ.out i
      obtain ⟨c0, c1, c2, c3, c4, c5, c6, c7, c8, c9, cf⟩ := cells_frozen q1
      generalize hzi : zs.getD i 0 = zi at *
      have hcellD : wr.drew.cell? ⟨b, off + i, none⟩ = some (.int .i64 zi) := hcell
      have HADD := fun W => add_any k (decide (zi < 0)) z zi.natAbs (by have := B9'.out; omega) (by have := b99.out; omega) W
      have HADDh := Lib.hid HADD
      have Q1 := Lib.hid q1; have Q2 := Lib.hid q2; have Q3 := Lib.hid q3; have Q4 := Lib.hid q4; have HZI := Lib.hid hzi
      clear HADD q1 q2 q3 q4 hzi
      go_wp2
      go_region_with (first
        | (go_at_call 14; refine (num_any zi z1 z2 _).mono ?_; rintro e w2 ⟨rfl, hb2⟩; obtain ⟨d0, d1, d2, d3, d4, d5, d6, d7, d8, d9, df⟩ := cells_frozen (((belowD hb2).block _ (lt_heap Q1.out)).trans Q1.out))
        | (go_at_call 17; refine (HADDh.out _).mono ?_; rintro e w3 ⟨rfl, hb3⟩; clear d0 d1 d2 d3 d4 d5 d6 d7 d8 d9 df; obtain ⟨f0, f1, f2, f3, f4, f5, f6, f7, f8, f9, ff⟩ := cells_frozen ((hb3.block _ (Nat.lt_of_lt_of_le (lt_heap Q1.out) (belowD hb2).size)).trans (((belowD hb2).block _ (lt_heap Q1.out)).trans Q1.out))))
      all_goals
        go_wp2
        go_roundw
        case rel => exact ⟨i + 1, by omega, by go_num, acc_next hg (bl_tr (belowD hb2) hb3) Q1.out Q2.out Q3.out Q4.out HZI.out z1 z2⟩
        case measure => simp [intOf]; omega
    · obtain rfl : len = i := by omega
      obtain ⟨c0, c1, c2, c3, c4, c5, c6, c7, c8, c9, cf⟩ := cells_frozen q1
      have Q1 := Lib.hid q1
      have HSA := fun W => same_any (fitv (ps zs len)) (fits (ps zs len)) k z (by have := B9'.out; omega) (by rw [q2]) (by rw [q2]) W
      have HSAh := Lib.hid HSA
      clear HSA q1 q2 q3 hi hin
      go_wp2_with fail
      refine (HSh.out _ q4).mono ?_; rintro e w4 ⟨rfl, hb4⟩
      generalize fitv (ps zs len) = v at *
      generalize fits (ps zs len) = f at *
      go_wp2_with fail
      refine (counts_any _).mono ?_; rintro e w5 ⟨rfl, hb5⟩
      obtain ⟨e0, e1, e2, e3, e4, e5, e6, e7, e8, e9, ef⟩ := cells_frozen (((bl_tr hb4 hb5).block _ (lt_heap Q1.out)).trans Q1.out)
      clear c0 c1 c2 c3 c4 c5 c6 c7 c8 c9 cf
      go_wp2_with fail
      refine (HSAh.out _).mono ?_; rintro e w6 ⟨rfl, hb6⟩
      go_wp2_with fail
      go_ret
      exact ⟨rfl, bl_tr (bl_tr (bl_tr q4 hb4) hb5) hb6⟩

set_option maxRecDepth 100000 in
set_option maxHeartbeats 1000000 in
theorem walk_long (b off len cap : Nat) (zs : List Int) (hz : ∀ i, -9223372036854775808 ≤ zs.getD i 0 ∧ zs.getD i 0 ≤ 9223372036854775807) (w : World)
    (hc : ∀ i, i < len → w.cell? ⟨b, off + i, none⟩ = some (.int .i64 (zs.getD i 0))) (hlt : b < w.heap.size) (hlen : 1000 < len) (hcap : len ≤ cap) (hcap2 : cap ≤ 9223372036854775807) :
    Calls Try.prog 5 #[.slice (some ⟨b, off, none⟩) len cap] w fun e w' => e = .returned (.bool true) ∧ Below w.heap.size w w' := by
  obtain ⟨N, hNN⟩ : ∃ N : Nat, N = 1000 := ⟨_, rfl⟩
  have hN : N ≤ 1000 := by omega
  have hNl : N ≤ len := by omega
  have HS := fun (W : World) (h : Below w.heap.size w W) => sum_any b off N cap zs hN hz W (fun i hi => (h.cell (p := ⟨b, off + i, none⟩) hlt).trans (hc i (by omega))) (Nat.lt_of_lt_of_le hlt h.size)
  have HSh := Lib.hid HS
  have HB := Lib.hid (ps_b zs hz)
  have HZ := Lib.hid hz
  have HC := Lib.hid hc
  have b9 : 1000 * 9223372036854775808 < BB ^ 9 := by decide
  have B9' := Lib.hid b9
  have b99 := Lib.hid B9
  clear HS hz hc b9
  have HNN := Lib.hid hNN
  clear hNN
  go_enter Try.func5, Try.ntmps5
  go_wp2_with fail
  have hmin : min (len : Int) 1000 = 1000 := by omega
  simp only [hmin, Int.reduceToNat]
  clear hmin
  rw [show (1000 : Nat) = N from HNN.out.symm]
  refine (num_any 0 (by decide) (by decide) _).mono ?_; rintro e w1 ⟨rfl, hb1⟩
  go_wp2_with fail
  have A0 : Acc w zs w1.heap.size 0 (w1.alloc (.cells #[.bool false, .int .i64 (dg 0 0), .int .i64 (dg 0 1), .int .i64 (dg 0 2), .int .i64 (dg 0 3), .int .i64 (dg 0 4), .int .i64 (dg 0 5), .int .i64 (dg 0 6), .int .i64 (dg 0 7), .int .i64 (dg 0 8)] 28)) :=
    ⟨false, 0, heap_alloc_new w1 _, by have := sv_num 0; simpa [ps_zero] using this, by simp, bl_al hb1 _⟩
  have hg : w.heap.size ≤ w1.heap.size := hb1.size
  clear hb1
  go_loopw [4] (fun t wr => ∃ i : Nat, i ≤ N ∧ t = .int .i64 i ∧ Acc w zs w1.heap.size i wr) (fun t _ => N - (intOf t).toNat)
  case atStart => exact ⟨0, by omega, rfl, A0⟩
  case round =>
    obtain ⟨i, hi, rfl, k, z, q1, q2, q3, q4⟩ := hrel
    clear A0
    by_cases hin : i < N
    · have hcell : wr.cell? ⟨b, off + i, none⟩ = some (.int .i64 (zs.getD i 0)) := (q4.cell (p := ⟨b, off + i, none⟩) hlt).trans (HC.out i (by omega))
      obtain ⟨z1, z2⟩ := HZ.out i
      obtain ⟨c0, c1, c2, c3, c4, c5, c6, c7, c8, c9, cf⟩ := cells_frozen q1
      generalize hzi : zs.getD i 0 = zi at *
      have hcellD : wr.drew.cell? ⟨b, off + i, none⟩ = some (.int .i64 zi) := hcell
      have HADD := fun W => add_any k (decide (zi < 0)) z zi.natAbs (by have := B9'.out; omega) (by have := b99.out; omega) W
      have HADDh := Lib.hid HADD
      have Q1 := Lib.hid q1; have Q2 := Lib.hid q2; have Q3 := Lib.hid q3; have Q4 := Lib.hid q4; have HZI := Lib.hid hzi
      clear HADD q1 q2 q3 q4 hzi
      go_wp2
      go_region_with (first
        | (go_at_call 14; refine (num_any zi z1 z2 _).mono ?_; rintro e w2 ⟨rfl, hb2⟩; obtain ⟨d0, d1, d2, d3, d4, d5, d6, d7, d8, d9, df⟩ := cells_frozen (((belowD hb2).block _ (lt_heap Q1.out)).trans Q1.out))
        | (go_at_call 17; refine (HADDh.out _).mono ?_; rintro e w3 ⟨rfl, hb3⟩; clear d0 d1 d2 d3 d4 d5 d6 d7 d8 d9 df; obtain ⟨f0, f1, f2, f3, f4, f5, f6, f7, f8, f9, ff⟩ := cells_frozen ((hb3.block _ (Nat.lt_of_lt_of_le (lt_heap Q1.out) (belowD hb2).size)).trans (((belowD hb2).block _ (lt_heap Q1.out)).trans Q1.out))))
      all_goals
        go_wp2
        go_roundw
        case rel => exact ⟨i + 1, by omega, by go_num, acc_next hg (bl_tr (belowD hb2) hb3) Q1.out Q2.out Q3.out Q4.out HZI.out z1 z2⟩
        case measure => simp [intOf]; omega
    · obtain rfl : N = i := by omega
      obtain ⟨c0, c1, c2, c3, c4, c5, c6, c7, c8, c9, cf⟩ := cells_frozen q1
      have Q1 := Lib.hid q1
      have HSA := fun W => same_any (fitv (ps zs N)) (fits (ps zs N)) k z (by have := B9'.out; omega) (by rw [q2]) (by rw [q2]) W
      have HSAh := Lib.hid HSA
      clear HSA q1 q2 q3 hi hin
      go_wp2_with fail
      refine (HSh.out _ q4).mono ?_; rintro e w4 ⟨rfl, hb4⟩
      generalize fitv (ps zs N) = v at *
      generalize fits (ps zs N) = f at *
      go_wp2_with fail
      refine (counts_any _).mono ?_; rintro e w5 ⟨rfl, hb5⟩
      obtain ⟨e0, e1, e2, e3, e4, e5, e6, e7, e8, e9, ef⟩ := cells_frozen (((bl_tr hb4 hb5).block _ (lt_heap Q1.out)).trans Q1.out)
      clear c0 c1 c2 c3 c4 c5 c6 c7 c8 c9 cf
      go_wp2_with fail
      refine (HSAh.out _).mono ?_; rintro e w6 ⟨rfl, hb6⟩
      go_wp2_with fail
      go_ret
      exact ⟨rfl, bl_tr (bl_tr (bl_tr q4 hb4) hb5) hb6⟩

theorem walk_empty (a : Option Addr) (cap : Nat) (hcap2 : cap ≤ 9223372036854775807) (w : World) :
    Calls Try.prog 5 #[.slice a 0 cap] w fun e w' => e = .returned (.bool true) ∧ Below w.heap.size w w' := by
  have HSA := fun W => same_any 0 true false 0 (BBp 9) (by have := sv_num 0; simp at this; rw [this, fitv_yes (by decide)]) (by have := sv_num 0; simp at this; rw [this, fits_yes (by decide)]) W
  have HSAh := Lib.hid HSA
  clear HSA
  rcases a with _ | ad
  all_goals
    go_enter Try.func5, Try.ntmps5
    go_wp2_with fail
    refine (num_any 0 (by decide) (by decide) _).mono ?_; rintro e w1 ⟨rfl, hb1⟩
    go_wp2_with fail
    have A0 : (w1.alloc (.cells #[.bool false, .int .i64 (dg 0 0), .int .i64 (dg 0 1), .int .i64 (dg 0 2), .int .i64 (dg 0 3), .int .i64 (dg 0 4), .int .i64 (dg 0 5), .int .i64 (dg 0 6), .int .i64 (dg 0 7), .int .i64 (dg 0 8)] 28)).heap[w1.heap.size]? = some (.cells #[.bool false, .int .i64 (dg 0 0), .int .i64 (dg 0 1), .int .i64 (dg 0 2), .int .i64 (dg 0 3), .int .i64 (dg 0 4), .int .i64 (dg 0 5), .int .i64 (dg 0 6), .int .i64 (dg 0 7), .int .i64 (dg 0 8)] 28 (0, 0)) := heap_alloc_new w1 _
    have A1 : Below w.heap.size w (w1.alloc (.cells #[.bool false, .int .i64 (dg 0 0), .int .i64 (dg 0 1), .int .i64 (dg 0 2), .int .i64 (dg 0 3), .int .i64 (dg 0 4), .int .i64 (dg 0 5), .int .i64 (dg 0 6), .int .i64 (dg 0 7), .int .i64 (dg 0 8)] 28)) := bl_al hb1 _
    clear hb1
    go_loopw [4] (fun t wr => t = .int .i64 0 ∧ wr.heap[w1.heap.size]? = some (.cells #[.bool false, .int .i64 (dg 0 0), .int .i64 (dg 0 1), .int .i64 (dg 0 2), .int .i64 (dg 0 3), .int .i64 (dg 0 4), .int .i64 (dg 0 5), .int .i64 (dg 0 6), .int .i64 (dg 0 7), .int .i64 (dg 0 8)] 28 (0, 0)) ∧ Below w.heap.size w wr) (fun t _ => 0)
    case atStart => exact ⟨rfl, A0, A1⟩
    case round =>
      obtain ⟨rfl, q1, q4⟩ := hrel
      clear A0 A1
      have Q1 := Lib.hid q1
      clear q1
      go_wp2_with fail
      refine (sum_zero _ _ _).mono ?_; rintro e w4 ⟨rfl, hb4⟩
      go_wp2_with fail
      refine (counts_any _).mono ?_; rintro e w5 ⟨rfl, hb5⟩
      obtain ⟨e0, e1, e2, e3, e4, e5, e6, e7, e8, e9, ef⟩ := cells_frozen (((bl_tr hb4 hb5).block _ (lt_heap Q1.out)).trans Q1.out)
      go_wp2_with fail
      refine (HSAh.out _).mono ?_; rintro e w6 ⟨rfl, hb6⟩
      go_wp2_with fail
      go_ret
      exact ⟨rfl, bl_tr (bl_tr (bl_tr q4 hb4) hb5) hb6⟩
theorem walk (a0 : Option Addr) (len0 cap0 : Nat) (z0 : List Int) (w : World) (w0 : IsRow .i64 w a0 len0 cap0 z0) :
    Calls Try.prog 5 #[.slice a0 len0 cap0] w fun e w' => e = .returned (.bool true) ∧ Below w.heap.size w w' := by
  rcases w0 with ⟨rfl, rfl, rfl, rfl⟩ | ⟨x, rfl, hl, hm, hz, hcell, hwf⟩
  · exact walk_empty none 0 (by decide) w
  · unfold maxLen at hm
    by_cases h0 : len0 = 0
    · subst h0; exact walk_empty (some x) cap0 hm w
    · obtain ⟨b, off, rfl, hc⟩ := ints_at hcell (by omega)
      have hb : b < w.heap.size := block_lt_of_cell (hc 0 (by omega))
      have hzz : ∀ i, -9223372036854775808 ≤ z0.getD i 0 ∧ z0.getD i 0 ≤ 9223372036854775807 := fun i => by simpa using range_i64 hwf i
      by_cases h : len0 ≤ 1000
      · exact walk_short b off len0 cap0 z0 hzz w (fun i hi => hc i (by omega)) hb h hl hm
      · exact walk_long b off len0 cap0 z0 hzz w (fun i hi => hc i (by omega)) hb (by omega) hl hm

/-! ### THE ROW's STEP: WRITTEN OUT: LEAVE IT -/
set_option maxRecDepth 100000 in
theorem lifted (os : Os) (started : os.Started) (H : Type) (enc : TypeId × Value → H) :
    ReturnsInHanded {} Try.checked os 5 .any (Rows.arithSumsSpec.pre6 enc Try.prog Try.f5 Rows.arithSumsRow.domain false) (Rows.arithSumsSpec.post enc Try.prog Try.f5 false true false false) := by
  refine returnsInHanded_of_change (C := Try.checked) own started (by kernel_rfl) Try.func5
    (ChangeSpec.witness6 (enc := enc) (C := Try.checked) false ⟨#[], #[.slice none 0 0], []⟩ 8 (by kernel_rfl) (by kernel_rfl) (by kernel_rfl) (by kernel_rfl)) ?_
  intro W base args ds gs before hval0 hW hcnd _
  have hval : ∀ (j : Nat) t v, Try.f5.params[j]? = some t → args[j]? = some v → Value.okWide Try.prog W .any base t v := hval0
  have hW' := hW
  obtain ⟨p, q, hA0, hV, rfl, hfz, hnd⟩ := hW
  have hA : DataW.TrodAll enc Try.prog W 0 (fun _ => true) true Try.f5.params.toList args.toList ds p := hA0
  rw [Try.params5] at hA hval
  obtain ⟨v0, vs0, d0, ds0, p0, q0, hargs, rfl, rfl, h0, r0⟩ := trodAll_cons hA
  obtain ⟨rfl, rfl, rfl⟩ := trodAll_nil r0
  obtain rfl : args = #[v0] := by cases args; simp_all
  obtain ⟨rfl, rfl⟩ := trodVars_none hV
  obtain ⟨a0, len0, cap0, rfl⟩ := okWide_slice Try.underlying38 (hval 0 38 v0 rfl rfl)
  have k0 := h0
  have lt0 : ∀ x ∈ p0, x.block < W.heap.size := by obtain ⟨m, hm⟩ := k0; exact DataW.trod_lt m _ _ _ hm
  obtain ⟨z0, w0⟩ : ∃ zs, IsRow .i64 W a0 len0 cap0 zs := by
    obtain ⟨fuel, hf⟩ := h0
    rcases open_ints Try.underlying38 Try.underlying3 (by kernel_rfl) hf with ⟨hcs, _⟩ | ⟨x, l, c, zs, hcs, _, hl, hm, hz, _, hcell, hwz⟩
    · simp [Value.cells] at hcs
      obtain ⟨rfl, rfl, rfl⟩ := hcs
      exact ⟨[], .inl ⟨rfl, rfl, rfl, rfl⟩⟩
    · simp [Value.cells] at hcs
      obtain ⟨rfl, rfl, rfl⟩ := hcs
      exact ⟨zs, .inr ⟨_, rfl, hl, hm, by simpa using hz, hcell, hwz⟩⟩
  clear hA0 hval0
  refine (walk a0 len0 cap0 z0 W w0).mono fun e W' ⟨he, bel⟩ => ?_
  subst he
  exact ⟨_, rfl, _, _, _, [], _, [], hW', trodAll_mk1 (shut_bool Try.underlying4 _), (trodAll_cons_mk (Below.trod laidOut (by kernel_rfl) (of_decide_eq_true (by kernel_rfl)) k0 bel lt0) trodAll_mk0), rfl, bel.frame _, fun h => by cases h⟩

theorem over : Rows.arithSumsRow.holds Try.pinned (OpenSpec.ofChange Rows.arithSumsSpec) :=
  OpenClaim.holds_of_wide 5 Try.f5 rfl rfl rfl rfl rfl rfl rfl ⟨rfl, rfl, rfl, rfl, rfl⟩ rfl rfl rfl rfl rfl (by kernel_rfl) Try.func5 (by kernel_rfl)
    (of_decide_eq_true (by kernel_rfl)) (by unfold Func.isWrapper; first | (rw [if_pos (by decide +kernel)]; kernel_rfl) | (rw [if_neg (by decide +kernel)]; exact ⟨rfl, rfl⟩))
    (fun os started H enc _ => lifted os started H enc)

/-- ████ THE STATEMENT ████ -/
theorem proved : Rows.ArithSumsSaid := over
#print axioms proved
end Go.Proofs.Ytbcffefailhacaa.arithSums

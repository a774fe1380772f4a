/-
  What inst.Write answers of the one problem that the laws write down, in every world that holds the table of the powers of ten: the walk.
-/
import Derived.Test.YtknpjeeclagmjaaDoorText
namespace Go.Proofs.YtknpjeeclagmjaaDoor
open Go.RowKit
set_option linter.unusedVariables false

theorem st_start {w w1 : World} {b1 b2 : Nat} (ht : Tab w) (h1 : w.cell? ⟨b1, 0, none⟩ = some (.int .i64 3)) (h2 : w.cell? ⟨b2, 0, none⟩ = some (.int .i64 4)) (l1 : b1 < w.heap.size) (l2 : b2 < w.heap.size)
    (hb : Below (w.alloc (.cells #[.int .i64 1, .int .i64 1, .int .i64 5, .slice (some ⟨b1, 0, none⟩) 1 1, .slice (some ⟨b2, 0, none⟩) 1 1, .slice none 0 0] 25)).heap.size (w.alloc (.cells #[.int .i64 1, .int .i64 1, .int .i64 5, .slice (some ⟨b1, 0, none⟩) 1 1, .slice (some ⟨b2, 0, none⟩) 1 1, .slice none 0 0] 25)) w1) :
    St w w.heap.size w1.heap.size b1 b2 [] (w1.alloc (.cells #[.pointer none, .slice none 0 0] 45)) := by
  have hs := hb.size
  simp at hs
  have b0 : Below w.heap.size w w1 := bl_tr (bl_al (Below.refl _ _) _) hb
  have bA : Below w1.heap.size w1 (w1.alloc (.cells #[.pointer none, .slice none 0 0] 45)) := bl_al (Below.refl _ _) _
  exact {
    box := (bA.block _ (by omega)).trans ((hb.block _ (by simp)).trans (heap_alloc_new w _))
    e1 := (bA.cell (p := ⟨b1, 0, none⟩) (by show b1 < _; omega)).trans ((b0.cell (p := ⟨b1, 0, none⟩) l1).trans h1)
    e2 := (bA.cell (p := ⟨b2, 0, none⟩) (by show b2 < _; omega)).trans ((b0.cell (p := ⟨b2, 0, none⟩) l2).trans h2)
    bld := Lib.IsBuilderF.of (Lib.fresh_isBuilder 45 5 w1)
    tab := tab_keep _ _ ht (bl_al b0 _)
    bel := bl_al b0 _
    l0 := by omega
    l1 := by omega
    l2 := by omega
    hw := by omega
    hB := by simp }
theorem St.dr {w W : World} {bx bb b1 b2 : Nat} {acc : List UInt8} (h : St w bx bb b1 b2 acc W) : St w bx bb b1 b2 acc W.drew := h.keep (Below.refl _ _).drew
theorem St.c01 {w W : World} {bx bb b1 b2 : Nat} {acc : List UInt8} (h : St w bx bb b1 b2 acc W) : W.cell? ⟨bx, 0, none⟩ = some (.int .i64 1) ∧ W.cell? ⟨bx, 1, none⟩ = some (.int .i64 1) := ⟨h.cells.1, h.cells.2.1⟩
def tx0 : List UInt8 := [75, 78, 65, 80, 83, 65, 67, 75, 32, 49]
def tx1 : List UInt8 := [75, 78, 65, 80, 83, 65, 67, 75, 32, 49, 32, 53]
def tx2 : List UInt8 := [75, 78, 65, 80, 83, 65, 67, 75, 32, 49, 32, 53, 10]
def tx3 : List UInt8 := [75, 78, 65, 80, 83, 65, 67, 75, 32, 49, 32, 53, 10, 51, 32, 52, 10]
attribute [irreducible] tx0 tx1 tx2 tx3
set_option maxHeartbeats 2000000 in
theorem write_one (b1 b2 : Nat) (w : World) (ht : Tab w) (h1 : w.cell? ⟨b1, 0, none⟩ = some (.int .i64 3)) (h2 : w.cell? ⟨b2, 0, none⟩ = some (.int .i64 4)) (l1 : b1 < w.heap.size) (l2 : b2 < w.heap.size) :
    Calls Tryd.prog 12 #[.agg #[.int .i64 1, .int .i64 1, .int .i64 5, .slice (some ⟨b1, 0, none⟩) 1 1, .slice (some ⟨b2, 0, none⟩) 1 1, .slice none 0 0]] w
      fun e w' => e = .returned (.tuple #[.string ⟨tx3.toArray⟩, .int .i64 0]) ∧ Below w.heap.size w w' := by
  have N1 := Lib.hid (show ∀ W, Calls Tryd.prog 18 #[.int .i64 1] W fun e w' => e = .returned (.string ⟨#[75, 78, 65, 80, 83, 65, 67, 75]⟩) ∧ W = w' from fun W => name_any 1 W)
  have C1 := Lib.hid (fun o => check_one b1 b2 (w.alloc o) (((Below.refl _ w).alloc (Nat.le_refl _) _).cell (p := ⟨b1, 0, none⟩) l1 |>.trans h1) (((Below.refl _ w).alloc (Nat.le_refl _) _).cell (p := ⟨b2, 0, none⟩) l2 |>.trans h2) (by simp; omega) (by simp; omega))
  have D1 := Lib.hid (show ∀ W, Tab W → Calls Tryd.prog 25 #[.int .i64 1] W fun e w' => e = .returned (.string ⟨#[49]⟩) ∧ Below W.heap.size W w' from fun W h => (write_any 1 W (by decide) (by decide) h).mono fun e w' ⟨h, b⟩ => ⟨h.trans (by rw [sIt_eq]; kernel_rfl), b⟩)
  have D5 := Lib.hid (show ∀ W, Tab W → Calls Tryd.prog 25 #[.int .i64 5] W fun e w' => e = .returned (.string ⟨#[53]⟩) ∧ Below W.heap.size W w' from fun W h => (write_any 5 W (by decide) (by decide) h).mono fun e w' ⟨h, b⟩ => ⟨h.trans (by rw [sIt_eq]; kernel_rfl), b⟩)
  have HT := Lib.hid ht
  have H1 := Lib.hid h1
  have H2 := Lib.hid h2
  clear h1 h2 ht
  go_enter Tryd.func12, Tryd.ntmps12
  go_wp2_with fail
  refine (C1.out _).mono ?_; rintro e w1 ⟨rfl, hb1⟩
  have S0 := Lib.hid (st_start HT.out H1.out H2.out l1 l2 hb1)
  clear hb1 C1 HT H1 H2
  go_wp2
  have S1 := Lib.hid S0.out.dr
  clear S0
  have K1 := Lib.hid S1.out.c01
  generalize hbb : w1.heap.size = bb at S1 K1 ⊢
  generalize hW2 : w1.alloc (.cells #[.pointer none, .slice none 0 0] 45) = W2 at S1 K1 ⊢
  clear hW2 hbb
  go_region_held3 (fun w' => w'.cell? ⟨w.heap.size, 0, none⟩ = some (.int .i64 1) ∧ w'.cell? ⟨w.heap.size, 1, none⟩ = some (.int .i64 1)) (first | exact K1.out | exact K2.out | exact K3.out)
    (first
      | (go_at_call 18; refine (N1.out _).mono ?_; rintro e w2 ⟨rfl, rfl⟩)
      | (go_at_call 25; refine (D1.out _ S1.out.tab).mono ?_; rintro e w3 ⟨rfl, hb⟩; have S2 := Lib.hid (S1.out.keep hb); have K2 := Lib.hid S2.out.c01; clear hb)
      | (go_at_call 24; refine (S2.out.puts _ tx0 (by unfold tx0; kernel_rfl) (by decide)).mono ?_; rintro e w4 ⟨rfl, S3u⟩; have S3 := Lib.hid S3u; clear S3u; have K3 := Lib.hid S3.out.c01))
  clear S1 S2 K1 K2 K3 D1 N1 l1 l2
  obtain ⟨c0, c1, c2, c3, c4, c5⟩ := S3.out.cells
  go_wp2_with fail
  refine (D5.out _ S3.out.tab).mono ?_; rintro e w5 ⟨rfl, hb⟩
  have S4 := Lib.hid (S3.out.keep hb)
  clear hb S3 c0 c1 c2 c3 c4 c5 D5
  obtain ⟨c0, c1, c2, c3, c4, c5⟩ := S4.out.cells
  go_wp2_with fail
  refine (S4.out.puts _ tx1 (by unfold tx0 tx1; kernel_rfl) (by unfold tx0; decide)).mono ?_; rintro e w6 ⟨rfl, S5u⟩
  have S5 := Lib.hid S5u
  clear S5u S4 c0 c1 c2 c3 c4 c5
  go_wp2_with fail
  refine (S5.out.puts _ tx2 (by unfold tx1 tx2; kernel_rfl) (by unfold tx1; decide)).mono ?_; rintro e w7 ⟨rfl, S6u⟩
  have S6 := Lib.hid S6u
  clear S6u S5
  obtain ⟨c0, c1, c2, c3, c4, c5⟩ := S6.out.cells
  go_wp2
  clear c0 c1 c2 c3 c4 c5
  go_loopw [40] (fun i wr => ∃ k : Nat, k ≤ 1 ∧ i = .int .i64 k ∧ Hid (St w w.heap.size bb b1 b2 (if k = 0 then tx2 else tx3) wr)) (fun i _ => 1 - (intOf i).toNat)
  case atStart => exact ⟨0, by omega, rfl, S6⟩
  case round =>
    clear S6
    obtain ⟨k, hk, rfl, R⟩ := hrel
    obtain ⟨c0, c1, c2, c3, c4, c5⟩ := R.out.cells
    by_cases hlt : k < 1
    · obtain rfl : k = 0 := by omega
      have R0 : Hid (St w w.heap.size bb b1 b2 tx2 wr) := R
      clear R
      have d1 := R0.out.e1
      have d2 := R0.out.e2
      have L2 := Lib.hid (line_two wr.heap.size 2 (wr.alloc (.cells #[.int .i64 3, .int .i64 4] 3)) (R0.out.keep (bl_al (Below.refl _ _) _)).tab (by simp) (cell_of_row _ _ 0 _ _ _ (heap_alloc_new wr _)) (cell_of_row _ _ 1 _ _ _ (heap_alloc_new wr _)))
      go_wp2_with fail
      refine L2.out.mono ?_; rintro e w8 ⟨rfl, hb⟩
      have R1 := Lib.hid ((R0.out.keep (bl_al (Below.refl _ _) _)).keep hb)
      clear hb R0 L2 c0 c1 c2 c3 c4 c5 d1 d2
      go_wp2_with fail
      refine (R1.out.puts _ tx3 (by unfold tx2 tx3; kernel_rfl) (by unfold tx2; decide)).mono ?_; rintro e w9 ⟨rfl, R2u⟩
      have R2 := Lib.hid R2u
      clear R2u R1
      go_wp2
      go_roundw
      case rel => exact ⟨1, by omega, by go_num, R2⟩
      case measure => simp [intOf]
    · have R0 : Hid (St w w.heap.size bb b1 b2 tx3 wr) := by
        rw [if_neg (by omega)] at R
        exact R
      clear R
      go_wp2
      clear c0 c1 c2 c3 c4 c5
      go_loopw [58] (fun i wr => i = .int .i64 0 ∧ Hid (St w w.heap.size bb b1 b2 tx3 wr)) (fun _ _ => 0)
      case atStart => exact ⟨rfl, R0⟩
      case round =>
        clear R0
        obtain ⟨rfl, R⟩ := hrel
        go_wp2_with fail
        refine (Tryd.Builder_String_any_k bb bb tx3 _ R.out.bld (Nat.le_of_lt R.out.hB)).mono ?_; rintro e w9 ⟨rfl, _, hb, _⟩
        have hf : Below w.heap.size w w9 := R.out.bel.trans (hb.mono R.out.hw)
        clear hb
        go_wp2
        go_ret2
        exact ⟨rfl, hf⟩
end Go.Proofs.YtknpjeeclagmjaaDoor

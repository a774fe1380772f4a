/-
  cert: certs() is true; a list and a certificate's box.
-/
import Derived.Test.YtjajpmbmkagcaaaDoorTm1
namespace Go.Proofs.YtjajpmbmkagcaaaDoor
open Go.RowKit
set_option linter.unusedVariables false
theorem frm0 : Frm 5 [1, 0] ⟨#[98, 112, 108]⟩ := ⟨by decide, by decide, by decide, by decide, fun x hx => (by simp at hx; omega), by decide, by decide, by decide⟩
theorem txt0 : (⟨(txt 5 [1, 0] ⟨#[98, 112, 108]⟩).toArray⟩ : ByteArray) = ⟨#[67, 69, 82, 84, 32, 53, 32, 50, 10, 49, 32, 48, 10, 98, 112, 108, 10]⟩ := by kernel_rfl
theorem crE0 : crE ⟨#[67, 69, 82, 84, 32, 120]⟩ = (5, 4) := by kernel_rfl
set_option maxHeartbeats 4000000 in
theorem certs_any (w : World) (ht : Tab w) : Calls Tryd.prog 11 #[] w fun e w' => e = .returned (.bool true) ∧ Below w.heap.size w w' := by
  have al := heap_alloc_new w (.cells #[.int .i64 1, .int .i64 0] 3)
  have B0 := Lib.hid (bl_al (Below.refl _ w) (.cells #[.int .i64 1, .int .i64 0] 3))
  have LS := Lib.hid (show Ls (.slice (some ⟨w.heap.size, 0, none⟩) 2 2) [1, 0] (w.alloc (.cells #[.int .i64 1, .int .i64 0] 3)) from
    .inr ⟨w.heap.size, 0, 2, rfl, by decide, by simp, fun j hj => by
      rw [Nat.zero_add]
      rcases j with _ | _ | j
      · exact (cell_of_row _ _ 0 _ 3 _ al).trans rfl
      · exact (cell_of_row _ _ 1 _ 3 _ al).trans rfl
      · exact absurd hj (by simp)⟩)
  have WR := Lib.hid (write_yes (T := ⟨#[98, 112, 108]⟩) LS.out frm0 (tab_keep ht B0.out))
  rw [txt0] at WR
  have RD := Lib.hid (fun W => read_any ⟨#[67, 69, 82, 84, 32, 120]⟩ (by decide) W)
  clear ht al LS
  go_enter Tryd.func11, Tryd.ntmps11
  go_wp2_with fail
  refine WR.out.mono ?_; rintro e w2 ⟨rfl, hb2⟩
  have B2 := Lib.hid (bl_tr B0.out hb2)
  clear hb2 WR B0
  go_wp2_with fail
  refine (RD.out _).mono ?_; rintro e w3 ⟨V, v, T, L, rfl, hb3, ho, -, h0⟩
  have B3 := Lib.hid (bl_tr B2.out hb3)
  obtain ⟨rfl, rfl, rfl, rfl⟩ := h0 (by rw [crE0]; exact (show (4 : Int) ≠ 0 by decide))
  rw [crE0]
  clear hb3 ho h0 B2 RD
  go_wp2
  go_ret
  exact ⟨rfl, bl_tr B3.out (bl_al (Below.refl _ _) _)⟩
end Go.Proofs.YtjajpmbmkagcaaaDoor

/-
  orders() of kurganlaw09 is true.
-/
import Derived.Test.YteceibafagekiaaNext
import Derived.Test.YteceibafagekiaaRank
import Derived.Test.YteceibafagekiaaRat2
namespace Go.Proofs.Yteceibafagekiaa
open Go.RowKit
set_option linter.unusedVariables false

theorem o_rat : insOut (crat [1, 6, 0] [1, 2, 0]) 0 2 1 (upTo 3) = [2, 1, 0] := by decide +kernel
theorem o_isP : isP [0, 2, 1] := by unfold isP; decide +kernel
theorem o_isP2 : isP [2, 1, 0] := by unfold isP; decide +kernel
theorem o_dn : dn [0, 2, 1] 2 = 1 := by decide +kernel
theorem o_next : nextB [0, 2, 1] 1 = [1, 0, 2] := by decide +kernel
theorem o_rank : rankR [2, 1, 0] = (5, 0) := by
  rw [rank_ok o_isP2 (by decide)]
  have : rk [2, 1, 0] 3 3 = 5 := by decide +kernel
  exact congrArg (fun x => (x, (0 : Int))) this
theorem ints_blk {W : World} {g : Nat} (l : List Int) (h : W.heap[g]? = some (.cells (l.map (Value.int .i64)).toArray 3 (0, 0))) : Ints W (some ⟨g, 0, none⟩) l := fun j hj =>
  ⟨g, 0, rfl, lt_hp h, by
    rw [Nat.zero_add, cell_of_row _ _ _ _ _ _ h, List.getElem?_toArray, List.getElem?_map, List.getElem?_eq_getElem hj, nth_at l j hj]; rfl⟩
theorem small3 (l : List Int) (h : ∀ x ∈ l, 0 ≤ x ∧ x ≤ 1000) : Small l := fun j hj => by rw [nth_at l j hj]; exact h _ (List.getElem_mem hj)
set_option maxRecDepth 100000 in
set_option maxHeartbeats 2000000 in
theorem orders_any (w : World) : Calls Try.prog 11 #[] w fun e w' => e = .returned (.bool true) ∧ Below w.heap.size w w' := by
  have HR := Lib.hid (ratio_small [1, 6, 0] [1, 2, 0] rfl (by decide) (small3 _ (by decide)) (small3 _ (by decide)) (some ⟨w.heap.size + 1, 0, none⟩) (some ⟨w.heap.size, 0, none⟩) 3 3 ((w.alloc (.cells #[.int .i64 1, .int .i64 6, .int .i64 0] 3)).alloc (.cells #[.int .i64 1, .int .i64 2, .int .i64 0] 3)) (ints_blk [1, 2, 0] (heap_alloc2_new w _ _)) (ints_blk [1, 6, 0] (heap_alloc2_old w _ _)))
  have HB0 := Lib.hid (bl_al (bl_al (Below.refl w.heap.size w) (.cells #[.int .i64 1, .int .i64 6, .int .i64 0] 3)) (.cells #[.int .i64 1, .int .i64 2, .int .i64 0] 3))
  have HN := Lib.hid (fun (W : World) => next_ok [0, 2, 1] o_isP (by decide) (some ⟨W.heap.size, 0, none⟩) 3 (by decide) (by decide) (W.alloc (.cells #[.int .i64 0, .int .i64 2, .int .i64 1] 3)) (ints_blk [0, 2, 1] (heap_alloc_new W _)) (by rw [show ([0, 2, 1] : List Int).length - 1 = 2 from rfl, o_dn]; decide))
  have HK := Lib.hid (fun (W : World) => rank_any [2, 1, 0] (by decide) (some ⟨W.heap.size, 0, none⟩) 3 (by decide) (by decide) (W.alloc (.cells #[.int .i64 2, .int .i64 1, .int .i64 0] 3)) (ints_blk [2, 1, 0] (heap_alloc_new W _)))
  rw [o_rank] at HK
  have HS := Lib.hid (fun (W : World) (x : List Int) (hx : x.length = 3) (y : List Int) (hy : y.length = 3) (hxy : x = y) (g g2 c : Nat) (h1 : Ints W (some ⟨g, 0, none⟩) x) (h2 : Ints W (some ⟨g2, 0, none⟩) y) => (show Calls Try.prog 12 #[.slice (some ⟨g, 0, none⟩) 3 c, .slice (some ⟨g2, 0, none⟩) 3 3] W fun e w' => e = .returned (.bool true) ∧ Below W.heap.size W w' from by
    have := same_any x y (by omega) (by omega) (some ⟨g, 0, none⟩) (some ⟨g2, 0, none⟩) c 3 W h1 h2
    rw [hx, hy] at this
    simpa [hxy] using this))
  go_enter Try.func11, Try.ntmps11
  go_wp2_with fail
  refine HR.out.mono ?_; rintro e w1 ⟨g1, rfl, hb1, hi1, hl1⟩
  have hi1' : Ints w1 (some ⟨g1, 0, none⟩) [2, 1, 0] := by rw [← o_rat]; exact hi1
  have HI1 := Lib.hid hi1'
  have B1 := Lib.hid (bl_tr HB0.out hb1)
  clear hb1 hi1 hi1' hl1 HR HB0
  go_wp2_with fail
  refine (HN.out w1).mono ?_; rintro e w2 ⟨g2, c2, rfl, hb2, hi2, hl2⟩
  have hi2' : Ints w2 (some ⟨g2, 0, none⟩) [1, 0, 2] := by rw [← o_next]; rw [show ([0, 2, 1] : List Int).length - 1 = 2 from rfl, o_dn] at hi2; exact hi2
  have HI2 := Lib.hid hi2'
  have D2 := Lib.hid (((Below.refl w1.heap.size w1).alloc (Nat.le_refl _) (.cells #[.int .i64 0, .int .i64 2, .int .i64 1] 3)).trans (hb2.mono (by simp)))
  clear hb2 hi2 hi2' hl2 HN
  go_wp2_with fail
  refine (HK.out w2).mono ?_; rintro e w3 ⟨rfl, hb3⟩
  have D3 := Lib.hid (((Below.refl w2.heap.size w2).alloc (Nat.le_refl _) (.cells #[.int .i64 2, .int .i64 1, .int .i64 0] 3)).trans (hb3.mono (by simp)))
  clear hb3 HK
  go_wp2_with fail
  have A4 := Lib.hid ((Below.refl w3.heap.size w3).alloc (Nat.le_refl _) (.cells #[.int .i64 2, .int .i64 1, .int .i64 0] 3))
  refine (HS.out _ [2, 1, 0] rfl [2, 1, 0] rfl rfl g1 w3.heap.size 3 (((HI1.out.keep D2.out).keep D3.out).keep A4.out) (ints_blk [2, 1, 0] (heap_alloc_new w3 _))).mono ?_; rintro e w4 ⟨rfl, hb4⟩
  have D4 := Lib.hid (A4.out.trans (hb4.mono (by simp)))
  clear hb4 A4
  go_wp2_with fail
  have A5 := Lib.hid ((Below.refl w4.heap.size w4).alloc (Nat.le_refl _) (.cells #[.int .i64 1, .int .i64 0, .int .i64 2] 3))
  refine (HS.out _ [1, 0, 2] rfl [1, 0, 2] rfl rfl g2 w4.heap.size c2 (((HI2.out.keep D3.out).keep D4.out).keep A5.out) (ints_blk [1, 0, 2] (heap_alloc_new w4 _))).mono ?_; rintro e w5 ⟨rfl, hb5⟩
  have D5 := Lib.hid (A5.out.trans (hb5.mono (by simp)))
  clear hb5 A5
  go_wp2
  go_ret
  exact ⟨rfl, bl_tr (bl_tr (bl_tr (bl_tr B1.out D2.out) D3.out) D4.out) D5.out⟩
end Go.Proofs.Yteceibafagekiaa

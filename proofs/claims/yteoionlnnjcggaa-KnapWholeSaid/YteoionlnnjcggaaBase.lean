/-
  What inst.Name answers of every number; what inst.Check answers of the one problem that the laws write down. No condition.
-/
import Derived.Test.YteoionlnnjcggaaProg
import Derived.WalkKit
import Derived.ProofKit
import Derived.OpenShut
import Derived.Below
import Derived.Lib.Hide
import Derived.LoopTactic
namespace Go.Proofs.Yteoionlnnjcggaa
open Go.RowKit
set_option linter.unusedVariables false

def nameOf (n : Int) : List UInt8 := if n = 1 then [75, 78, 65, 80, 83, 65, 67, 75] else if n = 2 then [65, 83, 83, 73, 71, 78, 77, 69, 78, 84] else if n = 3 then [84, 83, 80] else []
theorem name_any (n : Int) (w : World) : Calls Try.prog 35 #[.int .i64 n] w fun e w' => e = .returned (.string ⟨(nameOf n).toArray⟩) ∧ w = w' := by
  unfold nameOf
  by_cases h1 : n = 1
  · subst h1
    go_enter Try.func35, Try.ntmps35
    go_wp2
    go_ret
    exact ⟨rfl, rfl⟩
  · by_cases h2 : n = 2
    · subst h2
      go_enter Try.func35, Try.ntmps35
      go_wp2
      go_ret
      exact ⟨rfl, rfl⟩
    · by_cases h3 : n = 3
      · subst h3
        go_enter Try.func35, Try.ntmps35
        go_wp2
        go_ret
        exact ⟨rfl, rfl⟩
      · rw [if_neg h1, if_neg h2, if_neg h3]
        go_enter Try.func35, Try.ntmps35
        go_wp2
        go_ret
        exact ⟨rfl, rfl⟩
theorem entry_ok (n : Int) (h0 : 0 ≤ n) (h1 : n ≤ 2147483647) (w : World) : Calls Try.prog 46 #[.int .i64 n] w fun e w' => e = .returned (.int .i64 0) ∧ w = w' := by
  go_enter Try.func46, Try.ntmps46
  go_wp2
  go_ret
  exact ⟨rfl, rfl⟩
theorem bl_al {a w : World} (h : Below a.heap.size a w) (o : Obj) : Below a.heap.size a (w.alloc o) := h.alloc h.size o
theorem bl_tr {a w w1 : World} (h : Below a.heap.size a w) (k : Below w.heap.size w w1) : Below a.heap.size a w1 := h.trans (k.mono h.size)
theorem inform_one (b1 b2 : Nat) (w : World) :
    Calls Try.prog 36 #[.agg #[.int .i64 1, .int .i64 1, .int .i64 5, .slice (some ⟨b1, 0, none⟩) 1 1, .slice (some ⟨b2, 0, none⟩) 1 1, .slice none 0 0]] w fun e w' => e = .returned (.bool true) ∧ Below w.heap.size w w' := by
  go_enter Try.func36, Try.ntmps36
  go_wp2
  go_ret
  exact ⟨rfl, (Below.refl _ _).alloc (Nat.le_refl _) _⟩
set_option maxHeartbeats 400000 in
theorem items_one (b1 b2 : Nat) (w : World) (h1 : w.cell? ⟨b1, 0, none⟩ = some (.int .i64 3)) (h2 : w.cell? ⟨b2, 0, none⟩ = some (.int .i64 4)) (l1 : b1 < w.heap.size) (l2 : b2 < w.heap.size) :
    Calls Try.prog 37 #[.agg #[.int .i64 1, .int .i64 1, .int .i64 5, .slice (some ⟨b1, 0, none⟩) 1 1, .slice (some ⟨b2, 0, none⟩) 1 1, .slice none 0 0]] w fun e w' => e = .returned (.int .i64 0) ∧ Below w.heap.size w w' := by
  have E5 := Lib.hid (fun W => entry_ok 5 (by decide) (by decide) W)
  have E3 := Lib.hid (fun W => entry_ok 3 (by decide) (by decide) W)
  have E4 := Lib.hid (fun W => entry_ok 4 (by decide) (by decide) W)
  go_enter Try.func37, Try.ntmps37
  go_wp2_with fail
  refine (E5.out _).mono ?_; rintro e w1 ⟨rfl, rfl⟩
  go_wp2
  go_loop [17] (fun i => ∃ k : Nat, k ≤ 1 ∧ i = .int .i64 k) (fun i => 1 - (intOf i).toNat)
  case atStart => exact ⟨0, by omega, rfl⟩
  case round =>
    obtain ⟨k, hk, rfl⟩ := hrel
    by_cases hlt : k < 1
    · obtain rfl : k = 0 := by omega
      go_wp2_with fail
      refine (E3.out _).mono ?_; rintro e w1 ⟨rfl, rfl⟩
      go_wp2_with fail
      refine (E4.out _).mono ?_; rintro e w1 ⟨rfl, rfl⟩
      go_wp2
      go_round
      case rel => exact ⟨1, by omega, by go_num⟩
      case measure => simp [intOf]
    · go_wp2
      go_ret
      exact ⟨rfl, (Below.refl _ _).alloc (Nat.le_refl _) _⟩
theorem lt_cell {w : World} {b j : Nat} {v : Value} (h : w.cell? ⟨b, j, none⟩ = some v) : b < w.heap.size := by
  rcases Nat.lt_or_ge b w.heap.size with hlt | hge
  · exact hlt
  · unfold World.cell? at h
    rw [Array.getElem?_eq_none hge] at h
    cases h
theorem check_one (b1 b2 : Nat) (w : World) (h1 : w.cell? ⟨b1, 0, none⟩ = some (.int .i64 3)) (h2 : w.cell? ⟨b2, 0, none⟩ = some (.int .i64 4)) (l1 : b1 < w.heap.size) (l2 : b2 < w.heap.size) :
    Calls Try.prog 28 #[.agg #[.int .i64 1, .int .i64 1, .int .i64 5, .slice (some ⟨b1, 0, none⟩) 1 1, .slice (some ⟨b2, 0, none⟩) 1 1, .slice none 0 0]] w fun e w' => e = .returned (.int .i64 0) ∧ Below w.heap.size w w' := by
  have N1 := Lib.hid (show ∀ W, Calls Try.prog 35 #[.int .i64 1] W fun e w' => e = .returned (.string ⟨#[75, 78, 65, 80, 83, 65, 67, 75]⟩) ∧ W = w' from fun W => name_any 1 W)
  have F1 := Lib.hid (fun W => inform_one b1 b2 W)
  go_enter Try.func28, Try.ntmps28
  go_wp2_with fail
  refine (N1.out _).mono ?_; rintro e w1 ⟨rfl, rfl⟩
  go_wp2_with fail
  refine (F1.out _).mono ?_; rintro e w2 ⟨rfl, hb2⟩
  have g1 : w2.cell? ⟨b1, 0, none⟩ = some (.int .i64 3) := by rw [hb2.cell (p := ⟨b1, 0, none⟩) (by simp; omega)]; exact (((Below.refl _ w).alloc (Nat.le_refl _) _).cell (p := ⟨b1, 0, none⟩) l1).trans h1
  have g2 : w2.cell? ⟨b2, 0, none⟩ = some (.int .i64 4) := by rw [hb2.cell (p := ⟨b2, 0, none⟩) (by simp; omega)]; exact (((Below.refl _ w).alloc (Nat.le_refl _) _).cell (p := ⟨b2, 0, none⟩) l2).trans h2
  have I1 := Lib.hid (items_one b1 b2 w2 g1 g2 (lt_cell g1) (lt_cell g2))
  have hsz := hb2.size
  have bl := bl_tr (bl_al (Below.refl w.heap.size w) (.cells #[.int .i64 1, .int .i64 1, .int .i64 5, .slice (some ⟨b1, 0, none⟩) 1 1, .slice (some ⟨b2, 0, none⟩) 1 1, .slice none 0 0] 25)) hb2
  obtain ⟨hc, hf⟩ := (⟨fun b o h => hb2.cell (p := ⟨b, o, none⟩) h, fun b o h => hb2.frozen (p := ⟨b, o, none⟩) h⟩ : (∀ b o, b < (w.alloc (.cells #[.int .i64 1, .int .i64 1, .int .i64 5, .slice (some ⟨b1, 0, none⟩) 1 1, .slice (some ⟨b2, 0, none⟩) 1 1, .slice none 0 0] 25)).heap.size → w2.cell? ⟨b, o, none⟩ = (w.alloc (.cells #[.int .i64 1, .int .i64 1, .int .i64 5, .slice (some ⟨b1, 0, none⟩) 1 1, .slice (some ⟨b2, 0, none⟩) 1 1, .slice none 0 0] 25)).cell? ⟨b, o, none⟩) ∧ (∀ b o, b < (w.alloc (.cells #[.int .i64 1, .int .i64 1, .int .i64 5, .slice (some ⟨b1, 0, none⟩) 1 1, .slice (some ⟨b2, 0, none⟩) 1 1, .slice none 0 0] 25)).heap.size → w2.frozen? ⟨b, o, none⟩ = (w.alloc (.cells #[.int .i64 1, .int .i64 1, .int .i64 5, .slice (some ⟨b1, 0, none⟩) 1 1, .slice (some ⟨b2, 0, none⟩) 1 1, .slice none 0 0] 25)).frozen? ⟨b, o, none⟩))
  clear hb2 g1 g2
  go_wp2_with fail
  refine I1.out.mono ?_; rintro e w3 ⟨rfl, hb3⟩
  go_wp2
  go_ret
  exact ⟨rfl, bl_tr bl hb3⟩
end Go.Proofs.Yteoionlnnjcggaa

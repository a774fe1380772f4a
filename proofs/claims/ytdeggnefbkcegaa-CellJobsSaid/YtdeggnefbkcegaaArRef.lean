/-
  What the reference's numbers in parts (Of, Plus, Minus, Times, Less, Num, Add, Mul, Neg, Int, Cmp) answer, function by function, told by the natural number whose parts they hold.
-/
import Derived.Test.YtdeggnefbkcegaaArBase
import Derived.Test.YtdeggnefbkcegaaArBig
import Derived.Deep.OwnRows
import Derived.Laws.Rows
import Derived.IntWalk
namespace Go.Proofs.Ytdeggnefbkcegaa.ar
open Go.RowKit
set_option linter.unusedVariables false


def bgA (x : Nat) : Array Value := #[.int .i64 (dg x 0), .int .i64 (dg x 1), .int .i64 (dg x 2), .int .i64 (dg x 3), .int .i64 (dg x 4), .int .i64 (dg x 5), .int .i64 (dg x 6), .int .i64 (dg x 7), .int .i64 (dg x 8)]
def pc (z k j : Nat) : Value := .int .i64 (if j < k then dg z j else 0)
def prt (z k : Nat) : Array Value := #[pc z k 0, pc z k 1, pc z k 2, pc z k 3, pc z k 4, pc z k 5, pc z k 6, pc z k 7, pc z k 8]
theorem bgA_at (x k : Nat) (h : k < 9) : (bgA x)[k]? = some (.int .i64 (dg x k)) := by
  unfold bgA
  rcases k with _ | _ | _ | _ | _ | _ | _ | _ | _ | k
  all_goals first | rfl | omega
theorem prt_at (z k : Nat) (h : k < 9) : (prt z k)[k]? = some (.int .i64 0) := by
  unfold prt pc
  rcases k with _ | _ | _ | _ | _ | _ | _ | _ | _ | k
  all_goals first | (simp; done) | omega
theorem prt_zero (z : Nat) : prt z 0 = #[.int .i64 0, .int .i64 0, .int .i64 0, .int .i64 0, .int .i64 0, .int .i64 0, .int .i64 0, .int .i64 0, .int .i64 0] := by simp [prt, pc]
theorem prt_nine (z : Nat) : prt z 9 = bgA z := by simp [prt, pc, bgA]
theorem prt_set (z k : Nat) (h : k < 9) : (prt z k).setIfInBounds k (.int .i64 (dg z k)) = prt z (k + 1) := by
  rcases k with _ | _ | _ | _ | _ | _ | _ | _ | _ | k
  all_goals first | (simp [prt, pc]; done) | omega
theorem heap4 (w : World) (o1 o2 o3 o4 : Obj) : ((((w.alloc o1).alloc o2).alloc o3).alloc o4).heap[w.heap.size]? = some o1 ∧ ((((w.alloc o1).alloc o2).alloc o3).alloc o4).heap[w.heap.size + 1]? = some o2 ∧
    ((((w.alloc o1).alloc o2).alloc o3).alloc o4).heap[w.heap.size + 1 + 1]? = some o3 ∧ ((((w.alloc o1).alloc o2).alloc o3).alloc o4).heap[w.heap.size + 1 + 1 + 1]? = some o4 := by
  refine ⟨?_, ?_, ?_, ?_⟩
  all_goals
    show ((((w.heap.push o1).push o2).push o3).push o4)[_]? = _
    simp only [Array.getElem?_push, Array.size_push]
    repeat (first | rw [if_pos rfl] | rw [if_neg (by omega)])
    try simp
/-- two numbers read, a third one written part by part -/
structure BL (w wr : World) (x y z k : Nat) : Prop where
  ba : wr.heap[w.heap.size]? = some (.cells (bgA x) 76 (0, 0))
  bb : wr.heap[w.heap.size + 1]? = some (.cells (bgA y) 76 (0, 0))
  br : wr.heap[w.heap.size + 1 + 1]? = some (.cells #[.int .i64 0, .int .i64 0, .int .i64 0, .int .i64 0, .int .i64 0, .int .i64 0, .int .i64 0, .int .i64 0, .int .i64 0] 76 (0, 0))
  bc : wr.heap[w.heap.size + 1 + 1 + 1]? = some (.cells (prt z k) 76 (0, 0))
  bl : Below w.heap.size w wr
theorem BL.ca {w wr : World} {x y z k : Nat} (h : BL w wr x y z k) (j : Nat) (hj : j < 9) : wr.cell? ⟨w.heap.size, j, none⟩ = some (.int .i64 (dg x j)) := by rw [cell_of_row _ _ _ _ _ _ h.ba, bgA_at x j hj]
theorem BL.cb {w wr : World} {x y z k : Nat} (h : BL w wr x y z k) (j : Nat) (hj : j < 9) : wr.cell? ⟨w.heap.size + 1, j, none⟩ = some (.int .i64 (dg y j)) := by rw [cell_of_row _ _ _ _ _ _ h.bb, bgA_at y j hj]
theorem BL.cc {w wr : World} {x y z k : Nat} (h : BL w wr x y z k) (hk : k < 9) : wr.cell? ⟨w.heap.size + 1 + 1 + 1, k, none⟩ = some (.int .i64 0) := by rw [cell_of_row _ _ _ _ _ _ h.bc, prt_at z k hk]
theorem BL.fc {w wr : World} {x y z k : Nat} (h : BL w wr x y z k) (j : Nat) : wr.frozen? ⟨w.heap.size + 1 + 1 + 1, j, none⟩ = false := frozen_of_row _ _ _ _ _ h.bc
theorem BL.start (w : World) (x y z : Nat) : BL w ((((w.alloc (.cells #[.int .i64 (dg x 0), .int .i64 (dg x 1), .int .i64 (dg x 2), .int .i64 (dg x 3), .int .i64 (dg x 4), .int .i64 (dg x 5), .int .i64 (dg x 6), .int .i64 (dg x 7), .int .i64 (dg x 8)] 76)).alloc (.cells #[.int .i64 (dg y 0), .int .i64 (dg y 1), .int .i64 (dg y 2), .int .i64 (dg y 3), .int .i64 (dg y 4), .int .i64 (dg y 5), .int .i64 (dg y 6), .int .i64 (dg y 7), .int .i64 (dg y 8)] 76)).alloc (.cells #[.int .i64 0, .int .i64 0, .int .i64 0, .int .i64 0, .int .i64 0, .int .i64 0, .int .i64 0, .int .i64 0, .int .i64 0] 76)).alloc (.cells #[.int .i64 0, .int .i64 0, .int .i64 0, .int .i64 0, .int .i64 0, .int .i64 0, .int .i64 0, .int .i64 0, .int .i64 0] 76)) x y z 0 := by
  refine ⟨?_, ?_, ?_, ?_, bl_al (bl_al (bl_al (bl_al (Below.refl _ _) _) _) _) _⟩
  · exact (heap4 w _ _ _ _).1
  · exact (heap4 w _ _ _ _).2.1
  · exact (heap4 w _ _ _ _).2.2.1
  · rw [prt_zero]; exact (heap4 w _ _ _ _).2.2.2
theorem BL.step {w wr : World} {x y z k : Nat} (h : BL w wr x y z k) (hk : k < 9) : BL w (wr.setCell ⟨w.heap.size + 1 + 1 + 1, k, none⟩ (.int .i64 (dg z k))) x y z (k + 1) := by
  refine ⟨?_, ?_, ?_, ?_, h.bl.setCell (by show _ ≤ _ + 1 + 1 + 1; omega) _⟩
  · rw [heap_setCell_other _ _ _ _ (by show _ ≠ _ + 1 + 1 + 1; omega)]; exact h.ba
  · rw [heap_setCell_other _ _ _ _ (by show _ ≠ _ + 1 + 1 + 1; omega)]; exact h.bb
  · rw [heap_setCell_other _ _ _ _ (by show _ ≠ _ + 1 + 1 + 1; omega)]; exact h.br
  · rw [heap_setCell_same _ _ _ _ _ _ h.bc, prt_set z k hk]
theorem BL.out {w wr : World} {x y z : Nat} (h : BL w wr x y z 9) :
    wr.cell? ⟨w.heap.size + 1 + 1 + 1, 0, none⟩ = some (.int .i64 (dg z 0)) ∧ wr.cell? ⟨w.heap.size + 1 + 1 + 1, 1, none⟩ = some (.int .i64 (dg z 1)) ∧ wr.cell? ⟨w.heap.size + 1 + 1 + 1, 2, none⟩ = some (.int .i64 (dg z 2)) ∧ wr.cell? ⟨w.heap.size + 1 + 1 + 1, 3, none⟩ = some (.int .i64 (dg z 3)) ∧ wr.cell? ⟨w.heap.size + 1 + 1 + 1, 4, none⟩ = some (.int .i64 (dg z 4)) ∧ wr.cell? ⟨w.heap.size + 1 + 1 + 1, 5, none⟩ = some (.int .i64 (dg z 5)) ∧ wr.cell? ⟨w.heap.size + 1 + 1 + 1, 6, none⟩ = some (.int .i64 (dg z 6)) ∧ wr.cell? ⟨w.heap.size + 1 + 1 + 1, 7, none⟩ = some (.int .i64 (dg z 7)) ∧ wr.cell? ⟨w.heap.size + 1 + 1 + 1, 8, none⟩ = some (.int .i64 (dg z 8)) ∧
    wr.cell? ⟨w.heap.size + 1 + 1, 0, none⟩ = some (.int .i64 0) ∧ wr.cell? ⟨w.heap.size + 1 + 1, 1, none⟩ = some (.int .i64 0) ∧ wr.cell? ⟨w.heap.size + 1 + 1, 2, none⟩ = some (.int .i64 0) ∧ wr.cell? ⟨w.heap.size + 1 + 1, 3, none⟩ = some (.int .i64 0) ∧ wr.cell? ⟨w.heap.size + 1 + 1, 4, none⟩ = some (.int .i64 0) ∧ wr.cell? ⟨w.heap.size + 1 + 1, 5, none⟩ = some (.int .i64 0) ∧ wr.cell? ⟨w.heap.size + 1 + 1, 6, none⟩ = some (.int .i64 0) ∧ wr.cell? ⟨w.heap.size + 1 + 1, 7, none⟩ = some (.int .i64 0) ∧ wr.cell? ⟨w.heap.size + 1 + 1, 8, none⟩ = some (.int .i64 0) ∧ (∀ j, wr.frozen? ⟨w.heap.size + 1 + 1, j, none⟩ = false) := by
  have hc := h.bc; rw [prt_nine] at hc
  have C := fun j (hj : j < 9) => (cell_of_row wr _ j _ _ _ hc).trans (bgA_at z j hj)
  have R := fun j => cell_of_row wr _ j _ _ _ h.br
  exact ⟨C 0 (by decide), C 1 (by decide), C 2 (by decide), C 3 (by decide), C 4 (by decide), C 5 (by decide), C 6 (by decide), C 7 (by decide), C 8 (by decide), R 0, R 1, R 2, R 3, R 4, R 5, R 6, R 7, R 8, fun j => frozen_of_row _ _ _ _ _ h.br⟩
theorem nine (w : World) (g : Nat) (h : w.heap[g]? = some (.cells #[.int .i64 0, .int .i64 0, .int .i64 0, .int .i64 0, .int .i64 0, .int .i64 0, .int .i64 0, .int .i64 0, .int .i64 0] 76 (0, 0))) (v0 v1 v2 v3 v4 v5 v6 v7 v8 : Value) :
    (((((((((w.setCell ⟨g, 0, none⟩ v0).setCell ⟨g, 1, none⟩ v1).setCell ⟨g, 2, none⟩ v2).setCell ⟨g, 3, none⟩ v3).setCell ⟨g, 4, none⟩ v4).setCell ⟨g, 5, none⟩ v5).setCell ⟨g, 6, none⟩ v6).setCell ⟨g, 7, none⟩ v7).setCell ⟨g, 8, none⟩ v8).heap[g]? = some (.cells #[v0, v1, v2, v3, v4, v5, v6, v7, v8] 76 (0, 0)) := by
  have h0 := heap_setCell_same w g 0 _ 76 v0 h
  have h1 := heap_setCell_same _ g 1 _ 76 v1 h0
  have h2 := heap_setCell_same _ g 2 _ 76 v2 h1
  have h3 := heap_setCell_same _ g 3 _ 76 v3 h2
  have h4 := heap_setCell_same _ g 4 _ 76 v4 h3
  have h5 := heap_setCell_same _ g 5 _ 76 v5 h4
  have h6 := heap_setCell_same _ g 6 _ 76 v6 h5
  have h7 := heap_setCell_same _ g 7 _ 76 v7 h6
  have h8 := heap_setCell_same _ g 8 _ 76 v8 h7
  simpa using h8
theorem nine_below {B : Nat} {a w : World} (h : Below B a w) (g : Nat) (hg : B ≤ g) (v0 v1 v2 v3 v4 v5 v6 v7 v8 : Value) : Below B a (((((((((w.setCell ⟨g, 0, none⟩ v0).setCell ⟨g, 1, none⟩ v1).setCell ⟨g, 2, none⟩ v2).setCell ⟨g, 3, none⟩ v3).setCell ⟨g, 4, none⟩ v4).setCell ⟨g, 5, none⟩ v5).setCell ⟨g, 6, none⟩ v6).setCell ⟨g, 7, none⟩ v7).setCell ⟨g, 8, none⟩ v8) := by
  exact Below.setCell (p := ⟨g, 8, none⟩) (Below.setCell (p := ⟨g, 7, none⟩) (Below.setCell (p := ⟨g, 6, none⟩) (Below.setCell (p := ⟨g, 5, none⟩) (Below.setCell (p := ⟨g, 4, none⟩) (Below.setCell (p := ⟨g, 3, none⟩) (Below.setCell (p := ⟨g, 2, none⟩) (Below.setCell (p := ⟨g, 1, none⟩) (Below.setCell (p := ⟨g, 0, none⟩) (h) hg v0) hg v1) hg v2) hg v3) hg v4) hg v5) hg v6) hg v7) hg v8
theorem BL.drewN {w wr : World} {x y z k : Nat} (h : BL w wr x y z k) (n : Nat) : BL w (wr.drewN n) x y z k := ⟨h.ba, h.bb, h.br, h.bc, bl_dn h.bl n⟩

theorem and31 (a : Int) (h : 0 ≤ a) (h2 : a < 9223372036854775808) : bits .and .i64 a 2147483647 = a % 2147483648 := by
  obtain ⟨n, rfl⟩ := Int.eq_ofNat_of_zero_le h
  have hx : n &&& 2147483647 < 2 ^ 63 := Nat.and_lt_two_pow _ (by decide)
  have e0 : (BitVec.ofInt 64 (n : Int)).toNat = n := by rw [BitVec.ofInt_natCast, BitVec.toNat_ofNat]; exact Nat.mod_eq_of_lt (by omega)
  have e1 : n &&& 2147483647 = n % 2147483648 := Nat.and_two_pow_sub_one_eq_mod n 31
  show IntKind.i64.wrap ((BitVec.ofInt 64 (n : Int) &&& BitVec.ofInt 64 2147483647).toNat : Int) = _
  rw [BitVec.toNat_and, e0, show (BitVec.ofInt 64 (2147483647 : Int)).toNat = 2147483647 from by decide, IntKind.wrap_i64, e1]
  omega

set_option maxRecDepth 100000 in
theorem plus_loop (x y : Nat) (w : World) :
    Calls Try.prog 45 #[.agg #[.int .i64 (dg x 0), .int .i64 (dg x 1), .int .i64 (dg x 2), .int .i64 (dg x 3), .int .i64 (dg x 4), .int .i64 (dg x 5), .int .i64 (dg x 6), .int .i64 (dg x 7), .int .i64 (dg x 8)], .agg #[.int .i64 (dg y 0), .int .i64 (dg y 1), .int .i64 (dg y 2), .int .i64 (dg y 3), .int .i64 (dg y 4), .int .i64 (dg y 5), .int .i64 (dg y 6), .int .i64 (dg y 7), .int .i64 (dg y 8)]] w fun e w' => e = .returned (.agg #[.int .i64 (dg (x + y) 0), .int .i64 (dg (x + y) 1), .int .i64 (dg (x + y) 2), .int .i64 (dg (x + y) 3), .int .i64 (dg (x + y) 4), .int .i64 (dg (x + y) 5), .int .i64 (dg (x + y) 6), .int .i64 (dg (x + y) 7), .int .i64 (dg (x + y) 8)]) ∧ Below w.heap.size w w' := by
  have S := BL.start w x y (x + y)
  go_enter Try.func45, Try.ntmps45
  go_wp2_with fail
  go_loopw [6, 7] (fun s t wr => ∃ k : Nat, k ≤ 9 ∧ t = .int .i64 k ∧ s = .int .i64 (cy x y k) ∧ BL w wr x y (x + y) k) (fun _ t _ => 9 - (intOf t).toNat)
  case atStart => exact ⟨0, by omega, rfl, by rw [cy_zero], S⟩
  case round =>
    obtain ⟨k, hk, rfl, rfl, hb⟩ := hrel
    clear S
    by_cases hlt : k < 9
    · have fa := hb.ca k hlt
      have fb := hb.cb k hlt
      have fc := hb.cc hlt
      have ff := hb.fc k
      obtain ⟨ax1, ax2⟩ := dg_b x k
      obtain ⟨ay1, ay2⟩ := dg_b y k
      obtain ⟨ac1, ac2⟩ := cy_b x y k
      have e1 := and31 (dg x k + dg y k + cy x y k) (by omega) (by omega)
      have e2 := dg_add x y k
      have e3 := cy_succ x y k
      rw [e2] at e1
      have w1 : IntKind.i64.wrap (dg x k + dg y k) = dg x k + dg y k := IntWalk.i64_in _ (by omega)
      have w2 : IntKind.i64.wrap (dg x k + dg y k + cy x y k) = dg x k + dg y k + cy x y k := IntWalk.i64_in _ (by omega)
      have k1 : (0 : Int) ≤ (k : Int) := by omega
      have k2 : (k : Int) < 9 := by omega
      have st := fun n => (hb.drewN n).step hlt
      clear hb
      go_wp2
      go_quiet (fail)
      go_wp2
      go_roundw
      case rel => exact ⟨k + 1, by omega, by go_num, rfl, st _⟩
      case measure => simp [intOf]; omega
    · obtain rfl : k = 9 := by omega
      have F := BL.out hb
      have bl := hb.bl
      have BR := Lib.hid hb.br
      obtain ⟨c0, c1, c2, c3, c4, c5, c6, c7, c8, r0, r1, r2, r3, r4, r5, r6, r7, r8, ff⟩ := F
      clear hb hlt hk
      go_wp2
      exact bodyPost_ret (results_cell_row Try.results45 _ _ (w.heap.size + 1 + 1) 76 _ (0, 0) _ rfl (nine _ _ BR.out _ _ _ _ _ _ _ _ _) Try.underlying76 rfl (by kernel_rfl)) rfl ⟨rfl, nine_below bl _ (by omega) _ _ _ _ _ _ _ _ _⟩
end Go.Proofs.Ytdeggnefbkcegaa.ar

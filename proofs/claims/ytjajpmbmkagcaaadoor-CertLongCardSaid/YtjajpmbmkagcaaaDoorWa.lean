/-
  cert: a list that is read; Same of two that are the same; from.
-/
import Derived.Test.YtjajpmbmkagcaaaDoorRefW
import Derived.Test.YtjajpmbmkagcaaaDoorCl
namespace Go.Proofs.YtjajpmbmkagcaaaDoor
open Go.RowKit
set_option linter.unusedVariables false
def nt (L : List Int) (j : Nat) : Int := L[j]?.getD 0
theorem nt_at (L : List Int) (j : Nat) (h : j < L.length) : L[j]? = some (nt L j) := by unfold nt; rw [List.getElem?_eq_getElem h]; rfl
theorem nt_mem (L : List Int) (j : Nat) (h : j < L.length) : nt L j ∈ L := List.mem_of_getElem? (nt_at L j h)
/-- a list of numbers, wherever it lies -/
def Ls (v : Value) (L : List Int) (w : World) : Prop := (∃ a c, v = .slice a 0 c ∧ L = []) ∨ ∃ g o c, v = .slice (some ⟨g, o, none⟩) L.length c ∧ L.length ≤ c ∧ g < w.heap.size ∧ ∀ j, j < L.length → w.cell? ⟨g, o + j, none⟩ = some (.int .i64 (nt L j))
theorem Ls.up {v : Value} {L : List Int} {w w1 : World} (h : Ls v L w) (k : Below w.heap.size w w1) : Ls v L w1 := by
  rcases h with h | ⟨g, o, c, h1, h2, h3, h4⟩
  · exact .inl h
  · exact .inr ⟨g, o, c, h1, h2, Nat.lt_of_lt_of_le h3 k.size, fun j hj => (k.cell (p := ⟨g, o + j, none⟩) h3).trans (h4 j hj)⟩
theorem Ls.form {v : Value} {L : List Int} {w : World} (h : Ls v L w) : ∃ a c, v = .slice a L.length c := by
  rcases h with ⟨a, c, h1, h2⟩ | ⟨g, o, c, h1, _⟩
  · subst h2; exact ⟨a, c, h1⟩
  · exact ⟨_, _, h1⟩
theorem cell_take {w : World} {g : Nat} {cur : Array Value} {t : TypeId} {xs : List Value} {n j : Nat} {x : Value} (hh : w.heap[g]? = some (.cells cur t (0, 0))) (hx : cur.toList.take n = xs) (hj : xs[j]? = some x) : w.cell? ⟨g, j, none⟩ = some x := by
  rw [← hx, List.getElem?_take] at hj
  split at hj
  · simp [World.cell?, hh]
    simpa using hj
  · cases hj
theorem Ol.ls {B : Nat} {v : Value} {L : List Int} {w : World} (h : Ol B v L w) : Ls v L w := by
  rcases h.2 with ⟨h1, h2⟩ | ⟨g, cap, cur, h1, h2, h3, h4, h5, h6, h7⟩
  · have : L = [] := List.length_eq_zero_iff.mp h2
    exact .inl ⟨none, 0, h1, this⟩
  · exact .inr ⟨g, 0, cap, h1, h4, lt_hp h3, fun j hj => by
      rw [Nat.zero_add]
      exact cell_take h3 h7 (by rw [List.getElem?_map, nt_at L j hj]; rfl)⟩
def EB (c : Nat) (V : Int) (v : Value) (T : ByteArray) (t : TypeId) (w : World) : Prop := w.heap[c]? = some (.cells #[.int .i64 V, v, .string T] t (0, 0))
theorem EB.cells {c : Nat} {V : Int} {v : Value} {T : ByteArray} {t : TypeId} {w : World} (h : EB c V v T t w) : w.cell? ⟨c, 0, none⟩ = some (.int .i64 V) ∧ w.cell? ⟨c, 1, none⟩ = some v ∧ w.cell? ⟨c, 2, none⟩ = some (.string T) :=
  ⟨(cell_of_row w c 0 _ t _ h).trans rfl, (cell_of_row w c 1 _ t _ h).trans rfl, (cell_of_row w c 2 _ t _ h).trans rfl⟩
set_option maxHeartbeats 4000000 in
theorem same_any {V : Int} {T : ByteArray} {L : List Int} {v1 v2 : Value} {w : World} (h1 : Ls v1 L w) (h2 : Ls v2 L w) (hL : L.length ≤ 1000000) : Calls Tryd.prog 12 #[.agg #[.int .i64 V, v1, .string T], .agg #[.int .i64 V, v2, .string T]] w fun e w' => e = .returned (.bool true) ∧ Below w.heap.size w w' := by
  obtain ⟨a1, c1, rfl⟩ := h1.form
  obtain ⟨a2, c2, rfl⟩ := h2.form
  have b1 := bl_al (Below.refl _ w) (.cells #[.int .i64 V, .slice a1 L.length c1, .string T] 24)
  have b2 := bl_al b1 (.cells #[.int .i64 V, .slice a2 L.length c2, .string T] 24)
  have e1 := heap_alloc_new w (.cells #[.int .i64 V, .slice a1 L.length c1, .string T] 24)
  have e2 := heap_alloc_new (w.alloc (.cells #[.int .i64 V, .slice a1 L.length c1, .string T] 24)) (.cells #[.int .i64 V, .slice a2 L.length c2, .string T] 24)
  have e1' := (heap_alloc_old (w.alloc (.cells #[.int .i64 V, .slice a1 L.length c1, .string T] 24)) (.cells #[.int .i64 V, .slice a2 L.length c2, .string T] 24) (lt_hp e1)).trans e1
  rw [World.size_alloc] at e2
  have HB := Lib.hid b2
  have H1 := Lib.hid (h1.up b2)
  have H2 := Lib.hid (h2.up b2)
  obtain ⟨k0, k1, k2⟩ := EB.cells e1'
  obtain ⟨l0, l1, l2⟩ := EB.cells e2
  have n1 : (V != V) = false := bne_self_eq_false _
  have n3 : ((L.length : Int) != (L.length : Int)) = false := bne_self_eq_false _
  have n4 : (L.length != L.length) = false := bne_self_eq_false _
  clear h1 h2 b1 b2 e1 e2 e1'
  go_enter Tryd.func12, Tryd.ntmps12
  go_wp2_with fail
  generalize (w.alloc (.cells #[.int .i64 V, .slice a1 L.length c1, .string T] 24)).alloc (.cells #[.int .i64 V, .slice a2 L.length c2, .string T] 24) = X at *
  have KS := Lib.hid (show X.cell? ⟨w.heap.size, 1, none⟩ = some (.slice a1 L.length c1) ∧ X.cell? ⟨w.heap.size + 1, 1, none⟩ = some (.slice a2 L.length c2) from ⟨k1, l1⟩)
  have LT := Lib.hid (show w.heap.size < X.heap.size ∧ w.heap.size + 1 < X.heap.size from ⟨block_lt_of_cell k1, block_lt_of_cell l1⟩)
  clear k0 k1 k2 l0 l1 l2 n1 n3
  go_loopw [5] (fun i wr => ∃ k : Nat, i = .int .i64 (k : Int) ∧ k ≤ L.length ∧ Hid (Below X.heap.size X wr)) (fun i _ => L.length - (intOf i).toNat)
  case atStart => exact ⟨0, rfl, Nat.zero_le _, Lib.hid (Below.refl _ _)⟩
  case round =>
    obtain ⟨k, rfl, hk, HX⟩ := hrel
    have k1 := (HX.out.cell (p := ⟨w.heap.size, 1, none⟩) LT.out.1).trans KS.out.1
    have l1 := (HX.out.cell (p := ⟨w.heap.size + 1, 1, none⟩) LT.out.2).trans KS.out.2
    by_cases hlt : k < L.length
    · rcases H1.out.up HX.out with ⟨_, _, _, h0⟩ | ⟨g, o, c, hv, hc, hg, hcell⟩
      · subst h0; simp at hlt
      · rcases H2.out.up HX.out with ⟨_, _, _, h0⟩ | ⟨g2, o2, cc2, hv2, hc2, hg2, hcell2⟩
        · subst h0; simp at hlt
        · injection hv with q1 q2 q3
          injection hv2 with q4 q5 q6
          subst q1 q4
          have m1 := hcell k hlt
          have m2 := hcell2 k hlt
          have i1 : (k : Int) < (L.length : Int) := by omega
          have n5 : (nt L k != nt L k) = false := bne_self_eq_false _
          clear hcell hcell2 q2 q3 q5 q6 hc hc2
          go_upto_region 6 with fail
          go_quiet (fail)
          have HB2 := Lib.hid (show Below X.heap.size X (wr.drewN nq) from bl_dn HX.out nq)
          generalize wr.drewN nq = Y at *
          go_wp2
          go_roundw
          case rel => exact ⟨k + 1, by go_num, by omega, HB2⟩
          case measure => simp [intOf]; omega
    · have i1 : ¬ (k : Int) < (L.length : Int) := by omega
      go_wp2
      go_ret
      exact ⟨rfl, bl_tr HB.out HX.out⟩
/-- a struct of the other type -/
theorem from_any {V : Int} {T : ByteArray} {v : Value} {n : Nat} {w : World} (hv : ∃ a c, v = .slice a n c) : Calls Tryd.prog 13 #[.agg #[.int .i64 V, v, .string T]] w fun e w' => e = .returned (.agg #[.int .i64 V, v, .string T]) ∧ Below w.heap.size w w' := by
  obtain ⟨a, c, rfl⟩ := hv
  have hb := Lib.hid (bl_al (bl_al (Below.refl _ w) (.cells #[.int .i64 V, .slice a n c, .string T] 26)) (.cells #[.int .i64 V, .slice a n c, .string T] 24))
  have e2 := heap_alloc_new (w.alloc (.cells #[.int .i64 V, .slice a n c, .string T] 26)) (.cells #[.int .i64 V, .slice a n c, .string T] 24)
  rw [World.size_alloc] at e2
  have E2 := Lib.hid (EB.cells e2)
  clear e2
  go_enter Tryd.func13, Tryd.ntmps13
  go_wp2
  obtain ⟨d0, d1, d2⟩ := E2.out
  refine bodyPost_ret (by simp [results, Tryd.results13, go_sem, d0, d1, d2]; rfl) rfl ?_
  exact ⟨rfl, hb.out⟩
end Go.Proofs.YtjajpmbmkagcaaaDoor

/-
  For every three ints, kurganlaw01.ArithParts answers true and leaves them as they were: Part tells the whole part of a product divided, or that there is none. No condition.
-/
import Derived.Test.YtbcffefailhacaaPartsW
import Derived.Test.YtbcffefailhacaaRows
import Derived.ProofKit
import Derived.OpenShut
namespace Go.Proofs.Ytbcffefailhacaa.arithParts
open Go.ChangeShapes Go.WideShapes Go.ChangeAt Go.RowKit
set_option linter.unusedVariables false
theorem own : ownKnob Try.prog.godebug = none := by kernel_rfl
theorem pr_two {w W w1 : World} {k1 k2 : Bool} {z1 z2 g h : Nat} (hb : Below W.heap.size W w1) (q : W.heap[g]? = some (.cells #[.bool k1, .int .i64 (dg z1 0), .int .i64 (dg z1 1), .int .i64 (dg z1 2), .int .i64 (dg z1 3), .int .i64 (dg z1 4), .int .i64 (dg z1 5), .int .i64 (dg z1 6), .int .i64 (dg z1 7), .int .i64 (dg z1 8)] 28 (0, 0)) ∧ W.heap[h]? = some (.cells #[.bool k2, .int .i64 (dg z2 0), .int .i64 (dg z2 1), .int .i64 (dg z2 2), .int .i64 (dg z2 3), .int .i64 (dg z2 4), .int .i64 (dg z2 5), .int .i64 (dg z2 6), .int .i64 (dg z2 7), .int .i64 (dg z2 8)] 28 (0, 0)) ∧ Below w.heap.size w W) : w1.heap[g]? = some (.cells #[.bool k1, .int .i64 (dg z1 0), .int .i64 (dg z1 1), .int .i64 (dg z1 2), .int .i64 (dg z1 3), .int .i64 (dg z1 4), .int .i64 (dg z1 5), .int .i64 (dg z1 6), .int .i64 (dg z1 7), .int .i64 (dg z1 8)] 28 (0, 0)) ∧ w1.heap[h]? = some (.cells #[.bool k2, .int .i64 (dg z2 0), .int .i64 (dg z2 1), .int .i64 (dg z2 2), .int .i64 (dg z2 3), .int .i64 (dg z2 4), .int .i64 (dg z2 5), .int .i64 (dg z2 6), .int .i64 (dg z2 7), .int .i64 (dg z2 8)] 28 (0, 0)) ∧ Below w.heap.size w w1 :=
  ⟨(hb.block _ (lt_heap q.1)).trans q.1, (hb.block _ (lt_heap q.2.1)).trans q.2.1, bl_tr q.2.2 hb⟩
set_option maxRecDepth 100000 in
set_option maxHeartbeats 4000000 in
theorem walk_over (a b c u : Int) (ka kb k1 kh kc k2 k3 : Bool) (xa xb z1 xh xc z2 z3 : Nat) (a1 : 0 ≤ a) (b1 : 0 ≤ b) (c1 : 0 < c) (hu : 0 ≤ u)
    (I0 : ∀ W, Calls Try.prog 24 #[.int .i64 a, .int .i64 b, .int .i64 c] W fun e w' => e = .returned (.tuple #[.int .i64 0, .bool false]) ∧ Below W.heap.size W w')
    (I1 : ∀ W, Calls Try.prog 14 #[.int .i64 a] W fun e w' => e = .returned (.agg #[.bool ka, .int .i64 (dg xa 0), .int .i64 (dg xa 1), .int .i64 (dg xa 2), .int .i64 (dg xa 3), .int .i64 (dg xa 4), .int .i64 (dg xa 5), .int .i64 (dg xa 6), .int .i64 (dg xa 7), .int .i64 (dg xa 8)]) ∧ Below W.heap.size W w')
    (I2 : ∀ W, Calls Try.prog 14 #[.int .i64 b] W fun e w' => e = .returned (.agg #[.bool kb, .int .i64 (dg xb 0), .int .i64 (dg xb 1), .int .i64 (dg xb 2), .int .i64 (dg xb 3), .int .i64 (dg xb 4), .int .i64 (dg xb 5), .int .i64 (dg xb 6), .int .i64 (dg xb 7), .int .i64 (dg xb 8)]) ∧ Below W.heap.size W w')
    (I3 : ∀ W, Calls Try.prog 19 #[.agg #[.bool ka, .int .i64 (dg xa 0), .int .i64 (dg xa 1), .int .i64 (dg xa 2), .int .i64 (dg xa 3), .int .i64 (dg xa 4), .int .i64 (dg xa 5), .int .i64 (dg xa 6), .int .i64 (dg xa 7), .int .i64 (dg xa 8)], .agg #[.bool kb, .int .i64 (dg xb 0), .int .i64 (dg xb 1), .int .i64 (dg xb 2), .int .i64 (dg xb 3), .int .i64 (dg xb 4), .int .i64 (dg xb 5), .int .i64 (dg xb 6), .int .i64 (dg xb 7), .int .i64 (dg xb 8)]] W fun e w' => e = .returned (.agg #[.bool k1, .int .i64 (dg z1 0), .int .i64 (dg z1 1), .int .i64 (dg z1 2), .int .i64 (dg z1 3), .int .i64 (dg z1 4), .int .i64 (dg z1 5), .int .i64 (dg z1 6), .int .i64 (dg z1 7), .int .i64 (dg z1 8)]) ∧ Below W.heap.size W w')
    (I4 : ∀ W, Calls Try.prog 14 #[.int .i64 4611686018427387904] W fun e w' => e = .returned (.agg #[.bool kh, .int .i64 (dg xh 0), .int .i64 (dg xh 1), .int .i64 (dg xh 2), .int .i64 (dg xh 3), .int .i64 (dg xh 4), .int .i64 (dg xh 5), .int .i64 (dg xh 6), .int .i64 (dg xh 7), .int .i64 (dg xh 8)]) ∧ Below W.heap.size W w')
    (I5 : ∀ W, Calls Try.prog 14 #[.int .i64 c] W fun e w' => e = .returned (.agg #[.bool kc, .int .i64 (dg xc 0), .int .i64 (dg xc 1), .int .i64 (dg xc 2), .int .i64 (dg xc 3), .int .i64 (dg xc 4), .int .i64 (dg xc 5), .int .i64 (dg xc 6), .int .i64 (dg xc 7), .int .i64 (dg xc 8)]) ∧ Below W.heap.size W w')
    (I6 : ∀ W, Calls Try.prog 19 #[.agg #[.bool kh, .int .i64 (dg xh 0), .int .i64 (dg xh 1), .int .i64 (dg xh 2), .int .i64 (dg xh 3), .int .i64 (dg xh 4), .int .i64 (dg xh 5), .int .i64 (dg xh 6), .int .i64 (dg xh 7), .int .i64 (dg xh 8)], .agg #[.bool kc, .int .i64 (dg xc 0), .int .i64 (dg xc 1), .int .i64 (dg xc 2), .int .i64 (dg xc 3), .int .i64 (dg xc 4), .int .i64 (dg xc 5), .int .i64 (dg xc 6), .int .i64 (dg xc 7), .int .i64 (dg xc 8)]] W fun e w' => e = .returned (.agg #[.bool k2, .int .i64 (dg z2 0), .int .i64 (dg z2 1), .int .i64 (dg z2 2), .int .i64 (dg z2 3), .int .i64 (dg z2 4), .int .i64 (dg z2 5), .int .i64 (dg z2 6), .int .i64 (dg z2 7), .int .i64 (dg z2 8)]) ∧ Below W.heap.size W w')
    (I7 : ∀ W, Calls Try.prog 17 #[.agg #[.bool k2, .int .i64 (dg z2 0), .int .i64 (dg z2 1), .int .i64 (dg z2 2), .int .i64 (dg z2 3), .int .i64 (dg z2 4), .int .i64 (dg z2 5), .int .i64 (dg z2 6), .int .i64 (dg z2 7), .int .i64 (dg z2 8)], .agg #[.bool k2, .int .i64 (dg z2 0), .int .i64 (dg z2 1), .int .i64 (dg z2 2), .int .i64 (dg z2 3), .int .i64 (dg z2 4), .int .i64 (dg z2 5), .int .i64 (dg z2 6), .int .i64 (dg z2 7), .int .i64 (dg z2 8)]] W fun e w' => e = .returned (.agg #[.bool k3, .int .i64 (dg z3 0), .int .i64 (dg z3 1), .int .i64 (dg z3 2), .int .i64 (dg z3 3), .int .i64 (dg z3 4), .int .i64 (dg z3 5), .int .i64 (dg z3 6), .int .i64 (dg z3 7), .int .i64 (dg z3 8)]) ∧ Below W.heap.size W w')
    (I8 : ∀ W, Calls Try.prog 21 #[.agg #[.bool k1, .int .i64 (dg z1 0), .int .i64 (dg z1 1), .int .i64 (dg z1 2), .int .i64 (dg z1 3), .int .i64 (dg z1 4), .int .i64 (dg z1 5), .int .i64 (dg z1 6), .int .i64 (dg z1 7), .int .i64 (dg z1 8)], .agg #[.bool k3, .int .i64 (dg z3 0), .int .i64 (dg z3 1), .int .i64 (dg z3 2), .int .i64 (dg z3 3), .int .i64 (dg z3 4), .int .i64 (dg z3 5), .int .i64 (dg z3 6), .int .i64 (dg z3 7), .int .i64 (dg z3 8)]] W fun e w' => e = .returned (.int .i64 u) ∧ Below W.heap.size W w')
    (w : World) : Calls Try.prog 7 #[.int .i64 a, .int .i64 b, .int .i64 c] w fun e w' => e = .returned (.bool true) ∧ Below w.heap.size w w' := by
  have J0 := Lib.hid I0; clear I0
  have J1 := Lib.hid I1; clear I1
  have J2 := Lib.hid I2; clear I2
  have J3 := Lib.hid I3; clear I3
  have J4 := Lib.hid I4; clear I4
  have J5 := Lib.hid I5; clear I5
  have J6 := Lib.hid I6; clear I6
  have J7 := Lib.hid I7; clear I7
  have J8 := Lib.hid I8; clear I8
  go_enter Try.func7, Try.ntmps7
  go_wp2_with fail
  refine (J0.out _).mono ?_; rintro e w1 ⟨rfl, hb1⟩
  go_wp2_with fail
  refine (counts_any _).mono ?_; rintro e w2 ⟨rfl, hb2⟩
  go_wp2_with fail
  refine (J1.out _).mono ?_; rintro e w3 ⟨rfl, hb3⟩
  go_wp2_with fail
  refine (J2.out _).mono ?_; rintro e w4 ⟨rfl, hb4⟩
  go_wp2_with fail
  refine (J3.out _).mono ?_; rintro e w5 ⟨rfl, hb5⟩
  have bl := bl_tr (bl_tr (bl_tr (bl_tr hb1 hb2) hb3) hb4) hb5
  clear hb1 hb2 hb3 hb4 hb5
  go_wp2_with fail
  refine (J4.out _).mono ?_; rintro e w6 ⟨rfl, hb6⟩
  have S0 : (w5.alloc (.cells #[.bool k1, .int .i64 (dg z1 0), .int .i64 (dg z1 1), .int .i64 (dg z1 2), .int .i64 (dg z1 3), .int .i64 (dg z1 4), .int .i64 (dg z1 5), .int .i64 (dg z1 6), .int .i64 (dg z1 7), .int .i64 (dg z1 8)] 28)).heap[w5.heap.size]? = some (.cells #[.bool k1, .int .i64 (dg z1 0), .int .i64 (dg z1 1), .int .i64 (dg z1 2), .int .i64 (dg z1 3), .int .i64 (dg z1 4), .int .i64 (dg z1 5), .int .i64 (dg z1 6), .int .i64 (dg z1 7), .int .i64 (dg z1 8)] 28 (0, 0)) ∧ Below w.heap.size w (w5.alloc (.cells #[.bool k1, .int .i64 (dg z1 0), .int .i64 (dg z1 1), .int .i64 (dg z1 2), .int .i64 (dg z1 3), .int .i64 (dg z1 4), .int .i64 (dg z1 5), .int .i64 (dg z1 6), .int .i64 (dg z1 7), .int .i64 (dg z1 8)] 28)) := ⟨heap_alloc_new w5 _, bl_al bl _⟩
  have S1 := Lib.hid (pr_more hb6 S0)
  clear bl hb6 S0
  generalize w5.heap.size = g0 at S1 ⊢
  go_wp2_with fail
  refine (J5.out _).mono ?_; rintro e w7 ⟨rfl, hb7⟩
  have S2 := Lib.hid (pr_more hb7 S1.out)
  clear hb7 S1
  go_wp2_with fail
  refine (J6.out _).mono ?_; rintro e w8 ⟨rfl, hb8⟩
  have S3 := pr_more hb8 S2.out
  clear hb8 S2
  have S4 : (w8.alloc (.cells #[.bool k2, .int .i64 (dg z2 0), .int .i64 (dg z2 1), .int .i64 (dg z2 2), .int .i64 (dg z2 3), .int .i64 (dg z2 4), .int .i64 (dg z2 5), .int .i64 (dg z2 6), .int .i64 (dg z2 7), .int .i64 (dg z2 8)] 28)).drew.heap[g0]? = some (.cells #[.bool k1, .int .i64 (dg z1 0), .int .i64 (dg z1 1), .int .i64 (dg z1 2), .int .i64 (dg z1 3), .int .i64 (dg z1 4), .int .i64 (dg z1 5), .int .i64 (dg z1 6), .int .i64 (dg z1 7), .int .i64 (dg z1 8)] 28 (0, 0)) ∧ (w8.alloc (.cells #[.bool k2, .int .i64 (dg z2 0), .int .i64 (dg z2 1), .int .i64 (dg z2 2), .int .i64 (dg z2 3), .int .i64 (dg z2 4), .int .i64 (dg z2 5), .int .i64 (dg z2 6), .int .i64 (dg z2 7), .int .i64 (dg z2 8)] 28)).drew.heap[w8.heap.size]? = some (.cells #[.bool k2, .int .i64 (dg z2 0), .int .i64 (dg z2 1), .int .i64 (dg z2 2), .int .i64 (dg z2 3), .int .i64 (dg z2 4), .int .i64 (dg z2 5), .int .i64 (dg z2 6), .int .i64 (dg z2 7), .int .i64 (dg z2 8)] 28 (0, 0)) ∧ Below w.heap.size w (w8.alloc (.cells #[.bool k2, .int .i64 (dg z2 0), .int .i64 (dg z2 1), .int .i64 (dg z2 2), .int .i64 (dg z2 3), .int .i64 (dg z2 4), .int .i64 (dg z2 5), .int .i64 (dg z2 6), .int .i64 (dg z2 7), .int .i64 (dg z2 8)] 28)).drew := ⟨(pr_alloc S3 _).1, heap_alloc_new w8 _, (pr_alloc S3 _).2.drew⟩
  have S5 := Lib.hid S4
  clear S3 S4
  go_wp2
  refine wp_region_held_drew (S := fun w' => w'.heap[g0]? = some (.cells #[.bool k1, .int .i64 (dg z1 0), .int .i64 (dg z1 1), .int .i64 (dg z1 2), .int .i64 (dg z1 3), .int .i64 (dg z1 4), .int .i64 (dg z1 5), .int .i64 (dg z1 6), .int .i64 (dg z1 7), .int .i64 (dg z1 8)] 28 (0, 0)) ∧ w'.heap[w8.heap.size]? = some (.cells #[.bool k2, .int .i64 (dg z2 0), .int .i64 (dg z2 1), .int .i64 (dg z2 2), .int .i64 (dg z2 3), .int .i64 (dg z2 4), .int .i64 (dg z2 5), .int .i64 (dg z2 6), .int .i64 (dg z2 7), .int .i64 (dg z2 8)] 28 (0, 0)) ∧ Below w.heap.size w w') (by kernel_rfl) S5.out (fun hHeld => ?_)
  clear S5
  refine wpAnyH_take (i := 0) (v := ?vu120x0) (by rw [List.getElem?_toArray]; rfl) (by kernel_rfl) (by kernel_rfl) (by kernel_rfl) ?qu120x0 (Or.inl ⟨by rfl, ?yu120x0⟩) (by assumption) ?ru120x0
  case qu120x0 => exact fun _ _ _ h => h
  case yu120x0 => (intro wz hSw; go_simp; try (with_reducible rfl))
  simp only [Act.put, List.setIfInBounds_toArray, List.set_cons_zero, List.set_cons_succ]
  refine wpAnyH_take (i := 1) (v := ?vu121x1) (by rw [List.getElem?_toArray]; rfl) (by kernel_rfl) (by kernel_rfl) (by kernel_rfl) ?qu121x1 (Or.inl ⟨by rfl, ?yu121x1⟩) (by assumption) ?ru121x1
  case qu121x1 => exact fun _ _ _ h => h
  case yu121x1 => (intro wz hSw; go_simp; try (with_reducible rfl))
  simp only [Act.put, List.setIfInBounds_toArray, List.set_cons_zero, List.set_cons_succ]
  refine wpAnyH_take (i := 2) (v := ?vu122x2) (by rw [List.getElem?_toArray]; rfl) (by kernel_rfl) (by kernel_rfl) (by kernel_rfl) ?qu122x2 (Or.inl ⟨by rfl, ?yu122x2⟩) (by assumption) ?ru122x2
  case qu122x2 => exact fun _ _ _ h => h
  case yu122x2 => (intro wz hSw; go_simp; try (with_reducible rfl))
  simp only [Act.put, List.setIfInBounds_toArray, List.set_cons_zero, List.set_cons_succ]
  refine' wpAnyH_take (i := 3) (v := _) (by rw [List.getElem?_toArray]; rfl) (by kernel_rfl) (by kernel_rfl) (by kernel_rfl) ?qu123x3 (yieldsIf_load_mid (by rfl) _ _ rfl _ _ rfl [.bool k1, .int .i64 (dg z1 0), .int .i64 (dg z1 1), .int .i64 (dg z1 2), .int .i64 (dg z1 3), .int .i64 (dg z1 4), .int .i64 (dg z1 5), .int .i64 (dg z1 6), .int .i64 (dg z1 7), .int .i64 (dg z1 8)] _ ?hSu123x3 ?huu123x3 ?hdu123x3 ?hiu123x3) (by assumption) ?restu123x3
  case qu123x3 => exact fun _ _ _ h => h
  case hSu123x3 => exact fun wz hSw => sg_whole hSw.1
  case huu123x3 => exact Try.underlying28
  case hdu123x3 => rfl
  case hiu123x3 => exact info28
  simp only [Act.put, List.setIfInBounds_toArray, List.set_cons_zero, List.set_cons_succ]
  refine' wpAnyH_take (i := 4) (v := _) (by rw [List.getElem?_toArray]; rfl) (by kernel_rfl) (by kernel_rfl) (by kernel_rfl) ?qu124x4 (yieldsIf_load_mid (by rfl) _ _ rfl _ _ rfl [.bool k2, .int .i64 (dg z2 0), .int .i64 (dg z2 1), .int .i64 (dg z2 2), .int .i64 (dg z2 3), .int .i64 (dg z2 4), .int .i64 (dg z2 5), .int .i64 (dg z2 6), .int .i64 (dg z2 7), .int .i64 (dg z2 8)] _ ?hSu124x4 ?huu124x4 ?hdu124x4 ?hiu124x4) (by assumption) ?restu124x4
  case qu124x4 => exact fun _ _ _ h => h
  case hSu124x4 => exact fun wz hSw => sg_whole hSw.2.1
  case huu124x4 => exact Try.underlying28
  case hdu124x4 => rfl
  case hiu124x4 => exact info28
  simp only [Act.put, List.setIfInBounds_toArray, List.set_cons_zero, List.set_cons_succ]
  refine' wpAnyH_take (i := 5) (v := _) (by rw [List.getElem?_toArray]; rfl) (by kernel_rfl) (by kernel_rfl) (by kernel_rfl) ?qu125x5 (yieldsIf_load_mid (by rfl) _ _ rfl _ _ rfl [.bool k2, .int .i64 (dg z2 0), .int .i64 (dg z2 1), .int .i64 (dg z2 2), .int .i64 (dg z2 3), .int .i64 (dg z2 4), .int .i64 (dg z2 5), .int .i64 (dg z2 6), .int .i64 (dg z2 7), .int .i64 (dg z2 8)] _ ?hSu125x5 ?huu125x5 ?hdu125x5 ?hiu125x5) (by assumption) ?restu125x5
  case qu125x5 => exact fun _ _ _ h => h
  case hSu125x5 => exact fun wz hSw => sg_whole hSw.2.1
  case huu125x5 => exact Try.underlying28
  case hdu125x5 => rfl
  case hiu125x5 => exact info28
  simp only [Act.put, List.setIfInBounds_toArray, List.set_cons_zero, List.set_cons_succ]
  refine wpAnyH_ready (rs := [6]) (by kernel_rfl) (by simp) ?_
  refine AllReadyH.cons (by rw [List.getElem?_toArray]; rfl) (fun K hK => ?_) AllReadyH.nil
  have hHid := Lib.hid hHeld
  clear hHeld
  go_simp
  go_at_call 17; refine (J7.out _).mono ?_; rintro e vu126 ⟨rfl, hb⟩
  have hNew := pr_two hb hHid.out
  clear hb hHid
  have hNewH := Lib.hid hNew
  clear hNew
  go_wp2_with fail
  refine hK.out _ _ hNewH.out (fun hHeld => ?_)
  clear hK K hNewH
  refine wpAnyH_ready (rs := [7]) (by kernel_rfl) (by simp) ?_
  refine AllReadyH.cons (by rw [List.getElem?_toArray]; rfl) (fun K hK => ?_) AllReadyH.nil
  have hHid := Lib.hid hHeld
  clear hHeld
  go_simp
  go_at_call 21; refine (J8.out _).mono ?_; rintro e vu127 ⟨rfl, hb⟩
  have hNew := pr_two hb hHid.out
  clear hb hHid
  have hNewH := Lib.hid hNew
  clear hNew
  go_wp2_with fail
  refine hK.out _ _ hNewH.out (fun hHeld => ?_)
  clear hK K hNewH
  refine wpAnyH_take (i := 8) (v := ?vu128x8) (by rw [List.getElem?_toArray]; rfl) (by kernel_rfl) (by kernel_rfl) (by kernel_rfl) ?qu128x8 (Or.inl ⟨by rfl, ?yu128x8⟩) (by assumption) ?ru128x8
  case qu128x8 => exact fun _ _ _ h => h
  case yu128x8 => (intro wz hSw; go_simp; try (with_reducible rfl))
  simp only [Act.put, List.setIfInBounds_toArray, List.set_cons_zero, List.set_cons_succ]
  refine wpAnyH_take (i := 9) (v := ?vu129x9) (by rw [List.getElem?_toArray]; rfl) (by kernel_rfl) (by kernel_rfl) (by kernel_rfl) ?qu129x9 (Or.inl ⟨by rfl, ?yu129x9⟩) (by assumption) ?ru129x9
  case qu129x9 => exact fun _ _ _ h => h
  case yu129x9 => (intro wz hSw; go_simp; try (with_reducible rfl))
  simp only [Act.put, List.setIfInBounds_toArray, List.set_cons_zero, List.set_cons_succ]
  refine wpAnyH_take (i := 10) (v := ?vu130x10) (by rw [List.getElem?_toArray]; rfl) (by kernel_rfl) (by kernel_rfl) (by kernel_rfl) ?qu130x10 (Or.inl ⟨by rfl, ?yu130x10⟩) (by assumption) ?ru130x10
  case qu130x10 => exact fun _ _ _ h => h
  case yu130x10 => (intro wz hSw; go_simp; try (with_reducible rfl))
  simp only [Act.put, List.setIfInBounds_toArray, List.set_cons_zero, List.set_cons_succ]
  refine wpAnyH_done (by kernel_rfl) ?_ _
  go_wp2
  go_ret
  exact ⟨rfl, hHeld.2.2⟩
theorem cmpv_up {x y : Int} (h : y ≤ x) : 0 ≤ cmpv x y := by unfold cmpv; split <;> first | omega | (split <;> omega)
theorem cmpv_dn {x y : Int} (h : x < y) : cmpv x y < 0 := by unfold cmpv; rw [if_pos h]; omega
theorem walk (a0 a1 a2 : Int) (w0 : (Lit.int .i64 a0).wf = true) (w1 : (Lit.int .i64 a1).wf = true) (w2 : (Lit.int .i64 a2).wf = true) (w : World) :
    Calls Try.prog 7 #[.int .i64 a0, .int .i64 a1, .int .i64 a2] w fun e w' => e = .returned (.bool true) ∧ Below w.heap.size w w' := by
  obtain ⟨p1, p2⟩ := bounds_i64 w0
  obtain ⟨r1, r2⟩ := bounds_i64 w1
  obtain ⟨s1, s2⟩ := bounds_i64 w2
  by_cases hn : a0 < 0 ∨ a1 < 0 ∨ a2 ≤ 0
  · exact walk_none a0 a1 a2 hn w
  · have b4 := B4; have b8 := B8; have b9 := B9; have b5 := B5
    have b89 : BB ^ 8 < BB ^ 9 := by decide
    have ha := abs_b a0 p1 p2; have hb := abs_b a1 r1 r2; have hc := abs_b a2 s1 s2
    have hm := mul_bound ha hb
    obtain ⟨a, rfl⟩ := Int.eq_ofNat_of_zero_le (show 0 ≤ a0 by omega)
    obtain ⟨b, rfl⟩ := Int.eq_ofNat_of_zero_le (show 0 ≤ a1 by omega)
    obtain ⟨c, rfl⟩ := Int.eq_ofNat_of_zero_le (show 0 ≤ a2 by omega)
    have hP := fun W => part_some a b c (by omega) (by omega) (by omega) (by omega) W
    have hdm := Nat.div_add_mod (a * b) c
    have hml := Nat.mod_lt (a * b) (show 0 < c by omega)
    have e1 : sv (decide ((a : Int) < 0) != decide ((b : Int) < 0)) ((a : Int).natAbs * (b : Int).natAbs) = ((a * b : Nat) : Int) := by rw [sv_mul, sv_num, sv_num, Int.natCast_mul]
    by_cases hq : a * b / c < 9223372036854775808
    · generalize hqq : a * b / c = q at *
      have hP2 : ∀ W, Calls Try.prog 24 #[.int .i64 (a : Int), .int .i64 (b : Int), .int .i64 (c : Int)] W fun e w' => e = .returned (.tuple #[.int .i64 ((q : Nat) : Int), .bool true]) ∧ Below W.heap.size W w' := fun W => by
        have h := hP W
        rw [if_pos hq] at h
        exact h
      have hqa : (q : Int).natAbs ≤ 9223372036854775808 := by omega
      have hm2 := mul_bound hqa hc
      have e2 : sv (decide ((q : Int) < 0) != decide ((c : Int) < 0)) ((q : Int).natAbs * (c : Int).natAbs) = ((c * q : Nat) : Int) := by rw [sv_mul, sv_num, sv_num, Int.natCast_mul, Int.mul_comm]
      have hz := addz_le (decide ((a : Int) < 0) != decide ((b : Int) < 0)) (!(decide ((q : Int) < 0) != decide ((c : Int) < 0))) ((a : Int).natAbs * (b : Int).natAbs) ((q : Int).natAbs * (c : Int).natAbs)
      have e3 : sv (addk (decide ((a : Int) < 0) != decide ((b : Int) < 0)) (!(decide ((q : Int) < 0) != decide ((c : Int) < 0))) ((a : Int).natAbs * (b : Int).natAbs) ((q : Int).natAbs * (c : Int).natAbs)) (addz (decide ((a : Int) < 0) != decide ((b : Int) < 0)) (!(decide ((q : Int) < 0) != decide ((c : Int) < 0))) ((a : Int).natAbs * (b : Int).natAbs) ((q : Int).natAbs * (c : Int).natAbs)) = ((a * b : Nat) : Int) - ((c * q : Nat) : Int) := by
        rw [add_sv, sv_neg, e1, e2]; omega
      exact walk_ok a b c q _ _ _ _ _ _ _ _ _ _ _ _ _ _ _ _ _ _ _ (by omega) (by omega) (by omega) (by omega)
        (cmpv_up (x := sv _ _) (y := sv (decide ((0 : Int) < 0)) (0 : Int).natAbs) (by rw [e3, sv_num]; omega)) (cmpv_dn (x := sv _ _) (y := sv (decide ((c : Int) < 0)) (c : Int).natAbs) (by rw [e3, sv_num]; omega))
        hP2 (fun W => num_any a p1 p2 W) (fun W => num_any b r1 r2 W) (fun W => mul_any _ _ _ _ (by omega) (by omega) W) (fun W => num_any q (by omega) (by omega) W) (fun W => num_any c s1 s2 W)
        (fun W => mul_any _ _ _ _ (by omega) (by omega) W) (fun W => neg_any _ _ W) (fun W => add_any _ _ _ _ (by omega) (by omega) W) (fun W => num_any 0 (by omega) (by omega) W)
        (fun W => cmp_any _ _ _ _ (by omega) (by simp; omega) W) (fun W => cmp_any _ _ _ _ (by omega) (by omega) W) w
    · have hP2 : ∀ W, Calls Try.prog 24 #[.int .i64 (a : Int), .int .i64 (b : Int), .int .i64 (c : Int)] W fun e w' => e = .returned (.tuple #[.int .i64 0, .bool false]) ∧ Below W.heap.size W w' := fun W => by
        have h := hP W
        rw [if_neg hq] at h
        exact h
      have hge : 9223372036854775808 * c ≤ a * b := (Nat.le_div_iff_mul_le (by omega)).1 (by omega)
      have hm2 := mul_bound (abs_b 4611686018427387904 (by omega) (by omega)) hc
      have e2 : sv (decide ((4611686018427387904 : Int) < 0) != decide ((c : Int) < 0)) ((4611686018427387904 : Int).natAbs * (c : Int).natAbs) = 4611686018427387904 * (c : Int) := by rw [sv_mul, sv_num, sv_num]
      have hz := addz_le (decide ((4611686018427387904 : Int) < 0) != decide ((c : Int) < 0)) (decide ((4611686018427387904 : Int) < 0) != decide ((c : Int) < 0)) ((4611686018427387904 : Int).natAbs * (c : Int).natAbs) ((4611686018427387904 : Int).natAbs * (c : Int).natAbs)
      have e3 := add_sv (decide ((4611686018427387904 : Int) < 0) != decide ((c : Int) < 0)) (decide ((4611686018427387904 : Int) < 0) != decide ((c : Int) < 0)) ((4611686018427387904 : Int).natAbs * (c : Int).natAbs) ((4611686018427387904 : Int).natAbs * (c : Int).natAbs)
      rw [e2] at e3
      exact walk_over a b c _ _ _ _ _ _ _ _ _ _ _ _ _ _ _ (by omega) (by omega) (by omega)
        (cmpv_up (x := sv _ _) (y := sv _ _) (by rw [e1, e3]; omega))
        hP2 (fun W => num_any a p1 p2 W) (fun W => num_any b r1 r2 W) (fun W => mul_any _ _ _ _ (by omega) (by omega) W) (fun W => num_any 4611686018427387904 (by omega) (by omega) W) (fun W => num_any c s1 s2 W)
        (fun W => mul_any _ _ _ _ (by omega) (by omega) W) (fun W => add_any _ _ _ _ (by omega) (by omega) W)
        (fun W => cmp_any _ _ _ _ (by omega) (by omega) W) w

/-! ### THE ROW's STEP: WRITTEN OUT: LEAVE IT -/
set_option maxRecDepth 100000 in
theorem lifted (os : Os) (started : os.Started) (H : Type) (enc : TypeId × Value → H) :
    ReturnsInHanded {} Try.checked os 7 .any (Rows.arithPartsSpec.pre6 enc Try.prog Try.f7 Rows.arithPartsRow.domain false) (Rows.arithPartsSpec.post enc Try.prog Try.f7 false true false false) := by
  refine returnsInHanded_of_change (C := Try.checked) own started (by kernel_rfl) Try.func7
    (ChangeSpec.witness6 (enc := enc) (C := Try.checked) false ⟨#[], #[.int .i64 0, .int .i64 0, .int .i64 0], []⟩ 8 (by kernel_rfl) (by kernel_rfl) (by kernel_rfl) (by kernel_rfl)) ?_
  intro W base args ds gs before hval0 hW hcnd _
  have hval : ∀ (j : Nat) t v, Try.f7.params[j]? = some t → args[j]? = some v → Value.okWide Try.prog W .any base t v := hval0
  have hW' := hW
  obtain ⟨p, q, hA0, hV, rfl, hfz, hnd⟩ := hW
  have hA : DataW.TrodAll enc Try.prog W 0 (fun _ => true) true Try.f7.params.toList args.toList ds p := hA0
  rw [Try.params7] at hA hval
  obtain ⟨v0, vs0, d0, ds0, p0, q0, hargs, rfl, rfl, h0, r0⟩ := trodAll_cons hA
  obtain ⟨v1, vs1, d1, ds1, p1, q1, rfl, rfl, rfl, h1, r1⟩ := trodAll_cons r0
  obtain ⟨v2, vs2, d2, ds2, p2, q2, rfl, rfl, rfl, h2, r2⟩ := trodAll_cons r1
  obtain ⟨rfl, rfl, rfl⟩ := trodAll_nil r2
  obtain rfl : args = #[v0, v1, v2] := by cases args; simp_all
  obtain ⟨rfl, rfl⟩ := trodVars_none hV
  obtain ⟨a0, rfl, rfl, rfl, w0⟩ := open_int Try.underlying3 (hval 0 3 v0 rfl rfl) h0
  obtain ⟨a1, rfl, rfl, rfl, w1⟩ := open_int Try.underlying3 (hval 1 3 v1 rfl rfl) h1
  obtain ⟨a2, rfl, rfl, rfl, w2⟩ := open_int Try.underlying3 (hval 2 3 v2 rfl rfl) h2
  clear hA0 hval0
  simp only [List.append_nil] at hW'
  refine (walk a0 a1 a2 w0 w1 w2 W).mono fun e W' ⟨he, hg⟩ => ?_
  subst he
  exact ⟨_, rfl, _, _, _, [], _, [], hW', trodAll_mk1 (shut_bool Try.underlying4 _), (trodAll_cons_mk (shut_int Try.underlying3 w0) (trodAll_cons_mk (shut_int Try.underlying3 w1) (trodAll_cons_mk (shut_int Try.underlying3 w2) trodAll_mk0))), rfl, hg.frame _, fun h => by cases h⟩

theorem over : Rows.arithPartsRow.holds Try.pinned (OpenSpec.ofChange Rows.arithPartsSpec) :=
  OpenClaim.holds_of_wide 7 Try.f7 rfl rfl rfl rfl rfl rfl rfl ⟨rfl, rfl, rfl, rfl, rfl⟩ rfl rfl rfl rfl rfl (by kernel_rfl) Try.func7 (by kernel_rfl)
    (of_decide_eq_true (by kernel_rfl)) (by unfold Func.isWrapper; first | (rw [if_pos (by decide +kernel)]; kernel_rfl) | (rw [if_neg (by decide +kernel)]; exact ⟨rfl, rfl⟩))
    (fun os started H enc _ => lifted os started H enc)

/-- ████ THE STATEMENT ████ -/
theorem proved : Rows.ArithPartsSaid :=
  over
#print axioms proved
end Go.Proofs.Ytbcffefailhacaa.arithParts

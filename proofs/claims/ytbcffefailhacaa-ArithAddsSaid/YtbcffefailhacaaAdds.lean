/-
  For every two ints, kurganlaw01.ArithAdds answers true and leaves both as they were: sums, differences, products and opposites are told, or that no int is it. No condition.
-/
import Derived.Test.YtbcffefailhacaaRows
import Derived.Test.YtbcffefailhacaaFar2
import Derived.WalkKit
import Derived.ProofKit
import Derived.OpenShut
namespace Go.Proofs.Ytbcffefailhacaa.arithAdds
open Go.ChangeShapes Go.WideShapes Go.ChangeAt Go.RowKit
set_option linter.unusedVariables false      -- a walk need not use every 'w<i>' (that an integer argument fits its kind)

theorem own : ownKnob Try.prog.godebug = none := by kernel_rfl


theorem two_more {w W w1 : World} {m n : Bool} {x y g h : Nat} (hb : Below W.heap.size W w1) (q : W.heap[g]? = some (.cells #[.bool m, .int .i64 (dg x 0), .int .i64 (dg x 1), .int .i64 (dg x 2), .int .i64 (dg x 3), .int .i64 (dg x 4), .int .i64 (dg x 5), .int .i64 (dg x 6), .int .i64 (dg x 7), .int .i64 (dg x 8)] 28 (0, 0)) ∧ W.heap[h]? = some (.cells #[.bool n, .int .i64 (dg y 0), .int .i64 (dg y 1), .int .i64 (dg y 2), .int .i64 (dg y 3), .int .i64 (dg y 4), .int .i64 (dg y 5), .int .i64 (dg y 6), .int .i64 (dg y 7), .int .i64 (dg y 8)] 28 (0, 0)) ∧ Below w.heap.size w W) : w1.heap[g]? = some (.cells #[.bool m, .int .i64 (dg x 0), .int .i64 (dg x 1), .int .i64 (dg x 2), .int .i64 (dg x 3), .int .i64 (dg x 4), .int .i64 (dg x 5), .int .i64 (dg x 6), .int .i64 (dg x 7), .int .i64 (dg x 8)] 28 (0, 0)) ∧ w1.heap[h]? = some (.cells #[.bool n, .int .i64 (dg y 0), .int .i64 (dg y 1), .int .i64 (dg y 2), .int .i64 (dg y 3), .int .i64 (dg y 4), .int .i64 (dg y 5), .int .i64 (dg y 6), .int .i64 (dg y 7), .int .i64 (dg y 8)] 28 (0, 0)) ∧ Below w.heap.size w w1 :=
  ⟨(hb.block _ (lt_heap q.1)).trans q.1, (hb.block _ (lt_heap q.2.1)).trans q.2.1, bl_tr q.2.2 hb⟩
set_option maxRecDepth 100000 in
set_option maxHeartbeats 1000000 in
theorem walk_core (a b s d p t : Int) (fs fd fp ft : Bool) (m n k1 k2 km : Bool) (x y z1 z2 zm : Nat)
    (H1 : ∀ W, Calls Try.prog 10 #[.int .i64 a, .int .i64 b] W fun e w' => e = .returned (.tuple #[.int .i64 s, .bool fs]) ∧ Below W.heap.size W w')
    (H2 : ∀ W, Calls Try.prog 11 #[.int .i64 a, .int .i64 b] W fun e w' => e = .returned (.tuple #[.int .i64 d, .bool fd]) ∧ Below W.heap.size W w')
    (H3 : ∀ W, Calls Try.prog 12 #[.int .i64 a, .int .i64 b] W fun e w' => e = .returned (.tuple #[.int .i64 p, .bool fp]) ∧ Below W.heap.size W w')
    (H4 : ∀ W, Calls Try.prog 13 #[.int .i64 a] W fun e w' => e = .returned (.tuple #[.int .i64 t, .bool ft]) ∧ Below W.heap.size W w')
    (N1 : ∀ W, Calls Try.prog 14 #[.int .i64 a] W fun e w' => e = .returned (.agg #[.bool m, .int .i64 (dg x 0), .int .i64 (dg x 1), .int .i64 (dg x 2), .int .i64 (dg x 3), .int .i64 (dg x 4), .int .i64 (dg x 5), .int .i64 (dg x 6), .int .i64 (dg x 7), .int .i64 (dg x 8)]) ∧ Below W.heap.size W w')
    (N2 : ∀ W, Calls Try.prog 14 #[.int .i64 b] W fun e w' => e = .returned (.agg #[.bool n, .int .i64 (dg y 0), .int .i64 (dg y 1), .int .i64 (dg y 2), .int .i64 (dg y 3), .int .i64 (dg y 4), .int .i64 (dg y 5), .int .i64 (dg y 6), .int .i64 (dg y 7), .int .i64 (dg y 8)]) ∧ Below W.heap.size W w')
    (A1 : ∀ W, Calls Try.prog 17 #[.agg #[.bool m, .int .i64 (dg x 0), .int .i64 (dg x 1), .int .i64 (dg x 2), .int .i64 (dg x 3), .int .i64 (dg x 4), .int .i64 (dg x 5), .int .i64 (dg x 6), .int .i64 (dg x 7), .int .i64 (dg x 8)], .agg #[.bool n, .int .i64 (dg y 0), .int .i64 (dg y 1), .int .i64 (dg y 2), .int .i64 (dg y 3), .int .i64 (dg y 4), .int .i64 (dg y 5), .int .i64 (dg y 6), .int .i64 (dg y 7), .int .i64 (dg y 8)]] W fun e w' => e = .returned (.agg #[.bool k1, .int .i64 (dg z1 0), .int .i64 (dg z1 1), .int .i64 (dg z1 2), .int .i64 (dg z1 3), .int .i64 (dg z1 4), .int .i64 (dg z1 5), .int .i64 (dg z1 6), .int .i64 (dg z1 7), .int .i64 (dg z1 8)]) ∧ Below W.heap.size W w')
    (A2 : ∀ W, Calls Try.prog 17 #[.agg #[.bool m, .int .i64 (dg x 0), .int .i64 (dg x 1), .int .i64 (dg x 2), .int .i64 (dg x 3), .int .i64 (dg x 4), .int .i64 (dg x 5), .int .i64 (dg x 6), .int .i64 (dg x 7), .int .i64 (dg x 8)], .agg #[.bool (!n), .int .i64 (dg y 0), .int .i64 (dg y 1), .int .i64 (dg y 2), .int .i64 (dg y 3), .int .i64 (dg y 4), .int .i64 (dg y 5), .int .i64 (dg y 6), .int .i64 (dg y 7), .int .i64 (dg y 8)]] W fun e w' => e = .returned (.agg #[.bool k2, .int .i64 (dg z2 0), .int .i64 (dg z2 1), .int .i64 (dg z2 2), .int .i64 (dg z2 3), .int .i64 (dg z2 4), .int .i64 (dg z2 5), .int .i64 (dg z2 6), .int .i64 (dg z2 7), .int .i64 (dg z2 8)]) ∧ Below W.heap.size W w')
    (M1 : ∀ W, Calls Try.prog 19 #[.agg #[.bool m, .int .i64 (dg x 0), .int .i64 (dg x 1), .int .i64 (dg x 2), .int .i64 (dg x 3), .int .i64 (dg x 4), .int .i64 (dg x 5), .int .i64 (dg x 6), .int .i64 (dg x 7), .int .i64 (dg x 8)], .agg #[.bool n, .int .i64 (dg y 0), .int .i64 (dg y 1), .int .i64 (dg y 2), .int .i64 (dg y 3), .int .i64 (dg y 4), .int .i64 (dg y 5), .int .i64 (dg y 6), .int .i64 (dg y 7), .int .i64 (dg y 8)]] W fun e w' => e = .returned (.agg #[.bool km, .int .i64 (dg zm 0), .int .i64 (dg zm 1), .int .i64 (dg zm 2), .int .i64 (dg zm 3), .int .i64 (dg zm 4), .int .i64 (dg zm 5), .int .i64 (dg zm 6), .int .i64 (dg zm 7), .int .i64 (dg zm 8)]) ∧ Below W.heap.size W w')
    (G1 : ∀ W, Calls Try.prog 18 #[.agg #[.bool n, .int .i64 (dg y 0), .int .i64 (dg y 1), .int .i64 (dg y 2), .int .i64 (dg y 3), .int .i64 (dg y 4), .int .i64 (dg y 5), .int .i64 (dg y 6), .int .i64 (dg y 7), .int .i64 (dg y 8)]] W fun e w' => e = .returned (.agg #[.bool (!n), .int .i64 (dg y 0), .int .i64 (dg y 1), .int .i64 (dg y 2), .int .i64 (dg y 3), .int .i64 (dg y 4), .int .i64 (dg y 5), .int .i64 (dg y 6), .int .i64 (dg y 7), .int .i64 (dg y 8)]) ∧ Below W.heap.size W w')
    (G2 : ∀ W, Calls Try.prog 18 #[.agg #[.bool m, .int .i64 (dg x 0), .int .i64 (dg x 1), .int .i64 (dg x 2), .int .i64 (dg x 3), .int .i64 (dg x 4), .int .i64 (dg x 5), .int .i64 (dg x 6), .int .i64 (dg x 7), .int .i64 (dg x 8)]] W fun e w' => e = .returned (.agg #[.bool (!m), .int .i64 (dg x 0), .int .i64 (dg x 1), .int .i64 (dg x 2), .int .i64 (dg x 3), .int .i64 (dg x 4), .int .i64 (dg x 5), .int .i64 (dg x 6), .int .i64 (dg x 7), .int .i64 (dg x 8)]) ∧ Below W.heap.size W w')
    (E1 : ∀ W, Calls Try.prog 16 #[.int .i64 s, .bool fs, .agg #[.bool k1, .int .i64 (dg z1 0), .int .i64 (dg z1 1), .int .i64 (dg z1 2), .int .i64 (dg z1 3), .int .i64 (dg z1 4), .int .i64 (dg z1 5), .int .i64 (dg z1 6), .int .i64 (dg z1 7), .int .i64 (dg z1 8)]] W fun e w' => e = .returned (.bool true) ∧ Below W.heap.size W w')
    (E2 : ∀ W, Calls Try.prog 16 #[.int .i64 d, .bool fd, .agg #[.bool k2, .int .i64 (dg z2 0), .int .i64 (dg z2 1), .int .i64 (dg z2 2), .int .i64 (dg z2 3), .int .i64 (dg z2 4), .int .i64 (dg z2 5), .int .i64 (dg z2 6), .int .i64 (dg z2 7), .int .i64 (dg z2 8)]] W fun e w' => e = .returned (.bool true) ∧ Below W.heap.size W w')
    (E3 : ∀ W, Calls Try.prog 16 #[.int .i64 p, .bool fp, .agg #[.bool km, .int .i64 (dg zm 0), .int .i64 (dg zm 1), .int .i64 (dg zm 2), .int .i64 (dg zm 3), .int .i64 (dg zm 4), .int .i64 (dg zm 5), .int .i64 (dg zm 6), .int .i64 (dg zm 7), .int .i64 (dg zm 8)]] W fun e w' => e = .returned (.bool true) ∧ Below W.heap.size W w')
    (E4 : ∀ W, Calls Try.prog 16 #[.int .i64 t, .bool ft, .agg #[.bool (!m), .int .i64 (dg x 0), .int .i64 (dg x 1), .int .i64 (dg x 2), .int .i64 (dg x 3), .int .i64 (dg x 4), .int .i64 (dg x 5), .int .i64 (dg x 6), .int .i64 (dg x 7), .int .i64 (dg x 8)]] W fun e w' => e = .returned (.bool true) ∧ Below W.heap.size W w')
    (w : World) : Calls Try.prog 3 #[.int .i64 a, .int .i64 b] w fun e w' => e = .returned (.bool true) ∧ Below w.heap.size w w' := by
  have H1h := Lib.hid H1; clear H1
  have H2h := Lib.hid H2; clear H2
  have H3h := Lib.hid H3; clear H3
  have H4h := Lib.hid H4; clear H4
  have N1h := Lib.hid N1; clear N1
  have N2h := Lib.hid N2; clear N2
  have A1h := Lib.hid A1; clear A1
  have A2h := Lib.hid A2; clear A2
  have M1h := Lib.hid M1; clear M1
  have G1h := Lib.hid G1; clear G1
  have G2h := Lib.hid G2; clear G2
  have E1h := Lib.hid E1; clear E1
  have E2h := Lib.hid E2; clear E2
  have E3h := Lib.hid E3; clear E3
  have E4h := Lib.hid E4; clear E4
  go_enter Try.func3, Try.ntmps3
  go_wp2_with fail
  refine (H1h.out _).mono ?_; rintro e w1 ⟨rfl, hb1⟩
  go_wp2_with fail
  refine (H2h.out _).mono ?_; rintro e w2 ⟨rfl, hb2⟩
  go_wp2_with fail
  refine (H3h.out _).mono ?_; rintro e w3 ⟨rfl, hb3⟩
  go_wp2_with fail
  refine (H4h.out _).mono ?_; rintro e w4 ⟨rfl, hb4⟩
  go_wp2_with fail
  refine (N1h.out _).mono ?_; rintro e w5 ⟨rfl, hb5⟩
  go_wp2_with fail
  refine (N2h.out _).mono ?_; rintro e w6 ⟨rfl, hb6⟩
  have bl := bl_tr (bl_tr (bl_tr (bl_tr (bl_tr hb1 hb2) hb3) hb4) hb5) hb6
  clear hb1 hb2 hb3 hb4 hb5 hb6
  go_wp2
  have S0 : (((w6.alloc (.cells #[.bool m, .int .i64 (dg x 0), .int .i64 (dg x 1), .int .i64 (dg x 2), .int .i64 (dg x 3), .int .i64 (dg x 4), .int .i64 (dg x 5), .int .i64 (dg x 6), .int .i64 (dg x 7), .int .i64 (dg x 8)] 28)).alloc (.cells #[.bool n, .int .i64 (dg y 0), .int .i64 (dg y 1), .int .i64 (dg y 2), .int .i64 (dg y 3), .int .i64 (dg y 4), .int .i64 (dg y 5), .int .i64 (dg y 6), .int .i64 (dg y 7), .int .i64 (dg y 8)] 28)).drew).heap[w6.heap.size]? = some (.cells #[.bool m, .int .i64 (dg x 0), .int .i64 (dg x 1), .int .i64 (dg x 2), .int .i64 (dg x 3), .int .i64 (dg x 4), .int .i64 (dg x 5), .int .i64 (dg x 6), .int .i64 (dg x 7), .int .i64 (dg x 8)] 28 (0, 0)) ∧ (((w6.alloc (.cells #[.bool m, .int .i64 (dg x 0), .int .i64 (dg x 1), .int .i64 (dg x 2), .int .i64 (dg x 3), .int .i64 (dg x 4), .int .i64 (dg x 5), .int .i64 (dg x 6), .int .i64 (dg x 7), .int .i64 (dg x 8)] 28)).alloc (.cells #[.bool n, .int .i64 (dg y 0), .int .i64 (dg y 1), .int .i64 (dg y 2), .int .i64 (dg y 3), .int .i64 (dg y 4), .int .i64 (dg y 5), .int .i64 (dg y 6), .int .i64 (dg y 7), .int .i64 (dg y 8)] 28)).drew).heap[(w6.heap.size + 1)]? = some (.cells #[.bool n, .int .i64 (dg y 0), .int .i64 (dg y 1), .int .i64 (dg y 2), .int .i64 (dg y 3), .int .i64 (dg y 4), .int .i64 (dg y 5), .int .i64 (dg y 6), .int .i64 (dg y 7), .int .i64 (dg y 8)] 28 (0, 0)) ∧ Below w.heap.size w (((w6.alloc (.cells #[.bool m, .int .i64 (dg x 0), .int .i64 (dg x 1), .int .i64 (dg x 2), .int .i64 (dg x 3), .int .i64 (dg x 4), .int .i64 (dg x 5), .int .i64 (dg x 6), .int .i64 (dg x 7), .int .i64 (dg x 8)] 28)).alloc (.cells #[.bool n, .int .i64 (dg y 0), .int .i64 (dg y 1), .int .i64 (dg y 2), .int .i64 (dg y 3), .int .i64 (dg y 4), .int .i64 (dg y 5), .int .i64 (dg y 6), .int .i64 (dg y 7), .int .i64 (dg y 8)] 28)).drew) := ⟨heap_alloc2_old w6 _ _, heap_alloc2_new w6 _ _, (bl_al (bl_al bl _) _).drew⟩
  refine wp_region_held_drew (S := fun w' => w'.heap[w6.heap.size]? = some (.cells #[.bool m, .int .i64 (dg x 0), .int .i64 (dg x 1), .int .i64 (dg x 2), .int .i64 (dg x 3), .int .i64 (dg x 4), .int .i64 (dg x 5), .int .i64 (dg x 6), .int .i64 (dg x 7), .int .i64 (dg x 8)] 28 (0, 0)) ∧ w'.heap[(w6.heap.size + 1)]? = some (.cells #[.bool n, .int .i64 (dg y 0), .int .i64 (dg y 1), .int .i64 (dg y 2), .int .i64 (dg y 3), .int .i64 (dg y 4), .int .i64 (dg y 5), .int .i64 (dg y 6), .int .i64 (dg y 7), .int .i64 (dg y 8)] 28 (0, 0)) ∧ Below w.heap.size w w') (by kernel_rfl) S0 (fun hHeld => ?_)
  clear S0 bl
  refine wpAnyH_ready (rs := [0]) (by kernel_rfl) (by simp) ?_
  refine AllReadyH.cons (by rw [List.getElem?_toArray]; rfl) (fun K hK => ?_) AllReadyH.nil
  have hHid := Lib.hid hHeld
  clear hHeld
  go_simp
  go_at_call 15; refine (counts_any _).mono ?_; rintro e v1 ⟨rfl, hb⟩
  have hNew := two_more hb hHid.out
  clear hb hHid
  have hNewH := Lib.hid hNew
  clear hNew
  go_wp2_with fail
  refine hK.out _ _ hNewH.out (fun hHeld => ?_)
  clear hK K hNewH
  refine wpAnyH_take (i := 1) (v := ?vax1) (by rw [List.getElem?_toArray]; rfl) (by kernel_rfl) (by kernel_rfl) (by kernel_rfl) ?qax1 (Or.inl ⟨by rfl, ?yax1⟩) (by assumption) ?rax1
  case qax1 => exact fun _ _ _ h => h
  case yax1 => (intro wz hSw; go_simp; try (with_reducible rfl))
  simp only [Act.put, List.setIfInBounds_toArray, List.set_cons_zero, List.set_cons_succ]
  refine wpAnyH_take (i := 2) (v := ?vax2) (by rw [List.getElem?_toArray]; rfl) (by kernel_rfl) (by kernel_rfl) (by kernel_rfl) ?qax2 (Or.inl ⟨by rfl, ?yax2⟩) (by assumption) ?rax2
  case qax2 => exact fun _ _ _ h => h
  case yax2 => (intro wz hSw; go_simp; try (with_reducible rfl))
  simp only [Act.put, List.setIfInBounds_toArray, List.set_cons_zero, List.set_cons_succ]
  refine wpAnyH_take (i := 3) (v := ?vax3) (by rw [List.getElem?_toArray]; rfl) (by kernel_rfl) (by kernel_rfl) (by kernel_rfl) ?qax3 (Or.inl ⟨by rfl, ?yax3⟩) (by assumption) ?rax3
  case qax3 => exact fun _ _ _ h => h
  case yax3 => (intro wz hSw; go_simp; try (with_reducible rfl))
  simp only [Act.put, List.setIfInBounds_toArray, List.set_cons_zero, List.set_cons_succ]
  refine' wpAnyH_take (i := 4) (v := _) (by rw [List.getElem?_toArray]; rfl) (by kernel_rfl) (by kernel_rfl) (by kernel_rfl) ?qax4 (yieldsIf_load_mid (by rfl) _ _ rfl _ _ rfl [.bool m, .int .i64 (dg x 0), .int .i64 (dg x 1), .int .i64 (dg x 2), .int .i64 (dg x 3), .int .i64 (dg x 4), .int .i64 (dg x 5), .int .i64 (dg x 6), .int .i64 (dg x 7), .int .i64 (dg x 8)] _ ?hSax4 ?huax4 ?hdax4 ?hiax4) (by assumption) ?restax4
  case qax4 => exact fun _ _ _ h => h
  case hSax4 => exact fun wz hSw => sg_whole hSw.1
  case huax4 => exact Try.underlying28
  case hdax4 => rfl
  case hiax4 => exact info28
  simp only [Act.put, List.setIfInBounds_toArray, List.set_cons_zero, List.set_cons_succ]
  refine' wpAnyH_take (i := 5) (v := _) (by rw [List.getElem?_toArray]; rfl) (by kernel_rfl) (by kernel_rfl) (by kernel_rfl) ?qax5 (yieldsIf_load_mid (by rfl) _ _ rfl _ _ rfl [.bool n, .int .i64 (dg y 0), .int .i64 (dg y 1), .int .i64 (dg y 2), .int .i64 (dg y 3), .int .i64 (dg y 4), .int .i64 (dg y 5), .int .i64 (dg y 6), .int .i64 (dg y 7), .int .i64 (dg y 8)] _ ?hSax5 ?huax5 ?hdax5 ?hiax5) (by assumption) ?restax5
  case qax5 => exact fun _ _ _ h => h
  case hSax5 => exact fun wz hSw => sg_whole hSw.2.1
  case huax5 => exact Try.underlying28
  case hdax5 => rfl
  case hiax5 => exact info28
  simp only [Act.put, List.setIfInBounds_toArray, List.set_cons_zero, List.set_cons_succ]
  refine wpAnyH_ready (rs := [6]) (by kernel_rfl) (by simp) ?_
  refine AllReadyH.cons (by rw [List.getElem?_toArray]; rfl) (fun K hK => ?_) AllReadyH.nil
  have hHid := Lib.hid hHeld
  clear hHeld
  go_simp
  go_at_call 17; refine (A1h.out _).mono ?_; rintro e v2 ⟨rfl, hb⟩
  have hNew := two_more hb hHid.out
  clear hb hHid
  have hNewH := Lib.hid hNew
  clear hNew
  go_wp2_with fail
  refine hK.out _ _ hNewH.out (fun hHeld => ?_)
  clear hK K hNewH
  refine wpAnyH_ready (rs := [7]) (by kernel_rfl) (by simp) ?_
  refine AllReadyH.cons (by rw [List.getElem?_toArray]; rfl) (fun K hK => ?_) AllReadyH.nil
  have hHid := Lib.hid hHeld
  clear hHeld
  go_simp
  go_at_call 16; refine (E1h.out _).mono ?_; rintro e v3 ⟨rfl, hb⟩
  have hNew := two_more hb hHid.out
  clear hb hHid
  have hNewH := Lib.hid hNew
  clear hNew
  go_wp2_with fail
  refine hK.out _ _ hNewH.out (fun hHeld => ?_)
  clear hK K hNewH
  refine wpAnyH_take (i := 8) (v := ?vax8) (by rw [List.getElem?_toArray]; rfl) (by kernel_rfl) (by kernel_rfl) (by kernel_rfl) ?qax8 (Or.inl ⟨by rfl, ?yax8⟩) (by assumption) ?rax8
  case qax8 => exact fun _ _ _ h => h
  case yax8 => (intro wz hSw; go_simp; try (with_reducible rfl))
  simp only [Act.put, List.setIfInBounds_toArray, List.set_cons_zero, List.set_cons_succ]
  refine wpAnyH_take (i := 9) (v := ?vax9) (by rw [List.getElem?_toArray]; rfl) (by kernel_rfl) (by kernel_rfl) (by kernel_rfl) ?qax9 (Or.inl ⟨by rfl, ?yax9⟩) (by assumption) ?rax9
  case qax9 => exact fun _ _ _ h => h
  case yax9 => (intro wz hSw; go_simp; try (with_reducible rfl))
  simp only [Act.put, List.setIfInBounds_toArray, List.set_cons_zero, List.set_cons_succ]
  refine wpAnyH_take (i := 10) (v := ?vax10) (by rw [List.getElem?_toArray]; rfl) (by kernel_rfl) (by kernel_rfl) (by kernel_rfl) ?qax10 (Or.inl ⟨by rfl, ?yax10⟩) (by assumption) ?rax10
  case qax10 => exact fun _ _ _ h => h
  case yax10 => (intro wz hSw; go_simp; try (with_reducible rfl))
  simp only [Act.put, List.setIfInBounds_toArray, List.set_cons_zero, List.set_cons_succ]
  refine wpAnyH_take (i := 11) (v := ?vax11) (by rw [List.getElem?_toArray]; rfl) (by kernel_rfl) (by kernel_rfl) (by kernel_rfl) ?qax11 (Or.inl ⟨by rfl, ?yax11⟩) (by assumption) ?rax11
  case qax11 => exact fun _ _ _ h => h
  case yax11 => (intro wz hSw; go_simp; try (with_reducible rfl))
  simp only [Act.put, List.setIfInBounds_toArray, List.set_cons_zero, List.set_cons_succ]
  refine' wpAnyH_take (i := 12) (v := _) (by rw [List.getElem?_toArray]; rfl) (by kernel_rfl) (by kernel_rfl) (by kernel_rfl) ?qax12 (yieldsIf_load_mid (by rfl) _ _ rfl _ _ rfl [.bool m, .int .i64 (dg x 0), .int .i64 (dg x 1), .int .i64 (dg x 2), .int .i64 (dg x 3), .int .i64 (dg x 4), .int .i64 (dg x 5), .int .i64 (dg x 6), .int .i64 (dg x 7), .int .i64 (dg x 8)] _ ?hSax12 ?huax12 ?hdax12 ?hiax12) (by assumption) ?restax12
  case qax12 => exact fun _ _ _ h => h
  case hSax12 => exact fun wz hSw => sg_whole hSw.1
  case huax12 => exact Try.underlying28
  case hdax12 => rfl
  case hiax12 => exact info28
  simp only [Act.put, List.setIfInBounds_toArray, List.set_cons_zero, List.set_cons_succ]
  refine' wpAnyH_take (i := 13) (v := _) (by rw [List.getElem?_toArray]; rfl) (by kernel_rfl) (by kernel_rfl) (by kernel_rfl) ?qax13 (yieldsIf_load_mid (by rfl) _ _ rfl _ _ rfl [.bool n, .int .i64 (dg y 0), .int .i64 (dg y 1), .int .i64 (dg y 2), .int .i64 (dg y 3), .int .i64 (dg y 4), .int .i64 (dg y 5), .int .i64 (dg y 6), .int .i64 (dg y 7), .int .i64 (dg y 8)] _ ?hSax13 ?huax13 ?hdax13 ?hiax13) (by assumption) ?restax13
  case qax13 => exact fun _ _ _ h => h
  case hSax13 => exact fun wz hSw => sg_whole hSw.2.1
  case huax13 => exact Try.underlying28
  case hdax13 => rfl
  case hiax13 => exact info28
  simp only [Act.put, List.setIfInBounds_toArray, List.set_cons_zero, List.set_cons_succ]
  refine wpAnyH_ready (rs := [14]) (by kernel_rfl) (by simp) ?_
  refine AllReadyH.cons (by rw [List.getElem?_toArray]; rfl) (fun K hK => ?_) AllReadyH.nil
  have hHid := Lib.hid hHeld
  clear hHeld
  go_simp
  go_at_call 18; refine (G1h.out _).mono ?_; rintro e v4 ⟨rfl, hb⟩
  have hNew := two_more hb hHid.out
  clear hb hHid
  have hNewH := Lib.hid hNew
  clear hNew
  go_wp2_with fail
  refine hK.out _ _ hNewH.out (fun hHeld => ?_)
  clear hK K hNewH
  refine wpAnyH_ready (rs := [15]) (by kernel_rfl) (by simp) ?_
  refine AllReadyH.cons (by rw [List.getElem?_toArray]; rfl) (fun K hK => ?_) AllReadyH.nil
  have hHid := Lib.hid hHeld
  clear hHeld
  go_simp
  go_at_call 17; refine (A2h.out _).mono ?_; rintro e v5 ⟨rfl, hb⟩
  have hNew := two_more hb hHid.out
  clear hb hHid
  have hNewH := Lib.hid hNew
  clear hNew
  go_wp2_with fail
  refine hK.out _ _ hNewH.out (fun hHeld => ?_)
  clear hK K hNewH
  refine wpAnyH_ready (rs := [16]) (by kernel_rfl) (by simp) ?_
  refine AllReadyH.cons (by rw [List.getElem?_toArray]; rfl) (fun K hK => ?_) AllReadyH.nil
  have hHid := Lib.hid hHeld
  clear hHeld
  go_simp
  go_at_call 16; refine (E2h.out _).mono ?_; rintro e v6 ⟨rfl, hb⟩
  have hNew := two_more hb hHid.out
  clear hb hHid
  have hNewH := Lib.hid hNew
  clear hNew
  go_wp2_with fail
  refine hK.out _ _ hNewH.out (fun hHeld => ?_)
  clear hK K hNewH
  refine wpAnyH_take (i := 17) (v := ?vax17) (by rw [List.getElem?_toArray]; rfl) (by kernel_rfl) (by kernel_rfl) (by kernel_rfl) ?qax17 (Or.inl ⟨by rfl, ?yax17⟩) (by assumption) ?rax17
  case qax17 => exact fun _ _ _ h => h
  case yax17 => (intro wz hSw; go_simp; try (with_reducible rfl))
  simp only [Act.put, List.setIfInBounds_toArray, List.set_cons_zero, List.set_cons_succ]
  refine wpAnyH_take (i := 18) (v := ?vax18) (by rw [List.getElem?_toArray]; rfl) (by kernel_rfl) (by kernel_rfl) (by kernel_rfl) ?qax18 (Or.inl ⟨by rfl, ?yax18⟩) (by assumption) ?rax18
  case qax18 => exact fun _ _ _ h => h
  case yax18 => (intro wz hSw; go_simp; try (with_reducible rfl))
  simp only [Act.put, List.setIfInBounds_toArray, List.set_cons_zero, List.set_cons_succ]
  refine wpAnyH_take (i := 19) (v := ?vax19) (by rw [List.getElem?_toArray]; rfl) (by kernel_rfl) (by kernel_rfl) (by kernel_rfl) ?qax19 (Or.inl ⟨by rfl, ?yax19⟩) (by assumption) ?rax19
  case qax19 => exact fun _ _ _ h => h
  case yax19 => (intro wz hSw; go_simp; try (with_reducible rfl))
  simp only [Act.put, List.setIfInBounds_toArray, List.set_cons_zero, List.set_cons_succ]
  refine wpAnyH_take (i := 20) (v := ?vax20) (by rw [List.getElem?_toArray]; rfl) (by kernel_rfl) (by kernel_rfl) (by kernel_rfl) ?qax20 (Or.inl ⟨by rfl, ?yax20⟩) (by assumption) ?rax20
  case qax20 => exact fun _ _ _ h => h
  case yax20 => (intro wz hSw; go_simp; try (with_reducible rfl))
  simp only [Act.put, List.setIfInBounds_toArray, List.set_cons_zero, List.set_cons_succ]
  refine' wpAnyH_take (i := 21) (v := _) (by rw [List.getElem?_toArray]; rfl) (by kernel_rfl) (by kernel_rfl) (by kernel_rfl) ?qax21 (yieldsIf_load_mid (by rfl) _ _ rfl _ _ rfl [.bool m, .int .i64 (dg x 0), .int .i64 (dg x 1), .int .i64 (dg x 2), .int .i64 (dg x 3), .int .i64 (dg x 4), .int .i64 (dg x 5), .int .i64 (dg x 6), .int .i64 (dg x 7), .int .i64 (dg x 8)] _ ?hSax21 ?huax21 ?hdax21 ?hiax21) (by assumption) ?restax21
  case qax21 => exact fun _ _ _ h => h
  case hSax21 => exact fun wz hSw => sg_whole hSw.1
  case huax21 => exact Try.underlying28
  case hdax21 => rfl
  case hiax21 => exact info28
  simp only [Act.put, List.setIfInBounds_toArray, List.set_cons_zero, List.set_cons_succ]
  refine' wpAnyH_take (i := 22) (v := _) (by rw [List.getElem?_toArray]; rfl) (by kernel_rfl) (by kernel_rfl) (by kernel_rfl) ?qax22 (yieldsIf_load_mid (by rfl) _ _ rfl _ _ rfl [.bool n, .int .i64 (dg y 0), .int .i64 (dg y 1), .int .i64 (dg y 2), .int .i64 (dg y 3), .int .i64 (dg y 4), .int .i64 (dg y 5), .int .i64 (dg y 6), .int .i64 (dg y 7), .int .i64 (dg y 8)] _ ?hSax22 ?huax22 ?hdax22 ?hiax22) (by assumption) ?restax22
  case qax22 => exact fun _ _ _ h => h
  case hSax22 => exact fun wz hSw => sg_whole hSw.2.1
  case huax22 => exact Try.underlying28
  case hdax22 => rfl
  case hiax22 => exact info28
  simp only [Act.put, List.setIfInBounds_toArray, List.set_cons_zero, List.set_cons_succ]
  refine wpAnyH_ready (rs := [23]) (by kernel_rfl) (by simp) ?_
  refine AllReadyH.cons (by rw [List.getElem?_toArray]; rfl) (fun K hK => ?_) AllReadyH.nil
  have hHid := Lib.hid hHeld
  clear hHeld
  go_simp
  go_at_call 19; refine (M1h.out _).mono ?_; rintro e v7 ⟨rfl, hb⟩
  have hNew := two_more hb hHid.out
  clear hb hHid
  have hNewH := Lib.hid hNew
  clear hNew
  go_wp2_with fail
  refine hK.out _ _ hNewH.out (fun hHeld => ?_)
  clear hK K hNewH
  refine wpAnyH_ready (rs := [24]) (by kernel_rfl) (by simp) ?_
  refine AllReadyH.cons (by rw [List.getElem?_toArray]; rfl) (fun K hK => ?_) AllReadyH.nil
  have hHid := Lib.hid hHeld
  clear hHeld
  go_simp
  go_at_call 16; refine (E3h.out _).mono ?_; rintro e v8 ⟨rfl, hb⟩
  have hNew := two_more hb hHid.out
  clear hb hHid
  have hNewH := Lib.hid hNew
  clear hNew
  go_wp2_with fail
  refine hK.out _ _ hNewH.out (fun hHeld => ?_)
  clear hK K hNewH
  refine wpAnyH_take (i := 25) (v := ?vax25) (by rw [List.getElem?_toArray]; rfl) (by kernel_rfl) (by kernel_rfl) (by kernel_rfl) ?qax25 (Or.inl ⟨by rfl, ?yax25⟩) (by assumption) ?rax25
  case qax25 => exact fun _ _ _ h => h
  case yax25 => (intro wz hSw; go_simp; try (with_reducible rfl))
  simp only [Act.put, List.setIfInBounds_toArray, List.set_cons_zero, List.set_cons_succ]
  refine wpAnyH_take (i := 26) (v := ?vax26) (by rw [List.getElem?_toArray]; rfl) (by kernel_rfl) (by kernel_rfl) (by kernel_rfl) ?qax26 (Or.inl ⟨by rfl, ?yax26⟩) (by assumption) ?rax26
  case qax26 => exact fun _ _ _ h => h
  case yax26 => (intro wz hSw; go_simp; try (with_reducible rfl))
  simp only [Act.put, List.setIfInBounds_toArray, List.set_cons_zero, List.set_cons_succ]
  refine wpAnyH_take (i := 27) (v := ?vax27) (by rw [List.getElem?_toArray]; rfl) (by kernel_rfl) (by kernel_rfl) (by kernel_rfl) ?qax27 (Or.inl ⟨by rfl, ?yax27⟩) (by assumption) ?rax27
  case qax27 => exact fun _ _ _ h => h
  case yax27 => (intro wz hSw; go_simp; try (with_reducible rfl))
  simp only [Act.put, List.setIfInBounds_toArray, List.set_cons_zero, List.set_cons_succ]
  refine wpAnyH_take (i := 28) (v := ?vax28) (by rw [List.getElem?_toArray]; rfl) (by kernel_rfl) (by kernel_rfl) (by kernel_rfl) ?qax28 (Or.inl ⟨by rfl, ?yax28⟩) (by assumption) ?rax28
  case qax28 => exact fun _ _ _ h => h
  case yax28 => (intro wz hSw; go_simp; try (with_reducible rfl))
  simp only [Act.put, List.setIfInBounds_toArray, List.set_cons_zero, List.set_cons_succ]
  refine' wpAnyH_take (i := 29) (v := _) (by rw [List.getElem?_toArray]; rfl) (by kernel_rfl) (by kernel_rfl) (by kernel_rfl) ?qax29 (yieldsIf_load_mid (by rfl) _ _ rfl _ _ rfl [.bool m, .int .i64 (dg x 0), .int .i64 (dg x 1), .int .i64 (dg x 2), .int .i64 (dg x 3), .int .i64 (dg x 4), .int .i64 (dg x 5), .int .i64 (dg x 6), .int .i64 (dg x 7), .int .i64 (dg x 8)] _ ?hSax29 ?huax29 ?hdax29 ?hiax29) (by assumption) ?restax29
  case qax29 => exact fun _ _ _ h => h
  case hSax29 => exact fun wz hSw => sg_whole hSw.1
  case huax29 => exact Try.underlying28
  case hdax29 => rfl
  case hiax29 => exact info28
  simp only [Act.put, List.setIfInBounds_toArray, List.set_cons_zero, List.set_cons_succ]
  refine wpAnyH_ready (rs := [30]) (by kernel_rfl) (by simp) ?_
  refine AllReadyH.cons (by rw [List.getElem?_toArray]; rfl) (fun K hK => ?_) AllReadyH.nil
  have hHid := Lib.hid hHeld
  clear hHeld
  go_simp
  go_at_call 18; refine (G2h.out _).mono ?_; rintro e v9 ⟨rfl, hb⟩
  have hNew := two_more hb hHid.out
  clear hb hHid
  have hNewH := Lib.hid hNew
  clear hNew
  go_wp2_with fail
  refine hK.out _ _ hNewH.out (fun hHeld => ?_)
  clear hK K hNewH
  refine wpAnyH_ready (rs := [31]) (by kernel_rfl) (by simp) ?_
  refine AllReadyH.cons (by rw [List.getElem?_toArray]; rfl) (fun K hK => ?_) AllReadyH.nil
  have hHid := Lib.hid hHeld
  clear hHeld
  go_simp
  go_at_call 16; refine (E4h.out _).mono ?_; rintro e v10 ⟨rfl, hb⟩
  have hNew := two_more hb hHid.out
  clear hb hHid
  have hNewH := Lib.hid hNew
  clear hNew
  go_wp2_with fail
  refine hK.out _ _ hNewH.out (fun hHeld => ?_)
  clear hK K hNewH
  refine wpAnyH_take (i := 32) (v := ?vax32) (by rw [List.getElem?_toArray]; rfl) (by kernel_rfl) (by kernel_rfl) (by kernel_rfl) ?qax32 (Or.inl ⟨by rfl, ?yax32⟩) (by assumption) ?rax32
  case qax32 => exact fun _ _ _ h => h
  case yax32 => (intro wz hSw; go_simp; try (with_reducible rfl))
  simp only [Act.put, List.setIfInBounds_toArray, List.set_cons_zero, List.set_cons_succ]
  refine wpAnyH_take (i := 33) (v := ?vax33) (by rw [List.getElem?_toArray]; rfl) (by kernel_rfl) (by kernel_rfl) (by kernel_rfl) ?qax33 (Or.inl ⟨by rfl, ?yax33⟩) (by assumption) ?rax33
  case qax33 => exact fun _ _ _ h => h
  case yax33 => (intro wz hSw; go_simp; try (with_reducible rfl))
  simp only [Act.put, List.setIfInBounds_toArray, List.set_cons_zero, List.set_cons_succ]
  refine wpAnyH_done (by kernel_rfl) ?_ _
  go_wp2
  go_ret
  exact ⟨rfl, hHeld.2.2⟩

theorem walk (a0 : Int) (a1 : Int) (w0 : (Lit.int .i64 a0).wf = true) (w1 : (Lit.int .i64 a1).wf = true) (w : World) :
    Calls Try.prog 3 #[.int .i64 a0, .int .i64 a1] w fun e w' => e = .returned (.bool true) ∧ Below w.heap.size w w' := by
  obtain ⟨p1, p2⟩ := bounds_i64 w0
  obtain ⟨r1, r2⟩ := bounds_i64 w1
  have b4 := B4; have b8 := B8; have b9 := B9; have b5 := B5
  have b89 : BB ^ 8 < BB ^ 9 := by decide
  have ha := abs_b a0 p1 p2; have hb := abs_b a1 r1 r2
  have hm := mul_bound ha hb
  have z1 := addz_le (decide (a0 < 0)) (decide (a1 < 0)) a0.natAbs a1.natAbs
  have z2 := addz_le (decide (a0 < 0)) (!decide (a1 < 0)) a0.natAbs a1.natAbs
  have s1 : sv (addk (decide (a0 < 0)) (decide (a1 < 0)) a0.natAbs a1.natAbs) (addz (decide (a0 < 0)) (decide (a1 < 0)) a0.natAbs a1.natAbs) = a0 + a1 := by rw [add_sv, sv_num, sv_num]
  have s2 : sv (addk (decide (a0 < 0)) (!decide (a1 < 0)) a0.natAbs a1.natAbs) (addz (decide (a0 < 0)) (!decide (a1 < 0)) a0.natAbs a1.natAbs) = a0 - a1 := by rw [add_sv, sv_num, sv_neg, sv_num]; omega
  have s3 : sv (decide (a0 < 0) != decide (a1 < 0)) (a0.natAbs * a1.natAbs) = a0 * a1 := by rw [sv_mul, sv_num, sv_num]
  have s4 : sv (!decide (a0 < 0)) a0.natAbs = -a0 := by rw [sv_neg, sv_num]
  exact walk_core a0 a1 (fitv (a0 + a1)) (fitv (a0 - a1)) (fitv (a0 * a1)) (fitv (-a0)) (fits (a0 + a1)) (fits (a0 - a1)) (fits (a0 * a1)) (fits (-a0))
    (decide (a0 < 0)) (decide (a1 < 0)) (addk (decide (a0 < 0)) (decide (a1 < 0)) a0.natAbs a1.natAbs) (addk (decide (a0 < 0)) (!decide (a1 < 0)) a0.natAbs a1.natAbs) (decide (a0 < 0) != decide (a1 < 0))
    a0.natAbs a1.natAbs (addz (decide (a0 < 0)) (decide (a1 < 0)) a0.natAbs a1.natAbs) (addz (decide (a0 < 0)) (!decide (a1 < 0)) a0.natAbs a1.natAbs) (a0.natAbs * a1.natAbs)
    (fun W => add_fit a0 a1 p1 p2 r1 r2 W) (fun W => sub_fit a0 a1 p1 p2 r1 r2 W) (fun W => mul_fit a0 a1 p1 p2 r1 r2 W) (fun W => neg_fit a0 p1 p2 W)
    (fun W => num_any a0 p1 p2 W) (fun W => num_any a1 r1 r2 W)
    (fun W => add_any _ _ _ _ (by omega) (by omega) W) (fun W => add_any _ _ _ _ (by omega) (by omega) W) (fun W => mul_any _ _ _ _ (by omega) (by omega) W)
    (fun W => neg_any _ _ W) (fun W => neg_any _ _ W)
    (fun W => same_any _ _ _ _ (by omega) (by rw [s1]) (by rw [s1]) W) (fun W => same_any _ _ _ _ (by omega) (by rw [s2]) (by rw [s2]) W) (fun W => same_any _ _ _ _ (by omega) (by rw [s3]) (by rw [s3]) W) (fun W => same_any _ _ _ _ (by omega) (by rw [s4]) (by rw [s4]) W) w

/-! ### THE ROW's STEP: WRITTEN OUT: LEAVE IT -/
set_option maxRecDepth 100000 in
theorem lifted (os : Os) (started : os.Started) (H : Type) (enc : TypeId × Value → H) :
    ReturnsInHanded {} Try.checked os 3 .any (Rows.arithAddsSpec.pre6 enc Try.prog Try.f3 Rows.arithAddsRow.domain false) (Rows.arithAddsSpec.post enc Try.prog Try.f3 false true false false) := by
  refine returnsInHanded_of_change (C := Try.checked) own started (by kernel_rfl) Try.func3
    (ChangeSpec.witness6 (enc := enc) (C := Try.checked) false ⟨#[], #[.int .i64 0, .int .i64 0], []⟩ 8 (by kernel_rfl) (by kernel_rfl) (by kernel_rfl) (by kernel_rfl)) ?_
  intro W base args ds gs before hval0 hW hcnd _
  have hval : ∀ (j : Nat) t v, Try.f3.params[j]? = some t → args[j]? = some v → Value.okWide Try.prog W .any base t v := hval0
  have hW' := hW
  obtain ⟨p, q, hA0, hV, rfl, hfz, hnd⟩ := hW
  have hA : DataW.TrodAll enc Try.prog W 0 (fun _ => true) true Try.f3.params.toList args.toList ds p := hA0
  rw [Try.params3] at hA hval
  obtain ⟨v0, vs0, d0, ds0, p0, q0, hargs, rfl, rfl, h0, r0⟩ := trodAll_cons hA
  obtain ⟨v1, vs1, d1, ds1, p1, q1, rfl, rfl, rfl, h1, r1⟩ := trodAll_cons r0
  obtain ⟨rfl, rfl, rfl⟩ := trodAll_nil r1
  obtain rfl : args = #[v0, v1] := by cases args; simp_all
  obtain ⟨rfl, rfl⟩ := trodVars_none hV
  obtain ⟨a0, rfl, rfl, rfl, w0⟩ := open_int Try.underlying3 (hval 0 3 v0 rfl rfl) h0
  obtain ⟨a1, rfl, rfl, rfl, w1⟩ := open_int Try.underlying3 (hval 1 3 v1 rfl rfl) h1
  clear hA0 hval0
  simp only [List.append_nil] at hW'
  refine (walk a0 a1 w0 w1 W).mono fun e W' ⟨he, hg⟩ => ?_
  subst he
  exact ⟨_, rfl, _, _, _, [], _, [], hW', trodAll_mk1 (shut_bool Try.underlying4 _), (trodAll_cons_mk (shut_int Try.underlying3 w0) (trodAll_cons_mk (shut_int Try.underlying3 w1) trodAll_mk0)), rfl, hg.frame _, fun h => by cases h⟩

theorem over : Rows.arithAddsRow.holds Try.pinned (OpenSpec.ofChange Rows.arithAddsSpec) :=
  OpenClaim.holds_of_wide 3 Try.f3 rfl rfl rfl rfl rfl rfl rfl ⟨rfl, rfl, rfl, rfl, rfl⟩ rfl rfl rfl rfl rfl (by kernel_rfl) Try.func3 (by kernel_rfl)
    (of_decide_eq_true (by kernel_rfl)) (by unfold Func.isWrapper; first | (rw [if_pos (by decide +kernel)]; kernel_rfl) | (rw [if_neg (by decide +kernel)]; exact ⟨rfl, rfl⟩))
    (fun os started H enc _ => lifted os started H enc)

/-- ████ THE STATEMENT ████ -/
theorem proved : Rows.ArithAddsSaid :=
  over
#print axioms proved
end Go.Proofs.Ytbcffefailhacaa.arithAdds

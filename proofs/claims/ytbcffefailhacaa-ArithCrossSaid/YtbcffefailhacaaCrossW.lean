/-
  What the law package's ArithCross answers: true.
-/
import Derived.Test.YtbcffefailhacaaFar2
import Derived.OpenShut
namespace Go.Proofs.Ytbcffefailhacaa
namespace arithCross
open Go.RowKit
set_option linter.unusedVariables false


theorem c_more {w W w1 : World} {c d : Int} (hb : Below W.heap.size W w1) (q : W.heap[w.heap.size]? = some (.cells #[.int .i64 c, .int .i64 d] 41 (0, 0)) ∧ Below w.heap.size w W) : w1.heap[w.heap.size]? = some (.cells #[.int .i64 c, .int .i64 d] 41 (0, 0)) ∧ Below w.heap.size w w1 :=
  ⟨(hb.block _ (lt_heap q.1)).trans q.1, bl_tr q.2 hb⟩
set_option maxRecDepth 100000 in
set_option maxHeartbeats 1000000 in
theorem walk_core (a b c d x : Int) (x1 : -1 ≤ x) (x2 : x ≤ 1) (m1 m2 m3 m4 k1 k2 : Bool) (y1 y2 y3 y4 z1 z2 : Nat)
    (X1 : ∀ W, Calls Try.prog 23 #[.int .i64 a, .int .i64 b, .int .i64 c, .int .i64 d] W fun e w' => e = .returned (.int .i64 x) ∧ Below W.heap.size W w')
    (X2 : ∀ W, Calls Try.prog 23 #[.int .i64 c, .int .i64 d, .int .i64 a, .int .i64 b] W fun e w' => e = .returned (.int .i64 (-x)) ∧ Below W.heap.size W w')
    (N1 : ∀ W, Calls Try.prog 14 #[.int .i64 a] W fun e w' => e = .returned (.agg #[.bool m1, .int .i64 (dg y1 0), .int .i64 (dg y1 1), .int .i64 (dg y1 2), .int .i64 (dg y1 3), .int .i64 (dg y1 4), .int .i64 (dg y1 5), .int .i64 (dg y1 6), .int .i64 (dg y1 7), .int .i64 (dg y1 8)]) ∧ Below W.heap.size W w')
    (N2 : ∀ W, Calls Try.prog 14 #[.int .i64 b] W fun e w' => e = .returned (.agg #[.bool m2, .int .i64 (dg y2 0), .int .i64 (dg y2 1), .int .i64 (dg y2 2), .int .i64 (dg y2 3), .int .i64 (dg y2 4), .int .i64 (dg y2 5), .int .i64 (dg y2 6), .int .i64 (dg y2 7), .int .i64 (dg y2 8)]) ∧ Below W.heap.size W w')
    (N3 : ∀ W, Calls Try.prog 14 #[.int .i64 c] W fun e w' => e = .returned (.agg #[.bool m3, .int .i64 (dg y3 0), .int .i64 (dg y3 1), .int .i64 (dg y3 2), .int .i64 (dg y3 3), .int .i64 (dg y3 4), .int .i64 (dg y3 5), .int .i64 (dg y3 6), .int .i64 (dg y3 7), .int .i64 (dg y3 8)]) ∧ Below W.heap.size W w')
    (N4 : ∀ W, Calls Try.prog 14 #[.int .i64 d] W fun e w' => e = .returned (.agg #[.bool m4, .int .i64 (dg y4 0), .int .i64 (dg y4 1), .int .i64 (dg y4 2), .int .i64 (dg y4 3), .int .i64 (dg y4 4), .int .i64 (dg y4 5), .int .i64 (dg y4 6), .int .i64 (dg y4 7), .int .i64 (dg y4 8)]) ∧ Below W.heap.size W w')
    (M1 : ∀ W, Calls Try.prog 19 #[.agg #[.bool m1, .int .i64 (dg y1 0), .int .i64 (dg y1 1), .int .i64 (dg y1 2), .int .i64 (dg y1 3), .int .i64 (dg y1 4), .int .i64 (dg y1 5), .int .i64 (dg y1 6), .int .i64 (dg y1 7), .int .i64 (dg y1 8)], .agg #[.bool m2, .int .i64 (dg y2 0), .int .i64 (dg y2 1), .int .i64 (dg y2 2), .int .i64 (dg y2 3), .int .i64 (dg y2 4), .int .i64 (dg y2 5), .int .i64 (dg y2 6), .int .i64 (dg y2 7), .int .i64 (dg y2 8)]] W fun e w' => e = .returned (.agg #[.bool k1, .int .i64 (dg z1 0), .int .i64 (dg z1 1), .int .i64 (dg z1 2), .int .i64 (dg z1 3), .int .i64 (dg z1 4), .int .i64 (dg z1 5), .int .i64 (dg z1 6), .int .i64 (dg z1 7), .int .i64 (dg z1 8)]) ∧ Below W.heap.size W w')
    (M2 : ∀ W, Calls Try.prog 19 #[.agg #[.bool m3, .int .i64 (dg y3 0), .int .i64 (dg y3 1), .int .i64 (dg y3 2), .int .i64 (dg y3 3), .int .i64 (dg y3 4), .int .i64 (dg y3 5), .int .i64 (dg y3 6), .int .i64 (dg y3 7), .int .i64 (dg y3 8)], .agg #[.bool m4, .int .i64 (dg y4 0), .int .i64 (dg y4 1), .int .i64 (dg y4 2), .int .i64 (dg y4 3), .int .i64 (dg y4 4), .int .i64 (dg y4 5), .int .i64 (dg y4 6), .int .i64 (dg y4 7), .int .i64 (dg y4 8)]] W fun e w' => e = .returned (.agg #[.bool k2, .int .i64 (dg z2 0), .int .i64 (dg z2 1), .int .i64 (dg z2 2), .int .i64 (dg z2 3), .int .i64 (dg z2 4), .int .i64 (dg z2 5), .int .i64 (dg z2 6), .int .i64 (dg z2 7), .int .i64 (dg z2 8)]) ∧ Below W.heap.size W w')
    (CM : ∀ W, Calls Try.prog 21 #[.agg #[.bool k1, .int .i64 (dg z1 0), .int .i64 (dg z1 1), .int .i64 (dg z1 2), .int .i64 (dg z1 3), .int .i64 (dg z1 4), .int .i64 (dg z1 5), .int .i64 (dg z1 6), .int .i64 (dg z1 7), .int .i64 (dg z1 8)], .agg #[.bool k2, .int .i64 (dg z2 0), .int .i64 (dg z2 1), .int .i64 (dg z2 2), .int .i64 (dg z2 3), .int .i64 (dg z2 4), .int .i64 (dg z2 5), .int .i64 (dg z2 6), .int .i64 (dg z2 7), .int .i64 (dg z2 8)]] W fun e w' => e = .returned (.int .i64 x) ∧ Below W.heap.size W w')
    (w : World) : Calls Try.prog 6 #[.int .i64 a, .int .i64 b, .agg #[.int .i64 c, .int .i64 d]] w fun e w' => e = .returned (.bool true) ∧ Below w.heap.size w w' := by
  have X1h := Lib.hid X1; clear X1
  have X2h := Lib.hid X2; clear X2
  have N1h := Lib.hid N1; clear N1
  have N2h := Lib.hid N2; clear N2
  have N3h := Lib.hid N3; clear N3
  have N4h := Lib.hid N4; clear N4
  have M1h := Lib.hid M1; clear M1
  have M2h := Lib.hid M2; clear M2
  have CMh := Lib.hid CM; clear CM
  have wn : IntKind.i64.wrap (-x) = -x := IntWalk.i64_in _ (by omega)
  go_enter Try.func6, Try.ntmps6
  go_wp2_with fail
  refine (X1h.out _).mono ?_; rintro e w1 ⟨rfl, hb1⟩
  have bl := bl_tr (bl_al (Below.refl w.heap.size w) (.cells #[.int .i64 c, .int .i64 d] 41)) hb1
  have h0 := new_keep hb1
  clear hb1
  go_wp2
  have S0 : w1.drew.heap[w.heap.size]? = some (.cells #[.int .i64 c, .int .i64 d] 41 (0, 0)) ∧ Below w.heap.size w w1.drew := ⟨h0, bl.drew⟩
  refine wp_region_held_drew (S := fun w' => w'.heap[w.heap.size]? = some (.cells #[.int .i64 c, .int .i64 d] 41 (0, 0)) ∧ Below w.heap.size w w') (by kernel_rfl) S0 (fun hHeld => ?_)
  clear S0 bl h0
  refine wpAnyH_ready (rs := [0]) (by kernel_rfl) (by simp) ?_
  refine AllReadyH.cons (by rw [List.getElem?_toArray]; rfl) (fun K hK => ?_) AllReadyH.nil
  have hHid := Lib.hid hHeld
  clear hHeld
  go_simp
  go_at_call 15; refine (counts_any _).mono ?_; rintro e v1 ⟨rfl, hb⟩
  have hNew := c_more hb hHid.out
  clear hb hHid
  have hNewH := Lib.hid hNew
  clear hNew
  go_wp2_with fail
  refine hK.out _ _ hNewH.out (fun hHeld => ?_)
  clear hK K hNewH
  refine wpAnyH_take (i := 1) (v := ?vax1) (by rw [List.getElem?_toArray]; rfl) (by kernel_rfl) (by kernel_rfl) (by kernel_rfl) ?qax1 (Or.inl ⟨by rfl, ?yax1⟩) (by assumption) ?rax1
  case qax1 => exact fun _ _ _ h => h
  case yax1 => (intro wz hSw; go_simp; try (with_reducible rfl))
  simp only [Act.put, List.setIfInBounds_toArray, List.set_cons_zero, List.set_cons_succ]
  refine wpAnyH_take (i := 2) (v := ?vax2) (by rw [List.getElem?_toArray]; rfl) (by kernel_rfl) (by kernel_rfl) (by kernel_rfl) ?qax2 (Or.inl ⟨by rfl, ?yax2⟩) (by assumption) ?rax2
  case qax2 => exact fun _ _ _ h => h
  case yax2 => (intro wz hSw; go_simp; try (with_reducible rfl))
  simp only [Act.put, List.setIfInBounds_toArray, List.set_cons_zero, List.set_cons_succ]
  refine wpAnyH_take (i := 3) (v := ?vax3) (by rw [List.getElem?_toArray]; rfl) (by kernel_rfl) (by kernel_rfl) (by kernel_rfl) ?qax3 (Or.inl ⟨by rfl, ?yax3⟩) (by assumption) ?rax3
  case qax3 => exact fun _ _ _ h => h
  case yax3 => (intro wz hSw; go_simp; try (with_reducible rfl))
  simp only [Act.put, List.setIfInBounds_toArray, List.set_cons_zero, List.set_cons_succ]
  refine wpAnyH_take (i := 5) (v := ?vax5) (by rw [List.getElem?_toArray]; rfl) (by kernel_rfl) (by kernel_rfl) (by kernel_rfl) ?qax5 (Or.inl ⟨by rfl, ?yax5⟩) (by assumption) ?rax5
  case qax5 => exact fun _ _ _ h => h
  case yax5 => (intro wz hSw; go_simp; try (with_reducible rfl))
  simp only [Act.put, List.setIfInBounds_toArray, List.set_cons_zero, List.set_cons_succ]
  refine wpAnyH_take (i := 8) (v := ?vax8) (by rw [List.getElem?_toArray]; rfl) (by kernel_rfl) (by kernel_rfl) (by kernel_rfl) ?qax8 (Or.inl ⟨by rfl, ?yax8⟩) (by assumption) ?rax8
  case qax8 => exact fun _ _ _ h => h
  case yax8 => (intro wz hSw; go_simp; try (with_reducible rfl))
  simp only [Act.put, List.setIfInBounds_toArray, List.set_cons_zero, List.set_cons_succ]
  refine wpAnyH_take (i := 9) (v := ?vax9) (by rw [List.getElem?_toArray]; rfl) (by kernel_rfl) (by kernel_rfl) (by kernel_rfl) ?qax9 (Or.inl ⟨by rfl, ?yax9⟩) (by assumption) ?rax9
  case qax9 => exact fun _ _ _ h => h
  case yax9 => (intro wz hSw; have cc := cell_of_row wz _ 0 _ _ _ hSw.1; simp at cc; go_simp; try (with_reducible rfl))
  simp only [Act.put, List.setIfInBounds_toArray, List.set_cons_zero, List.set_cons_succ]
  refine wpAnyH_take (i := 11) (v := ?vax11) (by rw [List.getElem?_toArray]; rfl) (by kernel_rfl) (by kernel_rfl) (by kernel_rfl) ?qax11 (Or.inl ⟨by rfl, ?yax11⟩) (by assumption) ?rax11
  case qax11 => exact fun _ _ _ h => h
  case yax11 => (intro wz hSw; go_simp; try (with_reducible rfl))
  simp only [Act.put, List.setIfInBounds_toArray, List.set_cons_zero, List.set_cons_succ]
  refine wpAnyH_take (i := 12) (v := ?vax12) (by rw [List.getElem?_toArray]; rfl) (by kernel_rfl) (by kernel_rfl) (by kernel_rfl) ?qax12 (Or.inl ⟨by rfl, ?yax12⟩) (by assumption) ?rax12
  case qax12 => exact fun _ _ _ h => h
  case yax12 => (intro wz hSw; have cc := cell_of_row wz _ 1 _ _ _ hSw.1; simp at cc; go_simp; try (with_reducible rfl))
  simp only [Act.put, List.setIfInBounds_toArray, List.set_cons_zero, List.set_cons_succ]
  refine wpAnyH_ready (rs := [4]) (by kernel_rfl) (by simp) ?_
  refine AllReadyH.cons (by rw [List.getElem?_toArray]; rfl) (fun K hK => ?_) AllReadyH.nil
  have hHid := Lib.hid hHeld
  clear hHeld
  go_simp
  go_at_call 14; refine (N1h.out _).mono ?_; rintro e v2 ⟨rfl, hb⟩
  have hNew := c_more hb hHid.out
  clear hb hHid
  have hNewH := Lib.hid hNew
  clear hNew
  go_wp2_with fail
  refine hK.out _ _ hNewH.out (fun hHeld => ?_)
  clear hK K hNewH
  refine wpAnyH_ready (rs := [6]) (by kernel_rfl) (by simp) ?_
  refine AllReadyH.cons (by rw [List.getElem?_toArray]; rfl) (fun K hK => ?_) AllReadyH.nil
  have hHid := Lib.hid hHeld
  clear hHeld
  go_simp
  go_at_call 14; refine (N2h.out _).mono ?_; rintro e v3 ⟨rfl, hb⟩
  have hNew := c_more hb hHid.out
  clear hb hHid
  have hNewH := Lib.hid hNew
  clear hNew
  go_wp2_with fail
  refine hK.out _ _ hNewH.out (fun hHeld => ?_)
  clear hK K hNewH
  refine wpAnyH_ready (rs := [7]) (by kernel_rfl) (by simp) ?_
  refine AllReadyH.cons (by rw [List.getElem?_toArray]; rfl) (fun K hK => ?_) AllReadyH.nil
  have hHid := Lib.hid hHeld
  clear hHeld
  go_simp
  go_at_call 19; refine (M1h.out _).mono ?_; rintro e v4 ⟨rfl, hb⟩
  have hNew := c_more hb hHid.out
  clear hb hHid
  have hNewH := Lib.hid hNew
  clear hNew
  go_wp2_with fail
  refine hK.out _ _ hNewH.out (fun hHeld => ?_)
  clear hK K hNewH
  refine wpAnyH_ready (rs := [10]) (by kernel_rfl) (by simp) ?_
  refine AllReadyH.cons (by rw [List.getElem?_toArray]; rfl) (fun K hK => ?_) AllReadyH.nil
  have hHid := Lib.hid hHeld
  clear hHeld
  go_simp
  go_at_call 14; refine (N3h.out _).mono ?_; rintro e v5 ⟨rfl, hb⟩
  have hNew := c_more hb hHid.out
  clear hb hHid
  have hNewH := Lib.hid hNew
  clear hNew
  go_wp2_with fail
  refine hK.out _ _ hNewH.out (fun hHeld => ?_)
  clear hK K hNewH
  refine wpAnyH_ready (rs := [13]) (by kernel_rfl) (by simp) ?_
  refine AllReadyH.cons (by rw [List.getElem?_toArray]; rfl) (fun K hK => ?_) AllReadyH.nil
  have hHid := Lib.hid hHeld
  clear hHeld
  go_simp
  go_at_call 14; refine (N4h.out _).mono ?_; rintro e v6 ⟨rfl, hb⟩
  have hNew := c_more hb hHid.out
  clear hb hHid
  have hNewH := Lib.hid hNew
  clear hNew
  go_wp2_with fail
  refine hK.out _ _ hNewH.out (fun hHeld => ?_)
  clear hK K hNewH
  refine wpAnyH_ready (rs := [14]) (by kernel_rfl) (by simp) ?_
  refine AllReadyH.cons (by rw [List.getElem?_toArray]; rfl) (fun K hK => ?_) AllReadyH.nil
  have hHid := Lib.hid hHeld
  clear hHeld
  go_simp
  go_at_call 19; refine (M2h.out _).mono ?_; rintro e v7 ⟨rfl, hb⟩
  have hNew := c_more hb hHid.out
  clear hb hHid
  have hNewH := Lib.hid hNew
  clear hNew
  go_wp2_with fail
  refine hK.out _ _ hNewH.out (fun hHeld => ?_)
  clear hK K hNewH
  refine wpAnyH_ready (rs := [15]) (by kernel_rfl) (by simp) ?_
  refine AllReadyH.cons (by rw [List.getElem?_toArray]; rfl) (fun K hK => ?_) AllReadyH.nil
  have hHid := Lib.hid hHeld
  clear hHeld
  go_simp
  go_at_call 21; refine (CMh.out _).mono ?_; rintro e v8 ⟨rfl, hb⟩
  have hNew := c_more hb hHid.out
  clear hb hHid
  have hNewH := Lib.hid hNew
  clear hNew
  go_wp2_with fail
  refine hK.out _ _ hNewH.out (fun hHeld => ?_)
  clear hK K hNewH
  refine wpAnyH_take (i := 16) (v := ?vax16) (by rw [List.getElem?_toArray]; rfl) (by kernel_rfl) (by kernel_rfl) (by kernel_rfl) ?qax16 (Or.inl ⟨by rfl, ?yax16⟩) (by assumption) ?rax16
  case qax16 => exact fun _ _ _ h => h
  case yax16 => (intro wz hSw; go_simp; try (with_reducible rfl))
  simp only [Act.put, List.setIfInBounds_toArray, List.set_cons_zero, List.set_cons_succ]
  refine wpAnyH_take (i := 17) (v := ?vax17) (by rw [List.getElem?_toArray]; rfl) (by kernel_rfl) (by kernel_rfl) (by kernel_rfl) ?qax17 (Or.inl ⟨by rfl, ?yax17⟩) (by assumption) ?rax17
  case qax17 => exact fun _ _ _ h => h
  case yax17 => (intro wz hSw; go_simp; try (with_reducible rfl))
  simp only [Act.put, List.setIfInBounds_toArray, List.set_cons_zero, List.set_cons_succ]
  refine wpAnyH_take (i := 18) (v := ?vax18) (by rw [List.getElem?_toArray]; rfl) (by kernel_rfl) (by kernel_rfl) (by kernel_rfl) ?qax18 (Or.inl ⟨by rfl, ?yax18⟩) (by assumption) ?rax18
  case qax18 => exact fun _ _ _ h => h
  case yax18 => (intro wz hSw; go_simp; try (with_reducible rfl))
  simp only [Act.put, List.setIfInBounds_toArray, List.set_cons_zero, List.set_cons_succ]
  refine wpAnyH_take (i := 19) (v := ?vax19) (by rw [List.getElem?_toArray]; rfl) (by kernel_rfl) (by kernel_rfl) (by kernel_rfl) ?qax19 (Or.inl ⟨by rfl, ?yax19⟩) (by assumption) ?rax19
  case qax19 => exact fun _ _ _ h => h
  case yax19 => (intro wz hSw; go_simp; try (with_reducible rfl))
  simp only [Act.put, List.setIfInBounds_toArray, List.set_cons_zero, List.set_cons_succ]
  refine wpAnyH_take (i := 20) (v := ?vax20) (by rw [List.getElem?_toArray]; rfl) (by kernel_rfl) (by kernel_rfl) (by kernel_rfl) ?qax20 (Or.inl ⟨by rfl, ?yax20⟩) (by assumption) ?rax20
  case qax20 => exact fun _ _ _ h => h
  case yax20 => (intro wz hSw; have cc := cell_of_row wz _ 0 _ _ _ hSw.1; simp at cc; go_simp; try (with_reducible rfl))
  simp only [Act.put, List.setIfInBounds_toArray, List.set_cons_zero, List.set_cons_succ]
  refine wpAnyH_take (i := 21) (v := ?vax21) (by rw [List.getElem?_toArray]; rfl) (by kernel_rfl) (by kernel_rfl) (by kernel_rfl) ?qax21 (Or.inl ⟨by rfl, ?yax21⟩) (by assumption) ?rax21
  case qax21 => exact fun _ _ _ h => h
  case yax21 => (intro wz hSw; go_simp; try (with_reducible rfl))
  simp only [Act.put, List.setIfInBounds_toArray, List.set_cons_zero, List.set_cons_succ]
  refine wpAnyH_take (i := 22) (v := ?vax22) (by rw [List.getElem?_toArray]; rfl) (by kernel_rfl) (by kernel_rfl) (by kernel_rfl) ?qax22 (Or.inl ⟨by rfl, ?yax22⟩) (by assumption) ?rax22
  case qax22 => exact fun _ _ _ h => h
  case yax22 => (intro wz hSw; have cc := cell_of_row wz _ 1 _ _ _ hSw.1; simp at cc; go_simp; try (with_reducible rfl))
  simp only [Act.put, List.setIfInBounds_toArray, List.set_cons_zero, List.set_cons_succ]
  refine wpAnyH_take (i := 23) (v := ?vax23) (by rw [List.getElem?_toArray]; rfl) (by kernel_rfl) (by kernel_rfl) (by kernel_rfl) ?qax23 (Or.inl ⟨by rfl, ?yax23⟩) (by assumption) ?rax23
  case qax23 => exact fun _ _ _ h => h
  case yax23 => (intro wz hSw; go_simp; try (with_reducible rfl))
  simp only [Act.put, List.setIfInBounds_toArray, List.set_cons_zero, List.set_cons_succ]
  refine wpAnyH_take (i := 24) (v := ?vax24) (by rw [List.getElem?_toArray]; rfl) (by kernel_rfl) (by kernel_rfl) (by kernel_rfl) ?qax24 (Or.inl ⟨by rfl, ?yax24⟩) (by assumption) ?rax24
  case qax24 => exact fun _ _ _ h => h
  case yax24 => (intro wz hSw; go_simp; try (with_reducible rfl))
  simp only [Act.put, List.setIfInBounds_toArray, List.set_cons_zero, List.set_cons_succ]
  refine wpAnyH_take (i := 26) (v := ?vax26) (by rw [List.getElem?_toArray]; rfl) (by kernel_rfl) (by kernel_rfl) (by kernel_rfl) ?qax26 (Or.inl ⟨by rfl, ?yax26⟩) (by assumption) ?rax26
  case qax26 => exact fun _ _ _ h => h
  case yax26 => (intro wz hSw; go_simp; try (with_reducible rfl))
  simp only [Act.put, List.setIfInBounds_toArray, List.set_cons_zero, List.set_cons_succ]
  refine wpAnyH_take (i := 27) (v := ?vax27) (by rw [List.getElem?_toArray]; rfl) (by kernel_rfl) (by kernel_rfl) (by kernel_rfl) ?qax27 (Or.inl ⟨by rfl, ?yax27⟩) (by assumption) ?rax27
  case qax27 => exact fun _ _ _ h => h
  case yax27 => (intro wz hSw; go_simp; try (with_reducible rfl))
  simp only [Act.put, List.setIfInBounds_toArray, List.set_cons_zero, List.set_cons_succ]
  refine wpAnyH_ready (rs := [25]) (by kernel_rfl) (by simp) ?_
  refine AllReadyH.cons (by rw [List.getElem?_toArray]; rfl) (fun K hK => ?_) AllReadyH.nil
  have hHid := Lib.hid hHeld
  clear hHeld
  go_simp
  go_at_call 23; refine (X2h.out _).mono ?_; rintro e v9 ⟨rfl, hb⟩
  have hNew := c_more hb hHid.out
  clear hb hHid
  have hNewH := Lib.hid hNew
  clear hNew
  go_wp2_with fail
  refine hK.out _ _ hNewH.out (fun hHeld => ?_)
  clear hK K hNewH
  refine wpAnyH_take (i := 28) (v := ?vax28) (by rw [List.getElem?_toArray]; rfl) (by kernel_rfl) (by kernel_rfl) (by kernel_rfl) ?qax28 (Or.inl ⟨by rfl, ?yax28⟩) (by assumption) ?rax28
  case qax28 => exact fun _ _ _ h => h
  case yax28 => (intro wz hSw; go_simp; try (with_reducible rfl))
  simp only [Act.put, List.setIfInBounds_toArray, List.set_cons_zero, List.set_cons_succ]
  refine wpAnyH_take (i := 29) (v := ?vax29) (by rw [List.getElem?_toArray]; rfl) (by kernel_rfl) (by kernel_rfl) (by kernel_rfl) ?qax29 (Or.inl ⟨by rfl, ?yax29⟩) (by assumption) ?rax29
  case qax29 => exact fun _ _ _ h => h
  case yax29 => (intro wz hSw; go_simp; try (with_reducible rfl))
  simp only [Act.put, List.setIfInBounds_toArray, List.set_cons_zero, List.set_cons_succ]
  refine wpAnyH_take (i := 30) (v := ?vax30) (by rw [List.getElem?_toArray]; rfl) (by kernel_rfl) (by kernel_rfl) (by kernel_rfl) ?qax30 (Or.inl ⟨by rfl, ?yax30⟩) (by assumption) ?rax30
  case qax30 => exact fun _ _ _ h => h
  case yax30 => (intro wz hSw; go_simp; try (with_reducible rfl))
  simp only [Act.put, List.setIfInBounds_toArray, List.set_cons_zero, List.set_cons_succ]
  refine wpAnyH_done (by kernel_rfl) ?_ _
  go_wp2
  go_ret
  exact ⟨rfl, hHeld.2⟩
theorem cmpv_b (a b : Int) : -1 ≤ cmpv a b ∧ cmpv a b ≤ 1 := by
  by_cases h : a < b
  · unfold cmpv; rw [if_pos h]; omega
  · by_cases h2 : a = b
    · unfold cmpv; rw [if_neg h, if_pos h2]; omega
    · unfold cmpv; rw [if_neg h, if_neg h2]; omega
theorem cmpv_turn (a b : Int) : cmpv b a = -cmpv a b := by
  unfold cmpv
  rcases Int.lt_trichotomy a b with h | h | h
  · rw [if_neg (by omega), if_neg (by omega), if_pos h]; rfl
  · rw [if_neg (by omega), if_pos h.symm, if_neg (by omega), if_pos h]; rfl
  · rw [if_pos h, if_neg (by omega), if_neg (by omega)]
theorem walk (a b c d : Int) (w0 : (Lit.int .i64 a).wf = true) (w1 : (Lit.int .i64 b).wf = true) (w2 : (Lit.int .i64 c).wf = true) (w3 : (Lit.int .i64 d).wf = true) (w : World) :
    Calls Try.prog 6 #[.int .i64 a, .int .i64 b, .agg #[.int .i64 c, .int .i64 d]] w fun e w' => e = .returned (.bool true) ∧ Below w.heap.size w w' := by
  obtain ⟨a1, a2⟩ := bounds_i64 w0
  obtain ⟨b1, b2⟩ := bounds_i64 w1
  obtain ⟨c1, c2⟩ := bounds_i64 w2
  obtain ⟨d1, d2⟩ := bounds_i64 w3
  have p4 := B4; have p8 := B8; have p5 := B5
  have ha := abs_b a a1 a2; have hb := abs_b b b1 b2; have hc := abs_b c c1 c2; have hd := abs_b d d1 d2
  have hm1 := mul_bound ha hb
  have hm2 := mul_bound hc hd
  have e1 : sv (decide (a < 0) != decide (b < 0)) (a.natAbs * b.natAbs) = a * b := by rw [sv_mul, sv_num, sv_num]
  have e2 : sv (decide (c < 0) != decide (d < 0)) (c.natAbs * d.natAbs) = c * d := by rw [sv_mul, sv_num, sv_num]
  obtain ⟨x1, x2⟩ := cmpv_b (a * b) (c * d)
  refine walk_core a b c d (cmpv (a * b) (c * d)) x1 x2 _ _ _ _ _ _ _ _ _ _ _ _ (fun W => cross_any a b c d a1 a2 b1 b2 c1 c2 d1 d2 W) (fun W => ?_)
    (fun W => num_any a a1 a2 W) (fun W => num_any b b1 b2 W) (fun W => num_any c c1 c2 W) (fun W => num_any d d1 d2 W)
    (fun W => mul_any _ _ _ _ (by omega) (by omega) W) (fun W => mul_any _ _ _ _ (by omega) (by omega) W) (fun W => ?_) w
  · rw [← cmpv_turn]; exact cross_any c d a b c1 c2 d1 d2 a1 a2 b1 b2 W
  · have h := cmp_any (decide (a < 0) != decide (b < 0)) (decide (c < 0) != decide (d < 0)) (a.natAbs * b.natAbs) (c.natAbs * d.natAbs) (by omega) (by omega) W
    rw [e1, e2] at h; exact h
end arithCross
end Go.Proofs.Ytbcffefailhacaa

/-
  What the reference's Cmp answers.
-/
import Derived.Test.YteceibafagekiaaArSame
import Derived.Test.YteceibafagekiaaArSgA
import Derived.Test.YteceibafagekiaaArSgB
namespace Go.Proofs.Yteceibafagekiaa.ar
open Go.RowKit
set_option linter.unusedVariables false


theorem info28 : (Try.prog.info? 58).map (·.size) = some 10 := by kernel_rfl
theorem sg_whole {w : World} {g : Nat} {m : Bool} {x : Nat} (h : w.heap[g]? = some (.cells #[.bool m, .int .i64 (dg x 0), .int .i64 (dg x 1), .int .i64 (dg x 2), .int .i64 (dg x 3), .int .i64 (dg x 4), .int .i64 (dg x 5), .int .i64 (dg x 6), .int .i64 (dg x 7), .int .i64 (dg x 8)] 58 (0, 0))) : w.rangeAt g 0 [.bool m, .int .i64 (dg x 0), .int .i64 (dg x 1), .int .i64 (dg x 2), .int .i64 (dg x 3), .int .i64 (dg x 4), .int .i64 (dg x 5), .int .i64 (dg x 6), .int .i64 (dg x 7), .int .i64 (dg x 8)] := by
  intro j v hj
  rw [cell_of_row _ _ _ _ _ _ h]
  rcases j with _ | _ | _ | _ | _ | _ | _ | _ | _ | _ | j
  all_goals first | (simp at hj; done) | (simp at hj; subst hj; rfl)
theorem sg_two {w V w1 : World} {a b : Nat} {o1 o2 : Obj} (q1 : V.heap[a]? = some o1) (q2 : V.heap[b]? = some o2) (q4 : Below w.heap.size w V) (hb : Below V.heap.size V w1) :
    w1.heap[a]? = some o1 ∧ w1.heap[b]? = some o2 ∧ Below w.heap.size w w1 :=
  ⟨(hb.block _ (lt_heap q1)).trans q1, (hb.block _ (lt_heap q2)).trans q2, bl_tr q4 hb⟩
theorem sgcells {w : World} {g : Nat} {m : Bool} {x : Nat} (h : w.heap[g]? = some (.cells #[.bool m, .int .i64 (dg x 0), .int .i64 (dg x 1), .int .i64 (dg x 2), .int .i64 (dg x 3), .int .i64 (dg x 4), .int .i64 (dg x 5), .int .i64 (dg x 6), .int .i64 (dg x 7), .int .i64 (dg x 8)] 58 (0, 0))) : w.cell? ⟨g, 0, none⟩ = some (.bool m) ∧ w.cell? ⟨g, 1, none⟩ = some (.int .i64 (dg x 0)) ∧ w.cell? ⟨g, 2, none⟩ = some (.int .i64 (dg x 1)) ∧ w.cell? ⟨g, 3, none⟩ = some (.int .i64 (dg x 2)) ∧ w.cell? ⟨g, 4, none⟩ = some (.int .i64 (dg x 3)) ∧ w.cell? ⟨g, 5, none⟩ = some (.int .i64 (dg x 4)) ∧ w.cell? ⟨g, 6, none⟩ = some (.int .i64 (dg x 5)) ∧ w.cell? ⟨g, 7, none⟩ = some (.int .i64 (dg x 6)) ∧ w.cell? ⟨g, 8, none⟩ = some (.int .i64 (dg x 7)) ∧ w.cell? ⟨g, 9, none⟩ = some (.int .i64 (dg x 8)) :=
  ⟨cell_of_row _ _ 0 _ _ _ h, cell_of_row _ _ 1 _ _ _ h, cell_of_row _ _ 2 _ _ _ h, cell_of_row _ _ 3 _ _ _ h, cell_of_row _ _ 4 _ _ _ h, cell_of_row _ _ 5 _ _ _ h, cell_of_row _ _ 6 _ _ _ h, cell_of_row _ _ 7 _ _ _ h, cell_of_row _ _ 8 _ _ _ h, cell_of_row _ _ 9 _ _ _ h⟩

set_option maxRecDepth 100000 in
theorem cmp_core (m n k : Bool) (x y z : Nat) (w : World)
    (HA : ∀ W, Calls Try.prog 50 #[.agg #[.bool m, .int .i64 (dg x 0), .int .i64 (dg x 1), .int .i64 (dg x 2), .int .i64 (dg x 3), .int .i64 (dg x 4), .int .i64 (dg x 5), .int .i64 (dg x 6), .int .i64 (dg x 7), .int .i64 (dg x 8)], .agg #[.bool (!n), .int .i64 (dg y 0), .int .i64 (dg y 1), .int .i64 (dg y 2), .int .i64 (dg y 3), .int .i64 (dg y 4), .int .i64 (dg y 5), .int .i64 (dg y 6), .int .i64 (dg y 7), .int .i64 (dg y 8)]] W fun e w' => e = .returned (.agg #[.bool k, .int .i64 (dg z 0), .int .i64 (dg z 1), .int .i64 (dg z 2), .int .i64 (dg z 3), .int .i64 (dg z 4), .int .i64 (dg z 5), .int .i64 (dg z 6), .int .i64 (dg z 7), .int .i64 (dg z 8)]) ∧ Below W.heap.size W w')
    (e : Bool) (EQ : ∀ W, (Op.equalIn 10000 56 (.agg #[.int .i64 (dg z 0), .int .i64 (dg z 1), .int .i64 (dg z 2), .int .i64 (dg z 3), .int .i64 (dg z 4), .int .i64 (dg z 5), .int .i64 (dg z 6), .int .i64 (dg z 7), .int .i64 (dg z 8)]) (.agg #[.int .i64 0, .int .i64 0, .int .i64 0, .int .i64 0, .int .i64 0, .int .i64 0, .int .i64 0, .int .i64 0, .int .i64 0])).run Try.prog W = .ok e W) (r : Int) (hr : r = if e then 0 else if k then -1 else 1) :
    Calls Try.prog 42 #[.agg #[.bool m, .int .i64 (dg x 0), .int .i64 (dg x 1), .int .i64 (dg x 2), .int .i64 (dg x 3), .int .i64 (dg x 4), .int .i64 (dg x 5), .int .i64 (dg x 6), .int .i64 (dg x 7), .int .i64 (dg x 8)], .agg #[.bool n, .int .i64 (dg y 0), .int .i64 (dg y 1), .int .i64 (dg y 2), .int .i64 (dg y 3), .int .i64 (dg y 4), .int .i64 (dg y 5), .int .i64 (dg y 6), .int .i64 (dg y 7), .int .i64 (dg y 8)]] w fun e w' => e = .returned (.int .i64 r) ∧ Below w.heap.size w w' := by
  have HN := fun W => neg_any n y W
  have Q1 : Hid (((w.alloc (.cells #[.bool m, .int .i64 (dg x 0), .int .i64 (dg x 1), .int .i64 (dg x 2), .int .i64 (dg x 3), .int .i64 (dg x 4), .int .i64 (dg x 5), .int .i64 (dg x 6), .int .i64 (dg x 7), .int .i64 (dg x 8)] 58)).alloc (.cells #[.bool n, .int .i64 (dg y 0), .int .i64 (dg y 1), .int .i64 (dg y 2), .int .i64 (dg y 3), .int .i64 (dg y 4), .int .i64 (dg y 5), .int .i64 (dg y 6), .int .i64 (dg y 7), .int .i64 (dg y 8)] 58)).drew.heap[w.heap.size]? = some (.cells #[.bool m, .int .i64 (dg x 0), .int .i64 (dg x 1), .int .i64 (dg x 2), .int .i64 (dg x 3), .int .i64 (dg x 4), .int .i64 (dg x 5), .int .i64 (dg x 6), .int .i64 (dg x 7), .int .i64 (dg x 8)] 58 (0, 0))) := heap_alloc2_old w _ _
  have Q2 : Hid (((w.alloc (.cells #[.bool m, .int .i64 (dg x 0), .int .i64 (dg x 1), .int .i64 (dg x 2), .int .i64 (dg x 3), .int .i64 (dg x 4), .int .i64 (dg x 5), .int .i64 (dg x 6), .int .i64 (dg x 7), .int .i64 (dg x 8)] 58)).alloc (.cells #[.bool n, .int .i64 (dg y 0), .int .i64 (dg y 1), .int .i64 (dg y 2), .int .i64 (dg y 3), .int .i64 (dg y 4), .int .i64 (dg y 5), .int .i64 (dg y 6), .int .i64 (dg y 7), .int .i64 (dg y 8)] 58)).drew.heap[w.heap.size + 1]? = some (.cells #[.bool n, .int .i64 (dg y 0), .int .i64 (dg y 1), .int .i64 (dg y 2), .int .i64 (dg y 3), .int .i64 (dg y 4), .int .i64 (dg y 5), .int .i64 (dg y 6), .int .i64 (dg y 7), .int .i64 (dg y 8)] 58 (0, 0))) := heap_alloc2_new w _ _
  have Q4 : Hid (Below w.heap.size w ((w.alloc (.cells #[.bool m, .int .i64 (dg x 0), .int .i64 (dg x 1), .int .i64 (dg x 2), .int .i64 (dg x 3), .int .i64 (dg x 4), .int .i64 (dg x 5), .int .i64 (dg x 6), .int .i64 (dg x 7), .int .i64 (dg x 8)] 58)).alloc (.cells #[.bool n, .int .i64 (dg y 0), .int .i64 (dg y 1), .int .i64 (dg y 2), .int .i64 (dg y 3), .int .i64 (dg y 4), .int .i64 (dg y 5), .int .i64 (dg y 6), .int .i64 (dg y 7), .int .i64 (dg y 8)] 58)).drew) := (bl_al (bl_al (Below.refl _ _) _) _).drew
  have HR := Lib.hid hr
  have HE := Lib.hid EQ
  have HAA := Lib.hid HA
  clear hr EQ HA
  go_enter Try.func42, Try.ntmps42
  go_wp2
  refine wp_region_held_drew (S := fun w' => w'.heap[w.heap.size]? = some (.cells #[.bool m, .int .i64 (dg x 0), .int .i64 (dg x 1), .int .i64 (dg x 2), .int .i64 (dg x 3), .int .i64 (dg x 4), .int .i64 (dg x 5), .int .i64 (dg x 6), .int .i64 (dg x 7), .int .i64 (dg x 8)] 58 (0, 0)) ∧ w'.heap[w.heap.size + 1]? = some (.cells #[.bool n, .int .i64 (dg y 0), .int .i64 (dg y 1), .int .i64 (dg y 2), .int .i64 (dg y 3), .int .i64 (dg y 4), .int .i64 (dg y 5), .int .i64 (dg y 6), .int .i64 (dg y 7), .int .i64 (dg y 8)] 58 (0, 0))) (by kernel_rfl) ⟨Q1.out, Q2.out⟩ (fun hHeld => ?_)
  refine' wpAnyH_take (i := 0) (v := _) (by rw [List.getElem?_toArray]; rfl) (by kernel_rfl) (by kernel_rfl) (by kernel_rfl) ?qax0 (yieldsIf_load_mid (by rfl) _ _ rfl _ _ rfl [.bool m, .int .i64 (dg x 0), .int .i64 (dg x 1), .int .i64 (dg x 2), .int .i64 (dg x 3), .int .i64 (dg x 4), .int .i64 (dg x 5), .int .i64 (dg x 6), .int .i64 (dg x 7), .int .i64 (dg x 8)] _ ?hSax0 ?huax0 ?hdax0 ?hiax0) (by assumption) ?restax0
  case qax0 => exact fun _ _ _ h => h
  case hSax0 => exact fun wz hSw => sg_whole hSw.1
  case huax0 => exact Try.underlying58
  case hdax0 => rfl
  case hiax0 => exact info28
  simp only [Act.put, List.setIfInBounds_toArray, List.set_cons_zero, List.set_cons_succ]
  refine' wpAnyH_take (i := 1) (v := _) (by rw [List.getElem?_toArray]; rfl) (by kernel_rfl) (by kernel_rfl) (by kernel_rfl) ?qax1 (yieldsIf_load_mid (by rfl) _ _ rfl _ _ rfl [.bool n, .int .i64 (dg y 0), .int .i64 (dg y 1), .int .i64 (dg y 2), .int .i64 (dg y 3), .int .i64 (dg y 4), .int .i64 (dg y 5), .int .i64 (dg y 6), .int .i64 (dg y 7), .int .i64 (dg y 8)] _ ?hSax1 ?huax1 ?hdax1 ?hiax1) (by assumption) ?restax1
  case qax1 => exact fun _ _ _ h => h
  case hSax1 => exact fun wz hSw => sg_whole hSw.2
  case huax1 => exact Try.underlying58
  case hdax1 => rfl
  case hiax1 => exact info28
  simp only [Act.put, List.setIfInBounds_toArray, List.set_cons_zero, List.set_cons_succ]
  refine wpAnyH_ready (rs := [2, 4]) (by kernel_rfl) (by simp) ?_
  refine AllReadyH.cons (by rw [List.getElem?_toArray]; rfl) (fun K hK => ?_) ?_
  · clear hHeld
    go_simp
    go_at_call 51; refine (HN _).mono ?_; rintro ee w1 ⟨rfl, hb⟩
    obtain ⟨p1, p2, b1⟩ := sg_two (w := w) Q1.out Q2.out Q4.out hb
    clear hb
    go_wp2_with fail
    refine hK.out _ _ ⟨p1, p2⟩ (fun hHeld => ?_)
    clear hK K
    refine wpAnyH_ready (rs := [3, 4]) (by kernel_rfl) (by simp) ?_
    refine AllReadyH.cons (by rw [List.getElem?_toArray]; rfl) (fun K hK => ?_) ?_
    · clear hHeld
      go_simp
      go_at_call 50; refine (HAA.out _).mono ?_; rintro ee w2 ⟨rfl, hb⟩
      obtain ⟨p3, p4, b2⟩ := sg_two (w := w) p1 p2 b1 hb
      clear hb
      go_wp2_with fail
      refine hK.out _ _ ⟨p3, p4⟩ (fun hHeld => ?_)
      clear hK K
      refine wpAnyH_ready (rs := [4]) (by kernel_rfl) (by simp) ?_
      refine AllReadyH.cons (by rw [List.getElem?_toArray]; rfl) (fun K hK => ?_) AllReadyH.nil
      clear hHeld
      go_simp
      refine hK.out _ _ ⟨(heap_alloc_old _ _ (lt_heap p3)).trans p3, (heap_alloc_old _ _ (lt_heap p4)).trans p4⟩ (fun hHeld => ?_)
      clear hK K
      refine wpAnyH_ready (rs := [5]) (by kernel_rfl) (by simp) ?_
      refine AllReadyH.cons (by rw [List.getElem?_toArray]; rfl) (fun K hK => ?_) AllReadyH.nil
      clear hHeld
      go_simp
      have key := heap_alloc_new w2 (.cells #[.bool k, .int .i64 (dg z 0), .int .i64 (dg z 1), .int .i64 (dg z 2), .int .i64 (dg z 3), .int .i64 (dg z 4), .int .i64 (dg z 5), .int .i64 (dg z 6), .int .i64 (dg z 7), .int .i64 (dg z 8)] 58)
      have kb := bl_al b2 (.cells #[.bool k, .int .i64 (dg z 0), .int .i64 (dg z 1), .int .i64 (dg z 2), .int .i64 (dg z 3), .int .i64 (dg z 4), .int .i64 (dg z 5), .int .i64 (dg z 6), .int .i64 (dg z 7), .int .i64 (dg z 8)] 58)
      refine hK.out _ _ ⟨(heap_alloc_old _ _ (lt_heap p3)).trans p3, (heap_alloc_old _ _ (lt_heap p4)).trans p4⟩ (fun hHeld => ?_)
      clear hK K
      revert key kb
      generalize w2.alloc (.cells #[.bool k, .int .i64 (dg z 0), .int .i64 (dg z 1), .int .i64 (dg z 2), .int .i64 (dg z 3), .int .i64 (dg z 4), .int .i64 (dg z 5), .int .i64 (dg z 6), .int .i64 (dg z 7), .int .i64 (dg z 8)] 58) = w3
      intro key kb
      have EQ := HE.out
      obtain ⟨c0, c1, c2, c3, c4, c5, c6, c7, c8, c9⟩ := sgcells key
      refine wpAnyH_done (by kernel_rfl) ?_ _
      clear key hHeld
      go_wp2
      all_goals (go_ret; exact ⟨ret_int (by rw [HR.out]; simp [*]), kb⟩)
    · refine AllReadyH.cons (by rw [List.getElem?_toArray]; rfl) (fun K hK => ?_) AllReadyH.nil
      clear hHeld
      go_simp
      refine hK.out _ _ ⟨(heap_alloc_old _ _ (lt_heap p1)).trans p1, (heap_alloc_old _ _ (lt_heap p2)).trans p2⟩ (fun hHeld => ?_)
      clear hK K
      refine wpAnyH_ready (rs := [3]) (by kernel_rfl) (by simp) ?_
      refine AllReadyH.cons (by rw [List.getElem?_toArray]; rfl) (fun K hK => ?_) AllReadyH.nil
      clear hHeld
      go_simp
      go_at_call 50; refine (HAA.out _).mono ?_; rintro ee w2 ⟨rfl, hb⟩
      obtain ⟨p3, p4, b2⟩ := sg_two (w := w) ((heap_alloc_old _ _ (lt_heap p1)).trans p1) ((heap_alloc_old _ _ (lt_heap p2)).trans p2) (bl_al b1 _) hb
      have pz := new_keep hb
      clear hb
      go_wp2_with fail
      refine hK.out _ _ ⟨p3, p4⟩ (fun hHeld => ?_)
      clear hK K
      refine wpAnyH_ready (rs := [5]) (by kernel_rfl) (by simp) ?_
      refine AllReadyH.cons (by rw [List.getElem?_toArray]; rfl) (fun K hK => ?_) AllReadyH.nil
      clear hHeld
      obtain ⟨z0, z1, z2, z3, z4, z5, z6, z7, z8, z9, ff⟩ := zcells pz
      have key := ten w2 (w1.heap.size) pz (.bool k) (.int .i64 (dg z 0)) (.int .i64 (dg z 1)) (.int .i64 (dg z 2)) (.int .i64 (dg z 3)) (.int .i64 (dg z 4)) (.int .i64 (dg z 5)) (.int .i64 (dg z 6)) (.int .i64 (dg z 7)) (.int .i64 (dg z 8))
      have kb := ten_below b2 (w1.heap.size) (b1.size) (.bool k) (.int .i64 (dg z 0)) (.int .i64 (dg z 1)) (.int .i64 (dg z 2)) (.int .i64 (dg z 3)) (.int .i64 (dg z 4)) (.int .i64 (dg z 5)) (.int .i64 (dg z 6)) (.int .i64 (dg z 7)) (.int .i64 (dg z 8))
      have k1 := (ten_other w2 (w1.heap.size) _ (by have := lt_heap p1; omega) (.bool k) (.int .i64 (dg z 0)) (.int .i64 (dg z 1)) (.int .i64 (dg z 2)) (.int .i64 (dg z 3)) (.int .i64 (dg z 4)) (.int .i64 (dg z 5)) (.int .i64 (dg z 6)) (.int .i64 (dg z 7)) (.int .i64 (dg z 8))).trans p3
      have k2 := (ten_other w2 (w1.heap.size) _ (by have := lt_heap p2; omega) (.bool k) (.int .i64 (dg z 0)) (.int .i64 (dg z 1)) (.int .i64 (dg z 2)) (.int .i64 (dg z 3)) (.int .i64 (dg z 4)) (.int .i64 (dg z 5)) (.int .i64 (dg z 6)) (.int .i64 (dg z 7)) (.int .i64 (dg z 8))).trans p4
      have H1 := Lib.hid key
      have H2 := Lib.hid kb
      have H3 := Lib.hid k1
      have H4 := Lib.hid k2
      clear key kb k1 k2
      go_simp
      have key := H1.out
      have kb := H2.out
      have k1 := H3.out
      have k2 := H4.out
      clear H1 H2 H3 H4
      revert key kb k1 k2
      generalize ((((((((((w2.setCell ⟨w1.heap.size, 0, none⟩ (.bool k)).setCell ⟨w1.heap.size, 1, none⟩ (.int .i64 (dg z 0))).setCell ⟨w1.heap.size, 2, none⟩ (.int .i64 (dg z 1))).setCell ⟨w1.heap.size, 3, none⟩ (.int .i64 (dg z 2))).setCell ⟨w1.heap.size, 4, none⟩ (.int .i64 (dg z 3))).setCell ⟨w1.heap.size, 5, none⟩ (.int .i64 (dg z 4))).setCell ⟨w1.heap.size, 6, none⟩ (.int .i64 (dg z 5))).setCell ⟨w1.heap.size, 7, none⟩ (.int .i64 (dg z 6))).setCell ⟨w1.heap.size, 8, none⟩ (.int .i64 (dg z 7))).setCell ⟨w1.heap.size, 9, none⟩ (.int .i64 (dg z 8))) = w3
      intro key kb k1 k2
      refine hK.out _ _ ⟨k1, k2⟩ (fun hHeld => ?_)
      clear hK K k1 k2 z0 z1 z2 z3 z4 z5 z6 z7 z8 z9 ff
      have EQ := HE.out
      obtain ⟨c0, c1, c2, c3, c4, c5, c6, c7, c8, c9⟩ := sgcells key
      refine wpAnyH_done (by kernel_rfl) ?_ _
      clear key hHeld
      go_wp2
      all_goals (go_ret; exact ⟨ret_int (by rw [HR.out]; simp [*]), kb⟩)
  · refine AllReadyH.cons (by rw [List.getElem?_toArray]; rfl) (fun K hK => ?_) AllReadyH.nil
    clear hHeld
    go_simp
    refine hK.out _ _ ⟨(heap_alloc_old _ _ (lt_heap Q1.out)).trans Q1.out, (heap_alloc_old _ _ (lt_heap Q2.out)).trans Q2.out⟩ (fun hHeld => ?_)
    clear hK K
    refine wpAnyH_ready (rs := [2]) (by kernel_rfl) (by simp) ?_
    refine AllReadyH.cons (by rw [List.getElem?_toArray]; rfl) (fun K hK => ?_) AllReadyH.nil
    clear hHeld
    go_simp
    go_at_call 51; refine (HN _).mono ?_; rintro ee w1 ⟨rfl, hb⟩
    obtain ⟨p1, p2, b1⟩ := sg_two (w := w) ((heap_alloc_old _ _ (lt_heap Q1.out)).trans Q1.out) ((heap_alloc_old _ _ (lt_heap Q2.out)).trans Q2.out) (bl_al Q4.out _) hb
    have pz0 : w1.heap[w.heap.size + 1 + 1]? = some (.cells #[.bool false, .int .i64 0, .int .i64 0, .int .i64 0, .int .i64 0, .int .i64 0, .int .i64 0, .int .i64 0, .int .i64 0, .int .i64 0] 58) := (hb.block (w.heap.size + 1 + 1) (by simp)).trans (heap3 w _ _ _).2.2
    clear hb
    go_wp2_with fail
    refine hK.out _ _ ⟨p1, p2⟩ (fun hHeld => ?_)
    clear hK K
    refine wpAnyH_ready (rs := [3]) (by kernel_rfl) (by simp) ?_
    refine AllReadyH.cons (by rw [List.getElem?_toArray]; rfl) (fun K hK => ?_) AllReadyH.nil
    clear hHeld
    go_simp
    go_at_call 50; refine (HAA.out _).mono ?_; rintro ee w2 ⟨rfl, hb⟩
    obtain ⟨p3, p4, b2⟩ := sg_two (w := w) p1 p2 b1 hb
    have pz := (hb.block _ (lt_heap pz0)).trans pz0
    clear hb
    go_wp2_with fail
    refine hK.out _ _ ⟨p3, p4⟩ (fun hHeld => ?_)
    clear hK K
    refine wpAnyH_ready (rs := [5]) (by kernel_rfl) (by simp) ?_
    refine AllReadyH.cons (by rw [List.getElem?_toArray]; rfl) (fun K hK => ?_) AllReadyH.nil
    clear hHeld
    obtain ⟨z0, z1, z2, z3, z4, z5, z6, z7, z8, z9, ff⟩ := zcells pz
    have key := ten w2 (w.heap.size + 1 + 1) pz (.bool k) (.int .i64 (dg z 0)) (.int .i64 (dg z 1)) (.int .i64 (dg z 2)) (.int .i64 (dg z 3)) (.int .i64 (dg z 4)) (.int .i64 (dg z 5)) (.int .i64 (dg z 6)) (.int .i64 (dg z 7)) (.int .i64 (dg z 8))
    have kb := ten_below b2 (w.heap.size + 1 + 1) (by omega) (.bool k) (.int .i64 (dg z 0)) (.int .i64 (dg z 1)) (.int .i64 (dg z 2)) (.int .i64 (dg z 3)) (.int .i64 (dg z 4)) (.int .i64 (dg z 5)) (.int .i64 (dg z 6)) (.int .i64 (dg z 7)) (.int .i64 (dg z 8))
    have k1 := (ten_other w2 (w.heap.size + 1 + 1) _ (by omega) (.bool k) (.int .i64 (dg z 0)) (.int .i64 (dg z 1)) (.int .i64 (dg z 2)) (.int .i64 (dg z 3)) (.int .i64 (dg z 4)) (.int .i64 (dg z 5)) (.int .i64 (dg z 6)) (.int .i64 (dg z 7)) (.int .i64 (dg z 8))).trans p3
    have k2 := (ten_other w2 (w.heap.size + 1 + 1) _ (by omega) (.bool k) (.int .i64 (dg z 0)) (.int .i64 (dg z 1)) (.int .i64 (dg z 2)) (.int .i64 (dg z 3)) (.int .i64 (dg z 4)) (.int .i64 (dg z 5)) (.int .i64 (dg z 6)) (.int .i64 (dg z 7)) (.int .i64 (dg z 8))).trans p4
    have H1 := Lib.hid key
    have H2 := Lib.hid kb
    have H3 := Lib.hid k1
    have H4 := Lib.hid k2
    clear key kb k1 k2
    go_simp
    have key := H1.out
    have kb := H2.out
    have k1 := H3.out
    have k2 := H4.out
    clear H1 H2 H3 H4
    revert key kb k1 k2
    generalize ((((((((((w2.setCell ⟨w.heap.size + 1 + 1, 0, none⟩ (.bool k)).setCell ⟨w.heap.size + 1 + 1, 1, none⟩ (.int .i64 (dg z 0))).setCell ⟨w.heap.size + 1 + 1, 2, none⟩ (.int .i64 (dg z 1))).setCell ⟨w.heap.size + 1 + 1, 3, none⟩ (.int .i64 (dg z 2))).setCell ⟨w.heap.size + 1 + 1, 4, none⟩ (.int .i64 (dg z 3))).setCell ⟨w.heap.size + 1 + 1, 5, none⟩ (.int .i64 (dg z 4))).setCell ⟨w.heap.size + 1 + 1, 6, none⟩ (.int .i64 (dg z 5))).setCell ⟨w.heap.size + 1 + 1, 7, none⟩ (.int .i64 (dg z 6))).setCell ⟨w.heap.size + 1 + 1, 8, none⟩ (.int .i64 (dg z 7))).setCell ⟨w.heap.size + 1 + 1, 9, none⟩ (.int .i64 (dg z 8))) = w3
    intro key kb k1 k2
    refine hK.out _ _ ⟨k1, k2⟩ (fun hHeld => ?_)
    clear hK K k1 k2 z0 z1 z2 z3 z4 z5 z6 z7 z8 z9 ff
    have EQ := HE.out
    obtain ⟨c0, c1, c2, c3, c4, c5, c6, c7, c8, c9⟩ := sgcells key
    refine wpAnyH_done (by kernel_rfl) ?_ _
    clear key hHeld
    go_wp2
    all_goals (go_ret; exact ⟨ret_int (by rw [HR.out]; simp [*]), kb⟩)
end Go.Proofs.Yteceibafagekiaa.ar

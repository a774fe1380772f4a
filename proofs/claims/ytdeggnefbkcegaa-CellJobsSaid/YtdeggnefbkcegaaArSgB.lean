/-
  What the reference's Add answers, the two of different signs.
-/
import Derived.Test.YtdeggnefbkcegaaArSg
namespace Go.Proofs.Ytdeggnefbkcegaa.ar
open Go.RowKit
set_option linter.unusedVariables false


set_option maxRecDepth 100000 in
theorem add_lt (m n : Bool) (hmn : ¬ m = n) (x y : Nat) (hxy : x < y) (hx : x < BB ^ 9) (hy : y < BB ^ 9) (w : World) :
    Calls Try.prog 36 #[.agg #[.bool m, .int .i64 (dg x 0), .int .i64 (dg x 1), .int .i64 (dg x 2), .int .i64 (dg x 3), .int .i64 (dg x 4), .int .i64 (dg x 5), .int .i64 (dg x 6), .int .i64 (dg x 7), .int .i64 (dg x 8)], .agg #[.bool n, .int .i64 (dg y 0), .int .i64 (dg y 1), .int .i64 (dg y 2), .int .i64 (dg y 3), .int .i64 (dg y 4), .int .i64 (dg y 5), .int .i64 (dg y 6), .int .i64 (dg y 7), .int .i64 (dg y 8)]] w fun e w' => e = .returned (.agg #[.bool n, .int .i64 (dg (y - x) 0), .int .i64 (dg (y - x) 1), .int .i64 (dg (y - x) 2), .int .i64 (dg (y - x) 3), .int .i64 (dg (y - x) 4), .int .i64 (dg (y - x) 5), .int .i64 (dg (y - x) 6), .int .i64 (dg (y - x) 7), .int .i64 (dg (y - x) 8)]) ∧ Below w.heap.size w w' := by
  have HT := fun W => minus_loop y x (by omega) W
  have e1 : (m == n) = false := by simpa using hmn
  have HL : Hid (ltb x y = true) := by show ltb x y = true; unfold ltb; exact decide_eq_true hxy
  clear hmn hxy
  go_enter Try.func36, Try.ntmps36
  go_wp2_with fail
  refine (less_any x y hx hy _).mono ?_; rintro e w0 ⟨rfl, hb0⟩
  obtain ⟨h1, h2, h3⟩ := heap3 w (.cells #[.bool m, .int .i64 (dg x 0), .int .i64 (dg x 1), .int .i64 (dg x 2), .int .i64 (dg x 3), .int .i64 (dg x 4), .int .i64 (dg x 5), .int .i64 (dg x 6), .int .i64 (dg x 7), .int .i64 (dg x 8)] 78) (.cells #[.bool n, .int .i64 (dg y 0), .int .i64 (dg y 1), .int .i64 (dg y 2), .int .i64 (dg y 3), .int .i64 (dg y 4), .int .i64 (dg y 5), .int .i64 (dg y 6), .int .i64 (dg y 7), .int .i64 (dg y 8)] 78) (.cells #[.bool false, .int .i64 0, .int .i64 0, .int .i64 0, .int .i64 0, .int .i64 0, .int .i64 0, .int .i64 0, .int .i64 0, .int .i64 0] 78)
  obtain ⟨q1, q2, q3, q4⟩ := sg_call (w := w) h1 h2 h3 (bl_al (bl_al (bl_al (Below.refl _ _) _) _) _) hb0
  have Q1 : Hid (w0.drew.heap[w.heap.size]? = some (.cells #[.bool m, .int .i64 (dg x 0), .int .i64 (dg x 1), .int .i64 (dg x 2), .int .i64 (dg x 3), .int .i64 (dg x 4), .int .i64 (dg x 5), .int .i64 (dg x 6), .int .i64 (dg x 7), .int .i64 (dg x 8)] 78 (0, 0))) := q1
  have Q2 : Hid (w0.drew.heap[w.heap.size + 1]? = some (.cells #[.bool n, .int .i64 (dg y 0), .int .i64 (dg y 1), .int .i64 (dg y 2), .int .i64 (dg y 3), .int .i64 (dg y 4), .int .i64 (dg y 5), .int .i64 (dg y 6), .int .i64 (dg y 7), .int .i64 (dg y 8)] 78 (0, 0))) := q2
  have Q3 : Hid (w0.drew.heap[w.heap.size + 1 + 1]? = some (.cells #[.bool false, .int .i64 0, .int .i64 0, .int .i64 0, .int .i64 0, .int .i64 0, .int .i64 0, .int .i64 0, .int .i64 0, .int .i64 0] 78 (0, 0))) := q3
  have Q4 : Hid (Below w.heap.size w w0.drew) := q4.drew
  clear hb0 h1 h2 h3 q1 q2 q3 q4
  rw [HL.out]
  go_wp2
  refine wp_region_held_drew (S := fun w' => w'.heap[w.heap.size]? = some (.cells #[.bool m, .int .i64 (dg x 0), .int .i64 (dg x 1), .int .i64 (dg x 2), .int .i64 (dg x 3), .int .i64 (dg x 4), .int .i64 (dg x 5), .int .i64 (dg x 6), .int .i64 (dg x 7), .int .i64 (dg x 8)] 78 (0, 0)) ∧ w'.heap[w.heap.size + 1]? = some (.cells #[.bool n, .int .i64 (dg y 0), .int .i64 (dg y 1), .int .i64 (dg y 2), .int .i64 (dg y 3), .int .i64 (dg y 4), .int .i64 (dg y 5), .int .i64 (dg y 6), .int .i64 (dg y 7), .int .i64 (dg y 8)] 78 (0, 0))) (by kernel_rfl) ⟨Q1.out, Q2.out⟩ (fun hHeld => ?_)
  refine wpAnyH_take (i := 0) (v := ?vax0) (by rw [List.getElem?_toArray]; rfl) (by kernel_rfl) (by kernel_rfl) (by kernel_rfl) ?qax0 (Or.inl ⟨by rfl, ?yax0⟩) (by assumption) ?rax0
  case qax0 => exact fun _ _ _ h => h
  case yax0 => (intro wz hSw; go_simp; try (with_reducible rfl))
  simp only [Act.put, List.setIfInBounds_toArray, List.set_cons_zero, List.set_cons_succ]
  refine wpAnyH_take (i := 1) (v := ?vax1) (by rw [List.getElem?_toArray]; rfl) (by kernel_rfl) (by kernel_rfl) (by kernel_rfl) ?qax1 (Or.inl ⟨by rfl, ?yax1⟩) (by assumption) ?rax1
  case qax1 => exact fun _ _ _ h => h
  case yax1 => (intro wz hSw; have cc := cell_of_row wz _ 0 _ _ _ hSw.2; simp at cc; go_simp; try (with_reducible rfl))
  simp only [Act.put, List.setIfInBounds_toArray, List.set_cons_zero, List.set_cons_succ]
  refine wpAnyH_take (i := 2) (v := ?vax2) (by rw [List.getElem?_toArray]; rfl) (by kernel_rfl) (by kernel_rfl) (by kernel_rfl) ?qax2 (Or.inl ⟨by rfl, ?yax2⟩) (by assumption) ?rax2
  case qax2 => exact fun _ _ _ h => h
  case yax2 => (intro wz hSw; go_simp; try (with_reducible rfl))
  simp only [Act.put, List.setIfInBounds_toArray, List.set_cons_zero, List.set_cons_succ]
  refine' wpAnyH_take (i := 3) (v := _) (by rw [List.getElem?_toArray]; rfl) (by kernel_rfl) (by kernel_rfl) (by kernel_rfl) ?qax3 (yieldsIf_load_mid (by rfl) _ _ rfl _ _ rfl [.int .i64 (dg y 0), .int .i64 (dg y 1), .int .i64 (dg y 2), .int .i64 (dg y 3), .int .i64 (dg y 4), .int .i64 (dg y 5), .int .i64 (dg y 6), .int .i64 (dg y 7), .int .i64 (dg y 8)] _ ?hSax3 ?huax3 ?hdax3 ?hiax3) (by assumption) ?restax3
  case qax3 => exact fun _ _ _ h => h
  case hSax3 => exact fun wz hSw => sg_range hSw.2
  case huax3 => exact Try.underlying76
  case hdax3 => rfl
  case hiax3 => exact info26
  simp only [Act.put, List.setIfInBounds_toArray, List.set_cons_zero, List.set_cons_succ]
  refine wpAnyH_take (i := 4) (v := ?vax4) (by rw [List.getElem?_toArray]; rfl) (by kernel_rfl) (by kernel_rfl) (by kernel_rfl) ?qax4 (Or.inl ⟨by rfl, ?yax4⟩) (by assumption) ?rax4
  case qax4 => exact fun _ _ _ h => h
  case yax4 => (intro wz hSw; go_simp; try (with_reducible rfl))
  simp only [Act.put, List.setIfInBounds_toArray, List.set_cons_zero, List.set_cons_succ]
  refine' wpAnyH_take (i := 5) (v := _) (by rw [List.getElem?_toArray]; rfl) (by kernel_rfl) (by kernel_rfl) (by kernel_rfl) ?qax5 (yieldsIf_load_mid (by rfl) _ _ rfl _ _ rfl [.int .i64 (dg x 0), .int .i64 (dg x 1), .int .i64 (dg x 2), .int .i64 (dg x 3), .int .i64 (dg x 4), .int .i64 (dg x 5), .int .i64 (dg x 6), .int .i64 (dg x 7), .int .i64 (dg x 8)] _ ?hSax5 ?huax5 ?hdax5 ?hiax5) (by assumption) ?restax5
  case qax5 => exact fun _ _ _ h => h
  case hSax5 => exact fun wz hSw => sg_range hSw.1
  case huax5 => exact Try.underlying76
  case hdax5 => rfl
  case hiax5 => exact info26
  simp only [Act.put, List.setIfInBounds_toArray, List.set_cons_zero, List.set_cons_succ]
  refine wpAnyH_ready (rs := [6]) (by kernel_rfl) (by simp) ?_
  refine AllReadyH.cons (by rw [List.getElem?_toArray]; rfl) (fun K hK => ?_) AllReadyH.nil
  clear hHeld
  go_simp
  go_at_call 46; refine (HT _).mono ?_; rintro e w1 ⟨rfl, hb⟩
  obtain ⟨p1, p2, p3, bl⟩ := sg_call (w := w) Q1.out Q2.out Q3.out Q4.out hb
  obtain ⟨c0, c1, c2, c3, c4, c5, c6, c7, c8, c9, ff⟩ := zcells p3
  have P3 := Lib.hid p3
  clear hb p3
  go_wp2_with fail
  refine hK.out _ _ ⟨p1, p2⟩ (fun hHeld => ?_)
  refine wpAnyH_take (i := 7) (v := ?vax7) (by rw [List.getElem?_toArray]; rfl) (by kernel_rfl) (by kernel_rfl) (by kernel_rfl) ?qax7 (Or.inl ⟨by rfl, ?yax7⟩) (by assumption) ?rax7
  case qax7 => exact fun _ _ _ h => h
  case yax7 => (intro wz hSw; go_simp; try (with_reducible rfl))
  simp only [Act.put, List.setIfInBounds_toArray, List.set_cons_zero, List.set_cons_succ]
  refine wpAnyH_ready (rs := [8]) (by kernel_rfl) (by simp) ?_
  refine AllReadyH.cons (by rw [List.getElem?_toArray]; rfl) (fun K2 hK2 => ?_) AllReadyH.nil
  clear hHeld
  go_simp
  refine hK2.out _ _ ⟨(ten_other _ _ _ (by omega) _ _ _ _ _ _ _ _ _ _).trans p1, (ten_other _ _ _ (by omega) _ _ _ _ _ _ _ _ _ _).trans p2⟩ (fun hHeld => ?_)
  refine wpAnyH_done (by kernel_rfl) ?_ _
  clear hHeld c0 c1 c2 c3 c4 c5 c6 c7 c8 c9 ff p1 p2
  go_wp2
  exact bodyPost_ret (results_cell_row Try.results36 _ _ (w.heap.size + 1 + 1) 78 _ (0, 0) _ rfl (ten _ _ P3.out _ _ _ _ _ _ _ _ _ _) Try.underlying78 rfl (by kernel_rfl)) rfl ⟨rfl, ten_below bl _ (by omega) _ _ _ _ _ _ _ _ _ _⟩


set_option maxRecDepth 100000 in
theorem add_ge (m n : Bool) (hmn : ¬ m = n) (x y : Nat) (hxy : y ≤ x) (hx : x < BB ^ 9) (hy : y < BB ^ 9) (w : World) :
    Calls Try.prog 36 #[.agg #[.bool m, .int .i64 (dg x 0), .int .i64 (dg x 1), .int .i64 (dg x 2), .int .i64 (dg x 3), .int .i64 (dg x 4), .int .i64 (dg x 5), .int .i64 (dg x 6), .int .i64 (dg x 7), .int .i64 (dg x 8)], .agg #[.bool n, .int .i64 (dg y 0), .int .i64 (dg y 1), .int .i64 (dg y 2), .int .i64 (dg y 3), .int .i64 (dg y 4), .int .i64 (dg y 5), .int .i64 (dg y 6), .int .i64 (dg y 7), .int .i64 (dg y 8)]] w fun e w' => e = .returned (.agg #[.bool m, .int .i64 (dg (x - y) 0), .int .i64 (dg (x - y) 1), .int .i64 (dg (x - y) 2), .int .i64 (dg (x - y) 3), .int .i64 (dg (x - y) 4), .int .i64 (dg (x - y) 5), .int .i64 (dg (x - y) 6), .int .i64 (dg (x - y) 7), .int .i64 (dg (x - y) 8)]) ∧ Below w.heap.size w w' := by
  have HT := fun W => minus_loop x y (by omega) W
  have e1 : (m == n) = false := by simpa using hmn
  have HL : Hid (ltb x y = false) := by show ltb x y = false; unfold ltb; exact decide_eq_false (by omega)
  clear hmn hxy
  go_enter Try.func36, Try.ntmps36
  go_wp2_with fail
  refine (less_any x y hx hy _).mono ?_; rintro e w0 ⟨rfl, hb0⟩
  obtain ⟨h1, h2, h3⟩ := heap3 w (.cells #[.bool m, .int .i64 (dg x 0), .int .i64 (dg x 1), .int .i64 (dg x 2), .int .i64 (dg x 3), .int .i64 (dg x 4), .int .i64 (dg x 5), .int .i64 (dg x 6), .int .i64 (dg x 7), .int .i64 (dg x 8)] 78) (.cells #[.bool n, .int .i64 (dg y 0), .int .i64 (dg y 1), .int .i64 (dg y 2), .int .i64 (dg y 3), .int .i64 (dg y 4), .int .i64 (dg y 5), .int .i64 (dg y 6), .int .i64 (dg y 7), .int .i64 (dg y 8)] 78) (.cells #[.bool false, .int .i64 0, .int .i64 0, .int .i64 0, .int .i64 0, .int .i64 0, .int .i64 0, .int .i64 0, .int .i64 0, .int .i64 0] 78)
  obtain ⟨q1, q2, q3, q4⟩ := sg_call (w := w) h1 h2 h3 (bl_al (bl_al (bl_al (Below.refl _ _) _) _) _) hb0
  have Q1 : Hid (w0.drew.heap[w.heap.size]? = some (.cells #[.bool m, .int .i64 (dg x 0), .int .i64 (dg x 1), .int .i64 (dg x 2), .int .i64 (dg x 3), .int .i64 (dg x 4), .int .i64 (dg x 5), .int .i64 (dg x 6), .int .i64 (dg x 7), .int .i64 (dg x 8)] 78 (0, 0))) := q1
  have Q2 : Hid (w0.drew.heap[w.heap.size + 1]? = some (.cells #[.bool n, .int .i64 (dg y 0), .int .i64 (dg y 1), .int .i64 (dg y 2), .int .i64 (dg y 3), .int .i64 (dg y 4), .int .i64 (dg y 5), .int .i64 (dg y 6), .int .i64 (dg y 7), .int .i64 (dg y 8)] 78 (0, 0))) := q2
  have Q3 : Hid (w0.drew.heap[w.heap.size + 1 + 1]? = some (.cells #[.bool false, .int .i64 0, .int .i64 0, .int .i64 0, .int .i64 0, .int .i64 0, .int .i64 0, .int .i64 0, .int .i64 0, .int .i64 0] 78 (0, 0))) := q3
  have Q4 : Hid (Below w.heap.size w w0.drew) := q4.drew
  clear hb0 h1 h2 h3 q1 q2 q3 q4
  rw [HL.out]
  go_wp2
  refine wp_region_held_drew (S := fun w' => w'.heap[w.heap.size]? = some (.cells #[.bool m, .int .i64 (dg x 0), .int .i64 (dg x 1), .int .i64 (dg x 2), .int .i64 (dg x 3), .int .i64 (dg x 4), .int .i64 (dg x 5), .int .i64 (dg x 6), .int .i64 (dg x 7), .int .i64 (dg x 8)] 78 (0, 0)) ∧ w'.heap[w.heap.size + 1]? = some (.cells #[.bool n, .int .i64 (dg y 0), .int .i64 (dg y 1), .int .i64 (dg y 2), .int .i64 (dg y 3), .int .i64 (dg y 4), .int .i64 (dg y 5), .int .i64 (dg y 6), .int .i64 (dg y 7), .int .i64 (dg y 8)] 78 (0, 0))) (by kernel_rfl) ⟨Q1.out, Q2.out⟩ (fun hHeld => ?_)
  refine wpAnyH_take (i := 0) (v := ?vax0) (by rw [List.getElem?_toArray]; rfl) (by kernel_rfl) (by kernel_rfl) (by kernel_rfl) ?qax0 (Or.inl ⟨by rfl, ?yax0⟩) (by assumption) ?rax0
  case qax0 => exact fun _ _ _ h => h
  case yax0 => (intro wz hSw; go_simp; try (with_reducible rfl))
  simp only [Act.put, List.setIfInBounds_toArray, List.set_cons_zero, List.set_cons_succ]
  refine wpAnyH_take (i := 1) (v := ?vax1) (by rw [List.getElem?_toArray]; rfl) (by kernel_rfl) (by kernel_rfl) (by kernel_rfl) ?qax1 (Or.inl ⟨by rfl, ?yax1⟩) (by assumption) ?rax1
  case qax1 => exact fun _ _ _ h => h
  case yax1 => (intro wz hSw; have cc := cell_of_row wz _ 0 _ _ _ hSw.1; simp at cc; go_simp; try (with_reducible rfl))
  simp only [Act.put, List.setIfInBounds_toArray, List.set_cons_zero, List.set_cons_succ]
  refine wpAnyH_take (i := 2) (v := ?vax2) (by rw [List.getElem?_toArray]; rfl) (by kernel_rfl) (by kernel_rfl) (by kernel_rfl) ?qax2 (Or.inl ⟨by rfl, ?yax2⟩) (by assumption) ?rax2
  case qax2 => exact fun _ _ _ h => h
  case yax2 => (intro wz hSw; go_simp; try (with_reducible rfl))
  simp only [Act.put, List.setIfInBounds_toArray, List.set_cons_zero, List.set_cons_succ]
  refine' wpAnyH_take (i := 3) (v := _) (by rw [List.getElem?_toArray]; rfl) (by kernel_rfl) (by kernel_rfl) (by kernel_rfl) ?qax3 (yieldsIf_load_mid (by rfl) _ _ rfl _ _ rfl [.int .i64 (dg x 0), .int .i64 (dg x 1), .int .i64 (dg x 2), .int .i64 (dg x 3), .int .i64 (dg x 4), .int .i64 (dg x 5), .int .i64 (dg x 6), .int .i64 (dg x 7), .int .i64 (dg x 8)] _ ?hSax3 ?huax3 ?hdax3 ?hiax3) (by assumption) ?restax3
  case qax3 => exact fun _ _ _ h => h
  case hSax3 => exact fun wz hSw => sg_range hSw.1
  case huax3 => exact Try.underlying76
  case hdax3 => rfl
  case hiax3 => exact info26
  simp only [Act.put, List.setIfInBounds_toArray, List.set_cons_zero, List.set_cons_succ]
  refine wpAnyH_take (i := 4) (v := ?vax4) (by rw [List.getElem?_toArray]; rfl) (by kernel_rfl) (by kernel_rfl) (by kernel_rfl) ?qax4 (Or.inl ⟨by rfl, ?yax4⟩) (by assumption) ?rax4
  case qax4 => exact fun _ _ _ h => h
  case yax4 => (intro wz hSw; go_simp; try (with_reducible rfl))
  simp only [Act.put, List.setIfInBounds_toArray, List.set_cons_zero, List.set_cons_succ]
  refine' wpAnyH_take (i := 5) (v := _) (by rw [List.getElem?_toArray]; rfl) (by kernel_rfl) (by kernel_rfl) (by kernel_rfl) ?qax5 (yieldsIf_load_mid (by rfl) _ _ rfl _ _ rfl [.int .i64 (dg y 0), .int .i64 (dg y 1), .int .i64 (dg y 2), .int .i64 (dg y 3), .int .i64 (dg y 4), .int .i64 (dg y 5), .int .i64 (dg y 6), .int .i64 (dg y 7), .int .i64 (dg y 8)] _ ?hSax5 ?huax5 ?hdax5 ?hiax5) (by assumption) ?restax5
  case qax5 => exact fun _ _ _ h => h
  case hSax5 => exact fun wz hSw => sg_range hSw.2
  case huax5 => exact Try.underlying76
  case hdax5 => rfl
  case hiax5 => exact info26
  simp only [Act.put, List.setIfInBounds_toArray, List.set_cons_zero, List.set_cons_succ]
  refine wpAnyH_ready (rs := [6]) (by kernel_rfl) (by simp) ?_
  refine AllReadyH.cons (by rw [List.getElem?_toArray]; rfl) (fun K hK => ?_) AllReadyH.nil
  clear hHeld
  go_simp
  go_at_call 46; refine (HT _).mono ?_; rintro e w1 ⟨rfl, hb⟩
  obtain ⟨p1, p2, p3, bl⟩ := sg_call (w := w) Q1.out Q2.out Q3.out Q4.out hb
  obtain ⟨c0, c1, c2, c3, c4, c5, c6, c7, c8, c9, ff⟩ := zcells p3
  have P3 := Lib.hid p3
  clear hb p3
  go_wp2_with fail
  refine hK.out _ _ ⟨p1, p2⟩ (fun hHeld => ?_)
  refine wpAnyH_take (i := 7) (v := ?vax7) (by rw [List.getElem?_toArray]; rfl) (by kernel_rfl) (by kernel_rfl) (by kernel_rfl) ?qax7 (Or.inl ⟨by rfl, ?yax7⟩) (by assumption) ?rax7
  case qax7 => exact fun _ _ _ h => h
  case yax7 => (intro wz hSw; go_simp; try (with_reducible rfl))
  simp only [Act.put, List.setIfInBounds_toArray, List.set_cons_zero, List.set_cons_succ]
  refine wpAnyH_ready (rs := [8]) (by kernel_rfl) (by simp) ?_
  refine AllReadyH.cons (by rw [List.getElem?_toArray]; rfl) (fun K2 hK2 => ?_) AllReadyH.nil
  clear hHeld
  go_simp
  refine hK2.out _ _ ⟨(ten_other _ _ _ (by omega) _ _ _ _ _ _ _ _ _ _).trans p1, (ten_other _ _ _ (by omega) _ _ _ _ _ _ _ _ _ _).trans p2⟩ (fun hHeld => ?_)
  refine wpAnyH_done (by kernel_rfl) ?_ _
  clear hHeld c0 c1 c2 c3 c4 c5 c6 c7 c8 c9 ff p1 p2
  go_wp2
  exact bodyPost_ret (results_cell_row Try.results36 _ _ (w.heap.size + 1 + 1) 78 _ (0, 0) _ rfl (ten _ _ P3.out _ _ _ _ _ _ _ _ _ _) Try.underlying78 rfl (by kernel_rfl)) rfl ⟨rfl, ten_below bl _ (by omega) _ _ _ _ _ _ _ _ _ _⟩

end Go.Proofs.Ytdeggnefbkcegaa.ar

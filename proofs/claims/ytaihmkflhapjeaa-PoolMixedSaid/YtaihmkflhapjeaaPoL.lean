/-
  Own, for a list in memory; the state of PoolAlone.
-/
import Derived.Test.YtaihmkflhapjeaaPoJ
namespace Go.Proofs.Ytaihmkflhapjeaa
open Go.RowKit Go.MuLone
set_option linter.unusedVariables false
theorem clone_ol (B : Nat) (v : Value) (l : List Int) (w : World) (h : Ol B v l w) (hl : l.length ≤ 1000) : Calls Try.prog 35 #[v] w fun e w' => ∃ v', e = .returned v' ∧ Lst w.heap.size v' l w' ∧ Below w.heap.size w w' := by
  rcases h with ⟨rfl, rfl⟩ | ⟨g, off, cap, cur, rfl, h2, h3, h4, h5, h6, h7⟩
  · refine (clone_nil w).mono ?_
    rintro e w' ⟨rfl, rfl⟩
    exact ⟨_, rfl, .inl ⟨rfl, rfl⟩, Below.refl _ _⟩
  · refine (clone_any l g off cap h3 (by omega) h4 w (lt_hp h5) h7).mono ?_
    rintro e w' ⟨g2, cap2, rfl, ho⟩
    exact ⟨_, rfl, ho.lst, ho.2.2.2⟩
section
variable {A : Ad} {nv : Nat → Value} {nb : Nat → Int} {hd : Nat → Bool} {own st : List Nat} {s : Int} {B : Nat} {H : List Nat} {ow : Nat → Value} {l : List Int} {w w1 : World} {a : Nat} {wk nx sl tp bl : Int} {gv : Bool}
theorem own_any (h : Al A nv nb hd own st s B H ow l w) : Calls Try.prog 14 #[.pointer (some ⟨A.p, 0, none⟩), .int .i64 0] w fun e w' => ∃ v', e = .returned v' ∧ Lst w.heap.size v' (ints own) w' ∧ Below w.heap.size w w' := by
  have E := Lib.hid (emp_in 0 (by omega) _ _ _ _ _ _ _ _ w h.po.box (by rw [h.k1]; omega))
  have C := Lib.hid (clone_ol B (ow 0) (ints own) w h.ol (by rw [ints_len]; have := h.o2; omega))
  obtain ⟨q0, q1, q2, q3, q4⟩ := h.po.cells
  obtain ⟨k0, k1⟩ := h.po.oc 0 (by rw [h.k1]; omega)
  have i1 : (0 : Int) < (A.k : Int) := by rw [h.k1]; omega
  have kk2 := h.po.k2
  clear h q0 q1 q2 q3 k1
  generalize ow 0 = v at *
  go_enter Try.func14, Try.ntmps14
  go_wp2_with fail
  refine E.out.mono ?_; rintro e w1 ⟨rfl, rfl⟩
  clear E
  go_wp2_with fail
  refine C.out.mono ?_; rintro e w2 ⟨v', rfl, h1, h2⟩
  have F := Lib.hid (And.intro h1 h2)
  clear C h1 h2
  go_wp2
  go_ret
  exact ⟨_, rfl, F.out.1, F.out.2⟩
end
/-- where PoolAlone stands: k slots are free -/
def Sta (A : Ad) (q g cap B : Nat) (w0 : World) (k : Nat) (b : Int) (w : World) : Prop := ∃ nv nb hd own st s ow l, Al A nv nb hd own st s B [q, g] ow l w ∧ RH q g A.n cap hd w ∧ own.length + st.length = k ∧ s ≤ b ∧ Below B w0 w ∧ B ≤ g ∧ B ≤ q
/-- an act is over, but the reference isn't told yet -/
def Pend (A : Ad) (q g cap B : Nat) (w0 : World) (m : Nat) (v : Bool) (k : Nat) (b : Int) (w : World) : Prop := ∃ nv nb hd own st s ow l, Al A nv nb (upf hd m v) own st s B [q, g] ow l w ∧ RH q g A.n cap hd w ∧ hd m = (!v) ∧ own.length + st.length = k ∧ s ≤ b ∧ Below B w0 w ∧ B ≤ g ∧ B ≤ q
section
variable {A : Ad} {q g cap B : Nat} {w0 w w1 : World} {k : Nat} {b : Int} {a : Nat} {wk nx sl tp bl : Int} {gv : Bool}
theorem Sta.up (h : Sta A q g cap B w0 k b w) (hb : Below w.heap.size w w1) : Sta A q g cap B w0 k b w1 := by
  obtain ⟨nv, nb, hd, own, st, s, ow, l, h1, h2, h3, h4, h5, h6⟩ := h
  exact ⟨nv, nb, hd, own, st, s, ow, l, h1.up hb, h2.up hb, h3, h4, h5.trans (hb.mono h1.hB), h6⟩
theorem Sta.dr (h : Sta A q g cap B w0 k b w) : Sta A q g cap B w0 k b w.drew := h.up (bl_drew w)
theorem Sta.mono {b' : Int} (h : Sta A q g cap B w0 k b w) (hb : b ≤ b') : Sta A q g cap B w0 k b' w := by
  obtain ⟨nv, nb, hd, own, st, s, ow, l, h1, h2, h3, h4, h5, h6⟩ := h
  exact ⟨nv, nb, hd, own, st, s, ow, l, h1, h2, h3, by omega, h5, h6⟩
theorem Pend.tell {m : Nat} {v : Bool} (hm : m < A.n) (h : Pend A q g cap B w0 m v k b w) : Sta A q g cap B w0 k b (w.setCell ⟨g, m, none⟩ (.int .i64 (hv v))) := by
  obtain ⟨nv, nb, hd, own, st, s, ow, l, h1, h2, h3, h4, h5, h6, h7, h8⟩ := h
  refine ⟨nv, nb, upf hd m v, own, st, s, ow, l, h1.aside (S := [g]) ((Tw.refl [g] w).st g (.inl (by simp)) m _) (by simp), h2.st m hm v, h4, h5, h6.setCell (p := ⟨g, m, none⟩) h7 _, h7, h8⟩
theorem Pend.dr {m : Nat} {v : Bool} (h : Pend A q g cap B w0 m v k b w) : Pend A q g cap B w0 m v k b w.drew := by
  obtain ⟨nv, nb, hd, own, st, s, ow, l, h1, h2, h3, h4, h5, h6, h7, h8⟩ := h
  exact ⟨nv, nb, hd, own, st, s, ow, l, h1.up (bl_drew w), h2.up (bl_drew w), h3, h4, h5, h6.trans ((bl_drew w).mono h1.hB), h7, h8⟩
theorem Pend.cells {m : Nat} {v : Bool} (hm : m < A.n) (h : Pend A q g cap B w0 m v k b w) : w.cell? ⟨q, 0, none⟩ = some (.slice (some ⟨g, 0, none⟩) A.n cap) ∧ w.cell? ⟨g, m, none⟩ = some (.int .i64 (hv (!v))) ∧ (∀ j, w.frozen? ⟨g, j, none⟩ = false) ∧ A.n ≤ cap := by
  obtain ⟨nv, nb, hd, own, st, s, ow, l, h1, h2, h3, h4⟩ := h
  refine ⟨h2.cells.1, ?_, h2.cells.2, h2.2.1⟩
  rw [h2.2.2.2.2 m hm, h3]
theorem Sta.cells (h : Sta A q g cap B w0 k b w) : w.cell? ⟨q, 0, none⟩ = some (.slice (some ⟨g, 0, none⟩) A.n cap) ∧ (∀ m, m < A.n → w.cell? ⟨g, m, none⟩ = some (.int .i64 0) ∨ w.cell? ⟨g, m, none⟩ = some (.int .i64 (-1))) ∧ A.n ≤ cap := by
  obtain ⟨nv, nb, hd, own, st, s, ow, l, h1, h2, h3, h4⟩ := h
  refine ⟨h2.cells.1, fun m hm => ?_, h2.2.1⟩
  rw [h2.2.2.2.2 m hm]
  cases hd m
  · exact .inr rfl
  · exact .inl rfl
theorem Sta.held (h : Sta A q g cap B w0 k b w) (hk : k < A.n) : ∃ j, j < A.n ∧ w.cell? ⟨g, j, none⟩ = some (.int .i64 0) := by
  obtain ⟨nv, nb, hd, own, st, s, ow, l, h1, h2, h3, h4⟩ := h
  obtain ⟨j, hj, e⟩ := h1.held (by omega)
  refine ⟨j, hj, ?_⟩
  rw [h2.2.2.2.2 j hj, e]
  rfl
/-- an act that is begun -/
def Bg (A : Ad) (q g cap B : Nat) (w0 : World) (k : Nat) (b : Int) (gv : Bool) (nx sl : Int) (e : Ending) (w : World) : Prop := ∃ a, e = .returned (.pointer (some ⟨a, 0, none⟩)) ∧ B ≤ a ∧ a ∉ [q, g] ∧ Ac a A 0 gv nx sl 0 0 w ∧ Sta A q g cap B w0 k b w
theorem begins {e : Ending} {gv : Bool} {nx sl : Int} (h : Sta A q g cap B w0 k b w) (hb : BegOf A 0 gv nx sl w e w1) : Bg A q g cap B w0 k b gv nx sl e w1 := by
  obtain ⟨a, rfl, h1, h2, h3⟩ := hb
  have h' := h
  obtain ⟨nv, nb, hd, own, st, s, ow, l, k1, k2, k3, k4⟩ := h'
  have := k1.hB
  refine ⟨a, rfl, by omega, fun hm => ?_, h2, h.up h3⟩
  have := k1.hw a hm
  omega
theorem sta_take (h : Sta A q g cap B w0 k b w) : Calls Try.prog 12 #[.pointer (some ⟨A.p, 0, none⟩), .int .i64 0] w (Bg A q g cap B w0 k b false 1 (-1)) := by
  have h' := h
  obtain ⟨nv, nb, hd, own, st, s, ow, l, k1, k2, k3, k4⟩ := h'
  exact (take_any 0 (by omega) (by rw [k1.k1]; omega) k1.po).mono fun e w' hb => begins h hb
theorem sta_give (m : Nat) (hm : m < A.n) (h : Sta A q g cap B w0 k b w) : Calls Try.prog 13 #[.pointer (some ⟨A.p, 0, none⟩), .int .i64 0, .int .i64 (m : Int)] w (Bg A q g cap B w0 k b true 0 m) := by
  have h' := h
  obtain ⟨nv, nb, hd, own, st, s, ow, l, k1, k2, k3, k4⟩ := h'
  exact (give_any 0 m (by omega) (by rw [k1.k1]; omega) (by omega) (by omega) k1.po).mono fun e w' hb => begins h hb
theorem Fr.rh {H : List Nat} {n : Nat} {hd : Nat → Bool} (h : Fr B [q, g] w w1) (hR : RH q g n cap hd w) : RH q g n cap hd w1 := by
  obtain ⟨S, t, hS⟩ := h
  exact hR.keep t (fun hm => (hS q hm).2 (by simp)) (fun hm => (hS g hm).2 (by simp))
theorem Fr.below (h : Fr B [q, g] w w1) (hb : Below B w0 w) (hB : B ≤ w.heap.size) : Below B w0 w1 := by
  obtain ⟨S, t, hS⟩ := h
  exact t.below hb (fun i hi => (hS i hi).1) hB
theorem sta_run (hk : 0 < k) (hb : b ≤ 80000) (h : Sta A q g cap B w0 k b w) (ha : Ac a A 0 false 1 sl tp bl w) (hB : B ≤ a) (hH : a ∉ [q, g]) :
    Calls Try.prog 23 #[.pointer (some ⟨a, 0, none⟩)] w fun e w' => ∃ (z : Int) (m : Nat) (tp' bl' : Int), e = .returned (.int .i64 z) ∧ 0 ≤ z ∧ m < A.n ∧ Ac a A 0 false 4 m tp' bl' w' ∧ Pend A q g cap B w0 m true (k - 1) (b + 3) w' := by
  obtain ⟨nv, nb, hd, own, st, s, ow, l, k1, k2, k3, k4, k5, k6, k7⟩ := h
  refine (al_take (by omega) k1 ha hB hH (by omega)).mono ?_
  rintro e w' ⟨z, m, own', st', s', ow', l', tp', bl', rfl, j1, j2, j3, j4, j5, j6, j7, j8⟩
  exact ⟨z, m, tp', bl', rfl, j1, j2, j7, nv, nb, hd, own', st', s', ow', l', j6, j8.rh (H := []) k2, by rw [j3]; rfl, by omega, by omega, j8.below k5 k1.hB, k6, k7⟩
theorem sta_none (hb : b ≤ 80000) (h : Sta A q g cap B w0 0 b w) (ha : Ac a A 0 false 1 sl tp bl w) (hB : B ≤ a) (hH : a ∉ [q, g]) :
    Calls Try.prog 23 #[.pointer (some ⟨a, 0, none⟩)] w fun e w' => ∃ (tp' bl' : Int), e = .returned (.int .i64 1) ∧ Ac a A 0 false 4 (-1) tp' bl' w' ∧ Sta A q g cap B w0 0 (b + 1) w' := by
  obtain ⟨nv, nb, hd, own, st, s, ow, l, k1, k2, k3, k4, k5, k6, k7⟩ := h
  obtain rfl : own = [] := List.length_eq_zero_iff.mp (by omega)
  obtain rfl : st = [] := List.length_eq_zero_iff.mp (by omega)
  refine (al_none k1 ha hB hH (by omega)).mono ?_
  rintro e w' ⟨rfl, tp', bl', j1, j2, j3⟩
  exact ⟨tp', bl', rfl, j2, nv, nb, hd, [], [], _, ow, l, j1, j3.rh (H := []) k2, rfl, by omega, j3.below k5 k1.hB, k6, k7⟩
theorem sta_back (m : Nat) (hm : m < A.n) (hc : w.cell? ⟨g, m, none⟩ = some (.int .i64 0)) (hb : b ≤ 80000) (h : Sta A q g cap B w0 k b w) (ha : Ac a A 0 true 0 (m : Int) tp bl w) (hB : B ≤ a) (hH : a ∉ [q, g]) :
    Calls Try.prog 23 #[.pointer (some ⟨a, 0, none⟩)] w fun e w' => ∃ (z : Int) (tp' bl' : Int), e = .returned (.int .i64 z) ∧ 0 ≤ z ∧ Ac a A 0 true 4 m tp' bl' w' ∧ Pend A q g cap B w0 m false (k + 1) (b + 3) w' := by
  obtain ⟨nv, nb, hd, own, st, s, ow, l, k1, k2, k3, k4, k5, k6, k7⟩ := h
  have hh : hd m = true := by
    rw [k2.2.2.2.2 m hm] at hc
    cases e : hd m
    · rw [e] at hc; simp [hv] at hc
    · rfl
  refine (al_back m hm hh k1 ha hB hH (by omega)).mono ?_
  rintro e w' ⟨z, own', st', s', ow', l', tp', bl', rfl, j1, j4, j5, j6, j7, j8⟩
  exact ⟨z, tp', bl', rfl, j1, j7, nv, nb, hd, own', st', s', ow', l', j6, j8.rh (H := []) k2, by rw [hh]; rfl, by omega, by omega, j8.below k5 k1.hB, k6, k7⟩
end
end Go.Proofs.Ytaihmkflhapjeaa

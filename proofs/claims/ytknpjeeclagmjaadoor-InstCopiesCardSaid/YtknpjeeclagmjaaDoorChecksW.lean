/-
  What the reference's Check answers of every problem whose lists lie in memory, and the walk of kurganlaw05.InstChecks.
-/
import Derived.Test.YtknpjeeclagmjaaDoorRefK
import Derived.Test.YtknpjeeclagmjaaDoorRefC
import Derived.Test.YtknpjeeclagmjaaDoorCopy
import Derived.Test.YtknpjeeclagmjaaDoorInsts
namespace Go.Proofs.YtknpjeeclagmjaaDoor
open Go.RowKit
set_option linter.unusedVariables false

theorem ref_any (K N C : Int) (wl vl : List Int) (cl : List (List Int)) (wa va ca : Option Addr) (wc vc cc : Nat) (w : World) (hw : Ints w wa wl) (hv : Ints w va vl) (hr : Rws w ca cl)
    (l1 : wl.length ≤ 1000) (l2 : vl.length ≤ 1000) (l3 : cl.length ≤ 1000) :
    Calls Tryd.prog 11 #[.agg #[.int .i64 K, .int .i64 N, .int .i64 C, .slice wa wl.length wc, .slice va vl.length vc, .slice ca cl.length cc]] w
      fun e w' => e = .returned (.int .i64 (chk K N C wl vl cl)) ∧ Below w.heap.size w w' := by
  by_cases hK : K < 1 ∨ 3 < K
  · rw [chk_kind hK]; exact refk_none K N C hK _ _ _ _ _ _ _ _ _ w
  · by_cases h1 : N < 1
    · rw [chk_arg hK h1]; exact refk_arg K N C (by omega) (by omega) h1 _ _ _ _ _ _ _ _ _ w
    · by_cases h2 : (K = 1 ∧ 64 < N) ∨ (K ≠ 1 ∧ 24 < N)
      · rw [chk_big hK h1 h2]; exact refk_big K N C (by omega) (by omega) h1 h2 _ _ _ _ _ _ _ _ _ w
      · by_cases h3 : formP K N C wl.length vl.length cl
        · by_cases h4 : K = 1
          · rw [chk_items hK h1 h2 h3 h4]
            obtain ⟨f1, f2, f3⟩ := form_items h3 h4
            subst h4
            rw [f3, ← f1]
            exact refk_items C wl vl wa va ca wc vc cc w hw hv (by omega) (by omega) (by omega)
          · rw [chk_costs hK h1 h2 h3 h4]
            obtain ⟨f1, f2, f3, f4, f5⟩ := form_costs h3 h4
            subst f2
            rw [f3, f4, ← f1]
            exact refc_costs K (by omega) (by omega) cl f5 (by omega) (by omega) wa va ca wc vc cc w hr
        · rw [chk_form hK h1 h2 h3]
          by_cases h4 : K = 1
          · subst h4
            exact refk_form N C h1 (by omega) _ _ _ (fun h => h3 (by unfold formP; exact Or.inl ⟨rfl, h.1, h.2.1, h.2.2⟩)) _ _ _ _ _ _ w
          · by_cases h5 : (cl.length : Int) = N ∧ C = 0 ∧ wl.length = 0 ∧ vl.length = 0
            · obtain ⟨f1, f2, f3, f4⟩ := h5
              have hbad : ¬ rowsP cl := fun h => h3 (by unfold formP; exact Or.inr ⟨h4, f1, f2, f3, f4, h⟩)
              subst f2
              rw [f3, f4, ← f1]
              exact refc_rows K (by omega) (by omega) cl hbad (by omega) (by omega) wa va ca wc vc cc w hr
            · exact refc_form K N C (by omega) (by omega) h1 (by omega) _ _ _ h5 _ _ _ _ _ _ w
theorem bl_undr {X w : World} (h : Below X.drew.heap.size X.drew w) : Below X.heap.size X w := ⟨h.os, h.tape, h.output, h.size, h.block⟩
theorem ck_keep {W W1 : World} {b : Nat} {v0 v1 v2 v3 v4 v5 : Value} (hb : Below W.heap.size W W1) (q : W.heap[b]? = some (.cells #[v0, v1, v2, v3, v4, v5] 25 (0, 0))) :
    W1.cell? ⟨b, 0, none⟩ = some v0 ∧ W1.cell? ⟨b, 1, none⟩ = some v1 ∧ W1.cell? ⟨b, 2, none⟩ = some v2 ∧ W1.cell? ⟨b, 3, none⟩ = some v3 ∧ W1.cell? ⟨b, 4, none⟩ = some v4 ∧ W1.cell? ⟨b, 5, none⟩ = some v5 := box6 ((hb.block _ (lt_hp q)).trans q)
set_option maxHeartbeats 2000000 in
theorem checks_walk (kd N C : Int) (wl vl : List Int) (cl : List (List Int)) (wa va ca : Option Addr) (wn vn cn wc vc cc : Nat) (w : World) (ht : Tab w) (h1 : Src w wa wn wc wl) (h2 : Src w va vn vc vl) (h3 : RSrc w ca cn cc cl) :
    Calls Tryd.prog 3 #[.agg #[.int .i64 kd, .int .i64 N, .int .i64 C, .slice wa wn wc, .slice va vn vc, .slice ca cn cc]] w fun e w' => e = .returned (.bool true) ∧ Below w.heap.size w w' := by
  have bA : Below w.heap.size w (w.alloc (.cells #[.int .i64 kd, .int .i64 N, .int .i64 C, .slice wa wn wc, .slice va vn vc, .slice ca cn cc] 25)) := bl_al (Below.refl _ _) _
  have HC := Lib.hid (refcopy_any kd N C wl vl cl wa va ca wn vn cn wc vc cc _ (h1.keep bA) (h2.keep bA) (h3.keep bA))
  have HT := Lib.hid (tab_keep _ _ ht bA)
  have HB := Lib.hid bA
  have hp := tab_pos ht
  have l1 : wl.length ≤ 1000 := by have := h1.1; omega
  have l2 : vl.length ≤ 1000 := by have := h2.1; omega
  have l3 : cl.length ≤ 1000 := by have := h3.1; omega
  clear h1 h2 h3 bA ht
  go_enter Tryd.func3, Tryd.ntmps3
  go_wp2_with fail
  refine HC.out.mono ?_; rintro e w1 ⟨g1, k1, g2, k2, ca', cc', rfl, hb, i1, i2, rw, -⟩
  have q0 : w1.heap[w.heap.size]? = some (.cells #[.int .i64 kd, .int .i64 N, .int .i64 C, .slice wa wn wc, .slice va vn vc, .slice ca cn cc] 25 (0, 0)) := (hb.block _ (by simp)).trans (heap_alloc_new w _)
  have Q := Lib.hid q0
  have T1 := Lib.hid (tab_keep _ _ HT.out hb)
  have B1 := Lib.hid (bl_tr HB.out hb)
  have I1 := Lib.hid i1
  have I2 := Lib.hid i2
  have RW := Lib.hid rw
  clear hb i1 i2 rw q0 HC HT HB
  obtain ⟨c0, c1, c2, c3, c4, c5⟩ := box6 Q.out
  have cf := fr6 Q.out
  have hs := lt_hp Q.out
  go_wp2
  clear c0 c1 c2 c3 c4 c5 cf
  have X0 := Lib.hid (six Q.out (.int .i64 kd) (.int .i64 N) (.int .i64 C) (.slice (some ⟨g1, 0, none⟩) wl.length k1) (.slice (some ⟨g2, 0, none⟩) vl.length k2) (.slice ca' cl.length cc'))
  have XO : Hid (∀ b, b ≠ w.heap.size → _ = _) := fun b hb => six_other (w := w1) hb (.int .i64 kd) (.int .i64 N) (.int .i64 C) (.slice (some ⟨g1, 0, none⟩) wl.length k1) (.slice (some ⟨g2, 0, none⟩) vl.length k2) (.slice ca' cl.length cc')
  have XB := Lib.hid (six_below B1.out (Nat.le_refl _) (.int .i64 kd) (.int .i64 N) (.int .i64 C) (.slice (some ⟨g1, 0, none⟩) wl.length k1) (.slice (some ⟨g2, 0, none⟩) vl.length k2) (.slice ca' cl.length cc'))
  have J1 := Lib.hid (I1.out.same (XO.out _ (I1.out.ne Q.out (by decide))))
  have J2 := Lib.hid (I2.out.same (XO.out _ (I2.out.ne Q.out (by decide))))
  have JR := Lib.hid (RW.out.other Q.out XO.out)
  have TX := Lib.hid (tab_b T1.out (six_below (Below.refl w.heap.size w1) (Nat.le_refl _) (.int .i64 kd) (.int .i64 N) (.int .i64 C) (.slice (some ⟨g1, 0, none⟩) wl.length k1) (.slice (some ⟨g2, 0, none⟩) vl.length k2) (.slice ca' cl.length cc')) hp)
  generalize ((((((w1.setCell ⟨w.heap.size, 0, none⟩ (.int .i64 kd)).setCell ⟨w.heap.size, 1, none⟩ (.int .i64 N)).setCell ⟨w.heap.size, 2, none⟩ (.int .i64 C)).setCell ⟨w.heap.size, 3, none⟩ (.slice (some ⟨g1, 0, none⟩) wl.length k1)).setCell ⟨w.heap.size, 4, none⟩ (.slice (some ⟨g2, 0, none⟩) vl.length k2)).setCell ⟨w.heap.size, 5, none⟩ (.slice ca' cl.length cc')) = X at X0 XO XB J1 J2 JR TX ⊢
  clear Q T1 B1 I1 I2 RW XO hs
  have K0 := Lib.hid (box6 X0.out)
  have CI := Lib.hid (insts_any X.drew TX.out)
  go_region_held3 (fun w' => w'.cell? ⟨w.heap.size, 0, none⟩ = some (.int .i64 kd) ∧ w'.cell? ⟨w.heap.size, 1, none⟩ = some (.int .i64 N) ∧ w'.cell? ⟨w.heap.size, 2, none⟩ = some (.int .i64 C) ∧ w'.cell? ⟨w.heap.size, 3, none⟩ = some (.slice (some ⟨g1, 0, none⟩) wl.length k1) ∧ w'.cell? ⟨w.heap.size, 4, none⟩ = some (.slice (some ⟨g2, 0, none⟩) vl.length k2) ∧ w'.cell? ⟨w.heap.size, 5, none⟩ = some (.slice ca' cl.length cc')) (first | exact K0.out | exact K1.out | exact K2.out | exact K3.out)
    (first
      | (go_at_call 9; refine CI.out.mono ?_; rintro e x1 ⟨rfl, b1⟩; have b1 := bl_undr b1; have K1 := Lib.hid (ck_keep b1 X0.out); have C2 := Lib.hid (check_any kd N C wl vl cl (some ⟨g1, 0, none⟩) (some ⟨g2, 0, none⟩) ca' k1 k2 cc' x1 (J1.out.keep b1).ints (J2.out.keep b1).ints (JR.out.keep b1).rws l1 l2 l3); have BB1 := Lib.hid b1; clear b1)
      | (go_at_call 10; refine C2.out.mono ?_; rintro e x2 ⟨rfl, b2⟩; have BB2 := Lib.hid (bl_tr BB1.out b2); have K2 := Lib.hid (ck_keep BB2.out X0.out); have C3 := Lib.hid (ref_any kd N C wl vl cl (some ⟨g1, 0, none⟩) (some ⟨g2, 0, none⟩) ca' k1 k2 cc' x2 (J1.out.keep BB2.out).ints (J2.out.keep BB2.out).ints (JR.out.keep BB2.out).rws l1 l2 l3); clear b2)
      | (go_at_call 11; refine C3.out.mono ?_; rintro e x3 ⟨rfl, b3⟩; have BB3 := Lib.hid (bl_tr BB2.out b3); have K3 := Lib.hid (ck_keep BB3.out X0.out); clear b3))
  all_goals go_wp2
  all_goals
    go_ret
    exact ⟨rfl, XB.out.trans (BB3.out.mono XB.out.size)⟩
end Go.Proofs.YtknpjeeclagmjaaDoor

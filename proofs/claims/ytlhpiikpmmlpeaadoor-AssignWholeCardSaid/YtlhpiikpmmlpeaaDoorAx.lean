/-
  assign: what the laws share: the reference's Check and Depth of a problem in memory; a copy put into its box.
-/
import Derived.Test.YtlhpiikpmmlpeaaDoorAw
import Derived.Test.YtlhpiikpmmlpeaaDoorRefC
import Derived.Test.YtlhpiikpmmlpeaaDoorRefK
import Derived.Test.YtlhpiikpmmlpeaaDoorCopy
namespace Go.Proofs.YtlhpiikpmmlpeaaDoor
open Go.RowKit
set_option linter.unusedVariables false
theorem ref_any (K N C : Int) (wl vl : List Int) (cl : List (List Int)) (wa va ca : Option Addr) (wc vc cc : Nat) (w : World) (h : Prob w wl vl cl wa va ca) :
    Calls Tryd.prog 19 #[.agg #[.int .i64 K, .int .i64 N, .int .i64 C, .slice wa wl.length wc, .slice va vl.length vc, .slice ca cl.length cc]] w
      fun e w' => e = .returned (.int .i64 (chk K N C wl vl cl)) ∧ Below w.heap.size w w' := by
  obtain ⟨hw, hv, hr, l1, l2, l3⟩ := h
  by_cases hK : K < 1 ∨ 3 < K
  · rw [chk_kind hK]; exact refk_none K N C hK _ _ _ _ _ _ _ _ _ w
  · by_cases h1 : N < 1
    · rw [chk_arg hK h1]; exact refk_arg K N C (by omega) (by omega) h1 _ _ _ _ _ _ _ _ _ w
    · by_cases h2 : (K = 1 ∧ 64 < N) ∨ (K ≠ 1 ∧ 24 < N)
      · rw [chk_big hK h1 h2]; exact refk_big K N C (by omega) (by omega) h1 h2 _ _ _ _ _ _ _ _ _ w
      · by_cases h3 : formP K N C wl.length vl.length cl
        · by_cases h4 : K = 1
          · rw [chk_items hK h1 h2 h3 h4]
            obtain ⟨f1, f2, f3⟩ := form_items h3 h4
            subst h4
            rw [f3, ← f1]
            exact refk_items C wl vl wa va ca wc vc cc w hw hv (by omega) (by omega) (by omega)
          · rw [chk_costs hK h1 h2 h3 h4]
            obtain ⟨f1, f2, f3, f4, f5⟩ := form_costs h3 h4
            subst f2
            rw [f3, f4, ← f1]
            exact refc_costs K (by omega) (by omega) cl f5 (by omega) (by omega) wa va ca wc vc cc w hr
        · rw [chk_form hK h1 h2 h3]
          by_cases h4 : K = 1
          · subst h4
            exact refk_form N C h1 (by omega) _ _ _ (fun h => h3 (by unfold formP; exact Or.inl ⟨rfl, h.1, h.2.1, h.2.2⟩)) _ _ _ _ _ _ w
          · by_cases h5 : (cl.length : Int) = N ∧ C = 0 ∧ wl.length = 0 ∧ vl.length = 0
            · obtain ⟨f1, f2, f3, f4⟩ := h5
              have hbad : ¬ rowsP cl := fun h => h3 (by unfold formP; exact Or.inr ⟨h4, f1, f2, f3, f4, h⟩)
              subst f2
              rw [f3, f4, ← f1]
              exact refc_rows K (by omega) (by omega) cl hbad (by omega) (by omega) wa va ca wc vc cc w hr
            · exact refc_form K N C (by omega) (by omega) h1 (by omega) _ _ _ h5 _ _ _ _ _ _ w
/-- the box of a problem, once its copy is put into it -/
theorem put_copy {w w1 : World} {b g1 g2 k1 k2 cc : Nat} {ca : Option Addr} {K N C : Int} {wl vl : List Int} {cl : List (List Int)} {B : Nat} {v0 v1 v2 v3 v4 v5 : Value}
    (hw : w.heap.size ≤ b) (q : w1.heap[b]? = some (.cells #[v0, v1, v2, v3, v4, v5] 25 (0, 0))) (hb : Below w.heap.size w w1) (i1 : IntsO w1 g1 wl) (i2 : IntsO w1 g2 vl) (rw : RwsO B w1 ca cl) (l1 : wl.length ≤ 1000) (l2 : vl.length ≤ 1000) (l3 : cl.length ≤ 1000)
    (X : World) (hX : X = (((((w1.setCell ⟨b, 0, none⟩ (.int .i64 K)).setCell ⟨b, 1, none⟩ (.int .i64 N)).setCell ⟨b, 2, none⟩ (.int .i64 C)).setCell ⟨b, 3, none⟩ (.slice (some ⟨g1, 0, none⟩) wl.length k1)).setCell ⟨b, 4, none⟩ (.slice (some ⟨g2, 0, none⟩) vl.length k2)).setCell ⟨b, 5, none⟩ (.slice ca cl.length cc)) :
    X.heap[b]? = some (.cells #[.int .i64 K, .int .i64 N, .int .i64 C, .slice (some ⟨g1, 0, none⟩) wl.length k1, .slice (some ⟨g2, 0, none⟩) vl.length k2, .slice ca cl.length cc] 25 (0, 0)) ∧ Prob X wl vl cl (some ⟨g1, 0, none⟩) (some ⟨g2, 0, none⟩) ca ∧ Below w.heap.size w X := by
  subst hX
  have XO : ∀ k, k ≠ b → _ = _ := fun k hk => six_other (w := w1) hk (.int .i64 K) (.int .i64 N) (.int .i64 C) (.slice (some ⟨g1, 0, none⟩) wl.length k1) (.slice (some ⟨g2, 0, none⟩) vl.length k2) (.slice ca cl.length cc)
  exact ⟨six q _ _ _ _ _ _, ⟨(i1.same (XO _ (i1.ne q (by decide)))).ints, (i2.same (XO _ (i2.ne q (by decide)))).ints, (rw.other q XO).rws, l1, l2, l3⟩, six_below hb hw _ _ _ _ _ _⟩
theorem rdepth_any (K N C : Int) (a b c : Value) (w : World) : Calls Tryd.prog 22 #[.agg #[.int .i64 K, .int .i64 N, .int .i64 C, a, b, c]] w fun e w' => e = .returned (.int .i64 N) ∧ Below w.heap.size w w' := by
  have HB := Lib.hid (bl_al (Below.refl _ w) (.cells #[.int .i64 K, .int .i64 N, .int .i64 C, a, b, c] 25))
  have c1 := (cell_of_row _ _ 1 _ _ _ (heap_alloc_new w (.cells #[.int .i64 K, .int .i64 N, .int .i64 C, a, b, c] 25))).trans (show _ = some (Value.int .i64 N) from rfl)
  go_enter Tryd.func22, Tryd.ntmps22
  go_wp2
  go_ret
  exact ⟨rfl, HB.out⟩
end Go.Proofs.YtlhpiikpmmlpeaaDoor

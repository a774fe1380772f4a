/-
  The reference's Check.
-/
import Derived.Test.YtjlaankgfpjeeaaInRefC
import Derived.Test.YtjlaankgfpjeeaaInRefK
namespace Go.Proofs.Ytjlaankgfpjeeaa.ip
open Go.RowKit
set_option linter.unusedVariables false
theorem ref_any (K N C : Int) (wl vl : List Int) (cl : List (List Int)) (wa va ca : Option Addr) (wc vc cc : Nat) (w : World) (hw : Ints w wa wl) (hv : Ints w va vl) (hr : Rws w ca cl) (l1 : wl.length ≤ 1000) (l2 : vl.length ≤ 1000) (l3 : cl.length ≤ 1000) :
    Calls Try.prog 6 #[.agg #[.int .i64 K, .int .i64 N, .int .i64 C, .slice wa wl.length wc, .slice va vl.length vc, .slice ca cl.length cc]] w
      fun e w' => e = .returned (.int .i64 (chk K N C wl vl cl)) ∧ Below w.heap.size w w' := by
  by_cases hK : K < 1 ∨ 3 < K
  · rw [chk_kind hK]; exact refk_none K N C hK _ _ _ _ _ _ _ _ _ w
  · by_cases h1 : N < 1
    · rw [chk_arg hK h1]; exact refk_arg K N C (by omega) (by omega) h1 _ _ _ _ _ _ _ _ _ w
    · by_cases h2 : (K = 1 ∧ 64 < N) ∨ (K ≠ 1 ∧ 24 < N)
      · rw [chk_big hK h1 h2]; exact refk_big K N C (by omega) (by omega) h1 h2 _ _ _ _ _ _ _ _ _ w
      · by_cases h3 : formP K N C wl.length vl.length cl
        · by_cases h4 : K = 1
          · rw [chk_items hK h1 h2 h3 h4]
            obtain ⟨f1, f2, f3⟩ := form_items h3 h4
            subst h4
            rw [f3, ← f1]
            exact refk_items C wl vl wa va ca wc vc cc w hw hv (by omega) (by omega) (by omega)
          · rw [chk_costs hK h1 h2 h3 h4]
            obtain ⟨f1, f2, f3, f4, f5⟩ := form_costs h3 h4
            subst f2
            rw [f3, f4, ← f1]
            exact refc_costs K (by omega) (by omega) cl f5 (by omega) (by omega) wa va ca wc vc cc w hr
        · rw [chk_form hK h1 h2 h3]
          by_cases h4 : K = 1
          · subst h4
            exact refk_form N C h1 (by omega) _ _ _ (fun h => h3 (by unfold formP; exact Or.inl ⟨rfl, h.1, h.2.1, h.2.2⟩)) _ _ _ _ _ _ w
          · by_cases h5 : (cl.length : Int) = N ∧ C = 0 ∧ wl.length = 0 ∧ vl.length = 0
            · obtain ⟨f1, f2, f3, f4⟩ := h5
              have hbad : ¬ rowsP cl := fun h => h3 (by unfold formP; exact Or.inr ⟨h4, f1, f2, f3, f4, h⟩)
              subst f2
              rw [f3, f4, ← f1]
              exact refc_rows K (by omega) (by omega) cl hbad (by omega) (by omega) wa va ca wc vc cc w hr
            · exact refc_form K N C (by omega) (by omega) h1 (by omega) _ _ _ h5 _ _ _ _ _ _ w
end Go.Proofs.Ytjlaankgfpjeeaa.ip

/-
  For every problem, kurganlaw11.KnapWhole answers true and leaves it as it was. No condition.
-/
import Derived.Test.YteoionlnnjcggaaWf
import Derived.Test.YteoionlnnjcggaaOpen
import Derived.Test.YteoionlnnjcggaaRows
import Derived.ProofKit
import Derived.OpenShut
import Derived.ChangeOld
import Derived.Below
import Derived.Carry
import Derived.ShutString
namespace Go.Proofs.Yteoionlnnjcggaa.knapWhole
open Go.ChangeMaps (open_string shut_string)
open Go.ChangeShapes Go.WideShapes Go.ChangeAt Go.RowKit
set_option linter.unusedVariables false

theorem own : ownKnob Try.prog.godebug = none := by kernel_rfl
theorem laidOut : laidOutB Try.prog = true := by kernel_rfl
theorem walk (kd0 N0 C0 : Int) (wl0 vl0 : List Int) (cl0 : List (List Int)) (wa0 va0 ca0 : Option Addr) (wn0 vn0 cn0 wc0 vc0 cc0 : Nat) (W : World) (sa0 : Src W wa0 wn0 wc0 wl0) (sb0 : Src W va0 vn0 vc0 vl0) (sc0 : RSrc W ca0 cn0 cc0 cl0) :
    Calls Try.prog 7 #[.agg #[.int .i64 kd0, .int .i64 N0, .int .i64 C0, .slice wa0 wn0 wc0, .slice va0 vn0 vc0, .slice ca0 cn0 cc0]] W fun e w' => e = .returned (.bool true) ∧ Below W.heap.size W w' :=
  kn.whole_walk kd0 N0 C0 wl0 vl0 cl0 wa0 va0 ca0 wn0 vn0 cn0 wc0 vc0 cc0 W sa0 sb0 sc0

set_option maxRecDepth 100000 in
theorem lifted (os : Os) (started : os.Started) (H : Type) (enc : TypeId × Value → H) :
    ReturnsInHanded {} Try.checked os 7 .any (Rows.knapWholeSpec.pre6 enc Try.prog Try.f7 Rows.knapWholeRow.domain false) (Rows.knapWholeSpec.post enc Try.prog Try.f7 false true false false) := by
  refine returnsInHanded_of_change (C := Try.checked) own started (by kernel_rfl) Try.func7
    (ChangeSpec.witness6 (enc := enc) (C := Try.checked) false ⟨#[], #[.agg #[.int .i64 0, .int .i64 0, .int .i64 0, .slice none 0 0, .slice none 0 0, .slice none 0 0]], []⟩ 8 (by kernel_rfl) (by kernel_rfl) (by kernel_rfl) (by kernel_rfl)) ?_
  intro W base args ds gs before hval0 hW hcnd _
  have hval : ∀ (j : Nat) t v, Try.f7.params[j]? = some t → args[j]? = some v → Value.okWide Try.prog W .any base t v := hval0
  have hW' := hW
  obtain ⟨p, q, hA0, hV, rfl, hfz, hnd⟩ := hW
  have hA : DataW.TrodAll enc Try.prog W 0 (fun _ => true) true Try.f7.params.toList args.toList ds p := hA0
  rw [Try.params7] at hA hval
  obtain ⟨v0, vs0, d0, ds0, p0, q0, e0, rfl, rfl, h0, r0⟩ := trodAll_cons hA
  obtain ⟨rfl, rfl, rfl⟩ := trodAll_nil r0
  obtain rfl : args = #[v0] := by cases args; simp_all
  obtain ⟨rfl, rfl⟩ := trodVars_none hV
  have lt0 : ∀ x ∈ p0, x.block < W.heap.size := by obtain ⟨m, hm⟩ := h0; exact DataW.trod_lt m _ _ _ hm
  have k0 := h0
  obtain ⟨kd0, N0, C0, wa0, va0, ca0, wn0, vn0, cn0, wc0, vc0, cc0, wl0, vl0, cl0, rfl, sa0, sb0, sc0⟩ := open_inst (hval 0 25 v0 rfl rfl) h0
  clear hA0 hval0
  simp only [List.append_nil] at hW'
  refine (walk kd0 N0 C0 wl0 vl0 cl0 wa0 va0 ca0 wn0 vn0 cn0 wc0 vc0 cc0 W sa0 sb0 sc0).mono fun e W' ⟨he, bel⟩ => ?_
  subst he
  exact ⟨_, rfl, _, _, _, [], _, [], hW', trodAll_mk1 (shut_bool Try.underlying4 _), (trodAll_cons_mk (Below.trod laidOut (by kernel_rfl) (of_decide_eq_true (by kernel_rfl)) k0 bel lt0) trodAll_mk0), rfl, bel.frame _, fun h => by cases h⟩

theorem over : Rows.knapWholeRow.holds Try.pinned (OpenSpec.ofChange Rows.knapWholeSpec) :=
  OpenClaim.holds_of_wide 7 Try.f7 rfl rfl rfl rfl rfl rfl rfl ⟨rfl, rfl, rfl, rfl, rfl⟩ rfl rfl rfl rfl rfl (by kernel_rfl) Try.func7 (by kernel_rfl)
    (of_decide_eq_true (by kernel_rfl)) (by unfold Func.isWrapper; first | (rw [if_pos (by decide +kernel)]; kernel_rfl) | (rw [if_neg (by decide +kernel)]; exact ⟨rfl, rfl⟩))
    (fun os started H enc _ => lifted os started H enc)

/-- the statement -/
theorem proved : Rows.KnapWholeSaid := over
#print axioms proved
end Go.Proofs.Yteoionlnnjcggaa.knapWhole


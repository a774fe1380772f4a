/-
  For every problem and list, kurganlaw10.GreedyBetters answers true and leaves them as they were: Better tells what the chapter does, an answer that costs no more than the one handed in, which stays. No condition.
-/
import Derived.Test.YtaobaiifbmhegaaLb
import Derived.Test.YtaobaiifbmhegaaOpen
import Derived.Test.YtaobaiifbmhegaaRows
import Derived.ProofKit
import Derived.OpenShut
import Derived.ChangeOld
import Derived.Below
import Derived.Carry
import Derived.ShutString
namespace Go.Proofs.Ytaobaiifbmhegaa.greedyBetters
open Go.ChangeMaps (open_string shut_string)
open Go.ChangeShapes Go.WideShapes Go.ChangeAt Go.RowKit
set_option linter.unusedVariables false

theorem own : ownKnob Try.prog.godebug = none := by kernel_rfl
theorem laidOut : laidOutB Try.prog = true := by kernel_rfl
theorem walk (kd0 N0 C0 : Int) (wl0 vl0 : List Int) (cl0 : List (List Int)) (wa0 va0 ca0 : Option Addr) (wn0 vn0 cn0 wc0 vc0 cc0 : Nat) (x1 : List Int) (a1 : Option Addr) (n1 c1 : Nat) (W : World) (sa0 : Src W wa0 wn0 wc0 wl0) (sb0 : Src W va0 vn0 vc0 vl0) (sc0 : RSrc W ca0 cn0 cc0 cl0) (s1 : kn.Arg 30 W a1 n1 c1 x1) :
    Calls Try.prog 4 #[.agg #[.int .i64 kd0, .int .i64 N0, .int .i64 C0, .slice wa0 wn0 wc0, .slice va0 vn0 vc0, .slice ca0 cn0 cc0], .slice a1 n1 c1] W fun e w' => e = .returned (.bool true) ∧ Below W.heap.size W w' :=
  greedyBetters_walk kd0 N0 C0 wl0 vl0 cl0 wa0 va0 ca0 wn0 vn0 cn0 wc0 vc0 cc0 x1 a1 n1 c1 W sa0 sb0 sc0 s1

set_option maxRecDepth 100000 in
theorem lifted (os : Os) (started : os.Started) (H : Type) (enc : TypeId × Value → H) :
    ReturnsInHanded {} Try.checked os 4 .any (Rows.greedyBettersSpec.pre6 enc Try.prog Try.f4 Rows.greedyBettersRow.domain false) (Rows.greedyBettersSpec.post enc Try.prog Try.f4 false true false false) := by
  refine returnsInHanded_of_change (C := Try.checked) own started (by kernel_rfl) Try.func4
    (ChangeSpec.witness6 (enc := enc) (C := Try.checked) false ⟨#[], #[.agg #[.int .i64 0, .int .i64 0, .int .i64 0, .slice none 0 0, .slice none 0 0, .slice none 0 0], .slice none 0 0], []⟩ 8 (by kernel_rfl) (by kernel_rfl) (by kernel_rfl) (by kernel_rfl)) ?_
  intro W base args ds gs before hval0 hW hcnd _
  have hval : ∀ (j : Nat) t v, Try.f4.params[j]? = some t → args[j]? = some v → Value.okWide Try.prog W .any base t v := hval0
  have hW' := hW
  obtain ⟨p, q, hA0, hV, rfl, hfz, hnd⟩ := hW
  have hA : DataW.TrodAll enc Try.prog W 0 (fun _ => true) true Try.f4.params.toList args.toList ds p := hA0
  rw [Try.params4] at hA hval
  obtain ⟨v0, vs0, d0, ds0, p0, q0, e0, rfl, rfl, h0, r0⟩ := trodAll_cons hA
  obtain ⟨v1, vs1, d1, ds1, p1, q1, rfl, rfl, rfl, h1, r1⟩ := trodAll_cons r0
  obtain ⟨rfl, rfl, rfl⟩ := trodAll_nil r1
  obtain rfl : args = #[v0, v1] := by cases args; simp_all
  obtain ⟨rfl, rfl⟩ := trodVars_none hV
  have lt0 : ∀ x ∈ p0, x.block < W.heap.size := by obtain ⟨m, hm⟩ := h0; exact DataW.trod_lt m _ _ _ hm
  have k0 := h0
  obtain ⟨kd0, N0, C0, wa0, va0, ca0, wn0, vn0, cn0, wc0, vc0, cc0, wl0, vl0, cl0, rfl, sa0, sb0, sc0⟩ := open_inst (hval 0 25 v0 rfl rfl) h0
  have lt1 : ∀ x ∈ p1, x.block < W.heap.size := by obtain ⟨m, hm⟩ := h1; exact DataW.trod_lt m _ _ _ hm
  have k1 := h1
  obtain ⟨a1, n1, c1, rfl⟩ := okWide_slice Try.underlying22 (hval 1 22 v1 rfl rfl)
  obtain ⟨x1, s1⟩ : ∃ l, kn.Arg 30 W a1 n1 c1 l := by
    obtain ⟨fuel, hf⟩ := h1
    obtain ⟨a', n', c', l, e, s⟩ := kn.open_arg 30 (by simpa [Value.cells] using hf)
    cases e
    exact ⟨l, s⟩
  clear hA0 hval0
  simp only [List.append_nil] at hW'
  refine (walk kd0 N0 C0 wl0 vl0 cl0 wa0 va0 ca0 wn0 vn0 cn0 wc0 vc0 cc0 x1 a1 n1 c1 W sa0 sb0 sc0 s1).mono fun e W' ⟨he, bel⟩ => ?_
  subst he
  exact ⟨_, rfl, _, _, _, [], _, [], hW', trodAll_mk1 (shut_bool Try.underlying4 _), (trodAll_cons_mk (Below.trod laidOut (by kernel_rfl) (of_decide_eq_true (by kernel_rfl)) k0 bel lt0) (trodAll_cons_mk (Below.trod laidOut (by kernel_rfl) (of_decide_eq_true (by kernel_rfl)) k1 bel lt1) trodAll_mk0)), rfl, bel.frame _, fun h => by cases h⟩

theorem over : Rows.greedyBettersRow.holds Try.pinned (OpenSpec.ofChange Rows.greedyBettersSpec) :=
  OpenClaim.holds_of_wide 4 Try.f4 rfl rfl rfl rfl rfl rfl rfl ⟨rfl, rfl, rfl, rfl, rfl⟩ rfl rfl rfl rfl rfl (by kernel_rfl) Try.func4 (by kernel_rfl)
    (of_decide_eq_true (by kernel_rfl)) (by unfold Func.isWrapper; first | (rw [if_pos (by decide +kernel)]; kernel_rfl) | (rw [if_neg (by decide +kernel)]; exact ⟨rfl, rfl⟩))
    (fun os started H enc _ => lifted os started H enc)

/-- the statement -/
theorem proved : Rows.GreedyBettersSaid := over
#print axioms proved
end Go.Proofs.Ytaobaiifbmhegaa.greedyBetters


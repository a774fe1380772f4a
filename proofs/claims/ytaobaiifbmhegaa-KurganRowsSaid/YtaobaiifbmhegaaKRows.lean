/-
  kurgantop.KurganRows: the frame.
-/
import Derived.Test.YtaobaiifbmhegaaKq
import Derived.Test.YtaobaiifbmhegaaRows
import Derived.ProofKit
import Derived.OpenShut
import Derived.ChangeOld
import Derived.Below
import Derived.Carry
import Derived.ShutString
namespace Go.Proofs.Ytaobaiifbmhegaa.kurganRows
open Go.ChangeMaps (open_string shut_string)
open Go.ChangeShapes Go.WideShapes Go.ChangeAt Go.RowKit
set_option linter.unusedVariables false

theorem own : ownKnob Try.prog.godebug = none := by kernel_rfl
theorem laidOut : laidOutB Try.prog = true := by kernel_rfl
theorem walk (kd0 N0 C0 : Int) (wl0 vl0 : List Int) (cl0 : List (List Int)) (wa0 va0 ca0 : Option Addr) (wc0 vc0 cc0 : Nat) (z1 : Int) (x2 : List Int) (a2 : Option Addr) (n2 c2 : Nat) (W : World) (sa0 : Ints W wa0 wl0) (sb0 : Ints W va0 vl0) (sc0 : RwF W ca0 cl0) (w1 : (Lit.int .i64 z1).wf = true) (s2 : kn.Arg 20 W a2 n2 c2 x2) :
    Calls Try.prog 8 #[.agg #[.int .i64 kd0, .int .i64 N0, .int .i64 C0, .slice wa0 wl0.length wc0, .slice va0 vl0.length vc0, .slice ca0 cl0.length cc0], .int .i64 z1, .slice a2 n2 c2] W fun e w' => e = .returned (.bool true) ∧ Below W.heap.size W w' :=
  kurganRows_walk kd0 N0 C0 wl0 vl0 cl0 wa0 va0 ca0 wc0 vc0 cc0 z1 x2 a2 n2 c2 W sa0 sb0 sc0 w1 s2

set_option maxRecDepth 100000 in
theorem lifted (os : Os) (started : os.Started) (H : Type) (enc : TypeId × Value → H) :
    ReturnsInHanded {} Try.checked os 8 .any (Rows.kurganRowsSpec.pre6 enc Try.prog Try.f8 Rows.kurganRowsRow.domain false) (Rows.kurganRowsSpec.post enc Try.prog Try.f8 false true false false) := by
  refine returnsInHanded_of_change (C := Try.checked) own started (by kernel_rfl) Try.func8
    (ChangeSpec.witness6 (enc := enc) (C := Try.checked) false ⟨#[], #[.agg #[.int .i64 0, .int .i64 0, .int .i64 0, .slice none 0 0, .slice none 0 0, .slice none 0 0], .int .i64 0, .slice none 0 0], []⟩ 8 (by kernel_rfl) (by kernel_rfl) (by kernel_rfl) (by kernel_rfl)) ?_
  intro W base args ds gs before hval0 hW hcnd _
  have hval : ∀ (j : Nat) t v, Try.f8.params[j]? = some t → args[j]? = some v → Value.okWide Try.prog W .any base t v := hval0
  have hW' := hW
  obtain ⟨p, q, hA0, hV, rfl, hfz, hnd⟩ := hW
  have hA : DataW.TrodAll enc Try.prog W 0 (fun _ => true) true Try.f8.params.toList args.toList ds p := hA0
  rw [Try.params8] at hA hval
  obtain ⟨v0, vs0, d0, ds0, p0, q0, e0, rfl, rfl, h0, r0⟩ := trodAll_cons hA
  obtain ⟨v1, vs1, d1, ds1, p1, q1, rfl, rfl, rfl, h1, r1⟩ := trodAll_cons r0
  obtain ⟨v2, vs2, d2, ds2, p2, q2, rfl, rfl, rfl, h2, r2⟩ := trodAll_cons r1
  obtain ⟨rfl, rfl, rfl⟩ := trodAll_nil r2
  obtain rfl : args = #[v0, v1, v2] := by cases args; simp_all
  obtain ⟨rfl, rfl⟩ := trodVars_none hV
  have lt0 : ∀ x ∈ p0, x.block < W.heap.size := by obtain ⟨m, hm⟩ := h0; exact DataW.trod_lt m _ _ _ hm
  have k0 := h0
  obtain ⟨kd0, N0, C0, wa0, va0, ca0, wc0, vc0, cc0, wl0, vl0, cl0, rfl, sa0, sb0, sc0⟩ := open_instF (hval 0 25 v0 rfl rfl) h0
  obtain ⟨z1, rfl, rfl, rfl, w1⟩ := open_int Try.underlying3 (hval 1 3 v1 rfl rfl) h1
  have lt2 : ∀ x ∈ p2, x.block < W.heap.size := by obtain ⟨m, hm⟩ := h2; exact DataW.trod_lt m _ _ _ hm
  have k2 := h2
  obtain ⟨a2, n2, c2, rfl⟩ := okWide_slice Try.underlying22 (hval 2 22 v2 rfl rfl)
  obtain ⟨x2, s2⟩ : ∃ l, kn.Arg 20 W a2 n2 c2 l := by
    obtain ⟨fuel, hf⟩ := h2
    obtain ⟨a', n', c', l, e, s⟩ := kn.open_arg 20 (by simpa [Value.cells] using hf)
    cases e
    exact ⟨l, s⟩
  clear hA0 hval0
  simp only [List.append_nil] at hW'
  refine (walk kd0 N0 C0 wl0 vl0 cl0 wa0 va0 ca0 wc0 vc0 cc0 z1 x2 a2 n2 c2 W sa0 sb0 sc0 w1 s2).mono fun e W' ⟨he, bel⟩ => ?_
  subst he
  exact ⟨_, rfl, _, _, _, [], _, [], hW', trodAll_mk1 (shut_bool Try.underlying4 _), (trodAll_cons_mk (Below.trod laidOut (by kernel_rfl) (of_decide_eq_true (by kernel_rfl)) k0 bel lt0) (trodAll_cons_mk (shut_int Try.underlying3 w1) (trodAll_cons_mk (Below.trod laidOut (by kernel_rfl) (of_decide_eq_true (by kernel_rfl)) k2 bel lt2) trodAll_mk0))), rfl, bel.frame _, fun h => by cases h⟩

theorem over : Rows.kurganRowsRow.holds Try.pinned (OpenSpec.ofChange Rows.kurganRowsSpec) :=
  OpenClaim.holds_of_wide 8 Try.f8 rfl rfl rfl rfl rfl rfl rfl ⟨rfl, rfl, rfl, rfl, rfl⟩ rfl rfl rfl rfl rfl (by kernel_rfl) Try.func8 (by kernel_rfl)
    (of_decide_eq_true (by kernel_rfl)) (by unfold Func.isWrapper; first | (rw [if_pos (by decide +kernel)]; kernel_rfl) | (rw [if_neg (by decide +kernel)]; exact ⟨rfl, rfl⟩))
    (fun os started H enc _ => lifted os started H enc)

/-- the statement -/
theorem proved : Rows.KurganRowsSaid := over
#print axioms proved
end Go.Proofs.Ytaobaiifbmhegaa.kurganRows


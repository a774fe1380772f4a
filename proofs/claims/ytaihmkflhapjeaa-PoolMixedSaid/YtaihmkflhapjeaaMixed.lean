/-
  PoolMixed: for every number of slots and every row of turns the statement holds: however the Steps of four workers come one behind the other, no slot is taken by two, none is lost, who is told that none is free met the stack empty, and a Step makes one step of the memory at most. No condition.
-/
import Derived.Test.YtaihmkflhapjeaaOpenT
import Derived.Test.YtaihmkflhapjeaaMxL
import Derived.Test.YtaihmkflhapjeaaRows
import Derived.ProofKit
import Derived.OpenShut
import Derived.ChangeOld
import Derived.Below
import Derived.Carry
namespace Go.Proofs.Ytaihmkflhapjeaa.poolMixed
open Go.ChangeShapes Go.WideShapes Go.ChangeAt Go.RowKit
set_option linter.unusedVariables false

theorem poolMixed_walk (o : Int) (ra : Option Addr) (rn rc : Nat) (W : World) (tw tt ta : Nat → Int) (hJ : TI W ra rn tw tt ta) :
    Calls Try.prog 4 #[.int .i64 o, .slice ra rn rc] W fun e w' => e = .returned (.bool true) ∧ Below W.heap.size W w' := by
  have h1 := (u64_bd o).1
  refine mixed_core o (IntKind.u64.wrap o) ((IntKind.u64.wrap o % 12).toNat + 1) (IntKind.u64.wrap o % 12).toNat (min rn 300) rfl h1 (by omega) (by omega) rfl ra rn rc tw tt ta W (by omega) (fun k hk => by omega) (fun h => by omega) (fun k hk => ?_)
  obtain ⟨b, oo, e, hb, c1, c2, c3⟩ := hJ k (by omega)
  exact ⟨b, oo, e, fun W' hW => ⟨(hW.cell (p := ⟨b, oo + k * 3, none⟩) hb).trans c1, (hW.cell (p := ⟨b, oo + k * 3 + 1, none⟩) hb).trans c2, (hW.cell (p := ⟨b, oo + k * 3 + 2, none⟩) hb).trans c3⟩⟩
theorem own : ownKnob Try.prog.godebug = none := by kernel_rfl
theorem laidOut : laidOutB Try.prog = true := by kernel_rfl
set_option maxRecDepth 100000 in
theorem lifted (os : Os) (started : os.Started) (H : Type) (enc : TypeId × Value → H) :
    ReturnsInHanded {} Try.checked os 4 .any (Rows.poolMixedSpec.pre6 enc Try.prog Try.f4 Rows.poolMixedRow.domain false) (Rows.poolMixedSpec.post enc Try.prog Try.f4 false true false false) := by
  refine returnsInHanded_of_change (C := Try.checked) own started (by kernel_rfl) Try.func4
    (ChangeSpec.witness6 (enc := enc) (C := Try.checked) false ⟨#[], #[.int .i64 0, .slice none 0 0], []⟩ 8 (by kernel_rfl) (by kernel_rfl) (by kernel_rfl) (by kernel_rfl)) ?_
  intro W base args ds gs before hval0 hW hcnd _
  have hval : ∀ (j : Nat) t v, Try.f4.params[j]? = some t → args[j]? = some v → Value.okWide Try.prog W .any base t v := hval0
  have hW' := hW
  obtain ⟨p, q, hA0, hV, rfl, hfz, hnd⟩ := hW
  have hA : DataW.TrodAll enc Try.prog W 0 (fun _ => true) true Try.f4.params.toList args.toList ds p := hA0
  rw [Try.params4] at hA hval
  obtain ⟨v0, vs0, d0, ds0, p0, q0, e0, rfl, rfl, h0, r0⟩ := trodAll_cons hA
  obtain ⟨v1, vs1, d1, ds1, p1, q1, rfl, rfl, rfl, h1, r1⟩ := trodAll_cons r0
  obtain ⟨rfl, rfl, rfl⟩ := trodAll_nil r1
  obtain rfl : args = #[v0, v1] := by cases args; simp_all
  obtain ⟨rfl, rfl⟩ := trodVars_none hV
  obtain ⟨z0, rfl, rfl, rfl, w0⟩ := open_int Try.underlying3 (hval 0 3 v0 rfl rfl) h0
  have lt1 : ∀ x ∈ p1, x.block < W.heap.size := by obtain ⟨m, hm⟩ := h1; exact DataW.trod_lt m _ _ _ hm
  have k1 := h1
  obtain ⟨a1, n1, c1, rfl⟩ := okWide_slice Try.underlying41 (hval 1 41 v1 rfl rfl)
  obtain ⟨tw1, tt1, ta1, s1⟩ : ∃ tw tt ta, TI W a1 n1 tw tt ta := by
    obtain ⟨fuel, hf⟩ := h1
    exact open_turns (by simpa [Value.cells] using hf)
  clear hA0 hval0
  simp only [List.append_nil] at hW'
  refine (poolMixed_walk z0 a1 n1 c1 W tw1 tt1 ta1 s1).mono fun e W' ⟨he, bel⟩ => ?_
  subst he
  exact ⟨_, rfl, _, _, _, [], _, [], hW', trodAll_mk1 (shut_bool Try.underlying4 _), (trodAll_cons_mk (shut_int Try.underlying3 w0) (trodAll_cons_mk (Below.trod laidOut (by kernel_rfl) (of_decide_eq_true (by kernel_rfl)) k1 bel lt1) trodAll_mk0)), rfl, bel.frame _, fun h => by cases h⟩

theorem over : Rows.poolMixedRow.holds Try.pinned (OpenSpec.ofChange Rows.poolMixedSpec) :=
  OpenClaim.holds_of_wide 4 Try.f4 rfl rfl rfl rfl rfl rfl rfl ⟨rfl, rfl, rfl, rfl, rfl⟩ rfl rfl rfl rfl rfl (by kernel_rfl) Try.func4 (by kernel_rfl)
    (of_decide_eq_true (by kernel_rfl)) (by unfold Func.isWrapper; first | (rw [if_pos (by decide +kernel)]; kernel_rfl) | (rw [if_neg (by decide +kernel)]; exact ⟨rfl, rfl⟩))
    (fun os started H enc _ => lifted os started H enc)

/-- the statement -/
theorem proved : Rows.PoolMixedSaid := over
#print axioms proved
end Go.Proofs.Ytaihmkflhapjeaa.poolMixed


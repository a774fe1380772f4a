/-
  For every problem, kurganlaw05.InstWrites answers true and leaves it as it was: Write tells what the reference tells, and what is handed in stays. The row and its tied card.
-/
import Derived.Test.YtknpjeeclagmjaaDoorLaid
import Derived.Test.YtknpjeeclagmjaaDoorOpen
import Derived.Test.YtknpjeeclagmjaaDoorWritesL
import Derived.Test.YtknpjeeclagmjaaDoorCards
import Derived.Test.YtknpjeeclagmjaaDoorTie
import Derived.Carry
import Derived.Deep.DeepHandedRow
namespace Go.Proofs.YtknpjeeclagmjaaDoor.instWrites
open Go.ChangeShapes Go.WideShapes Go.ChangeAt Go.RowKit
set_option linter.unusedVariables false

theorem own : ownKnob Tryd.prog.godebug = none := by kernel_rfl
theorem walk (kd N C : Int) (wl vl : List Int) (cl : List (List Int)) (wa va ca : Option Addr) (wn vn cn wc vc cc : Nat) (w : World) (ht : Tab w) (h1 : Src w wa wn wc wl) (h2 : Src w va vn vc vl) (h3 : RSrc w ca cn cc cl) :
    Calls Tryd.prog 4 #[.agg #[.int .i64 kd, .int .i64 N, .int .i64 C, .slice wa wn wc, .slice va vn vc, .slice ca cn cc]] w fun e w' => e = .returned (.bool true) ∧ Below w.heap.size w w' :=
  writes_walk kd N C wl vl cl wa va ca wn vn cn wc vc cc w ht h1 h2 h3

theorem laidOut : laidOutB Tryd.prog = true := by kernel_rfl
theorem contract (H : Type) (enc : TypeId × Value → H) (W : World) (base : Nat) (args : Array Value) (ds gs : List (DataW H)) (before : List MemPlace)
    (hval : ∀ (j : Nat) t v, Tryd.f4.params[j]? = some t → args[j]? = some v → Value.okWide Tryd.prog W .any base t v)
    (hW : DataW.Whole enc Tryd.prog Tryd.f4.params.toList Rows.instWritesSpec.vars false W args.toList ds gs before) (hL : laidMetH Tryd.prog Rows.instWritesRow.laid W) :
    Calls Tryd.prog 4 args W fun e W' => ∃ v, e = .returned v ∧ Rows.instWritesSpec.post enc Tryd.prog Tryd.f4 false true false false W args v W' := by
  have whole := hW
  obtain ⟨p, q, hA, hV, rfl, -, -⟩ := hW
  rw [show Tryd.f4.params = #[25] from Tryd.params4] at hA
  have r := (show DataW.TrodAll enc Tryd.prog W 0 (fun _ => true) true [25] args.toList ds p from hA)
  obtain ⟨v0, vs0, d0, ds0, p0, q0, eargs, rfl, rfl, h0, r0⟩ := trodAll_cons r
  obtain ⟨rfl, rfl, rfl⟩ := trodAll_nil r0
  obtain rfl : args = #[v0] := by cases args; simp_all
  obtain ⟨rfl, rfl⟩ := trodVars_none hV
  have lt0 : ∀ x ∈ p0, x.block < W.heap.size := by obtain ⟨m, hm⟩ := h0; exact DataW.trod_lt m _ _ _ hm
  obtain ⟨kd, N, C, wa, va, ca, wn, vn, cn, wc, vc, cc, wl, vl, cl, rfl, s1, s2, s3⟩ := open_inst (hval 0 25 v0 (by rw [Tryd.params4]; rfl) rfl) h0
  simp only [List.append_nil] at whole
  refine (walk kd N C wl vl cl wa va ca wn vn cn wc vc cc W (table hL) s1 s2 s3).mono fun e W' ⟨he, kept⟩ => ?_
  subst he
  exact ⟨_, rfl, _, _, _, [], _, [], whole, trodAll_mk1 (shut_bool Tryd.underlying4 _), (trodAll_cons_mk (Below.trod laidOut (by kernel_rfl) (of_decide_eq_true (by kernel_rfl)) h0 kept lt0) trodAll_mk0), rfl, kept.frame _, fun h => by cases h⟩

def start : Array Value := #[.agg #[.int .i64 0, .int .i64 0, .int .i64 0, .slice none 0 0, .slice none 0 0, .slice none 0 0]]
theorem reads (os : Os) {H : Type} (enc : TypeId × Value → H) : ∃ places, DataW.whole enc Tryd.prog ((laidWorld os).forCall (fun _ _ => 0) ⟨#[], start, []⟩).memory Tryd.f4.params.toList Rows.instWritesSpec.vars false start.toList 8 = some ([.agg [.lit (.int .i64 0), .lit (.int .i64 0), .lit (.int .i64 0), .nil, .nil, .nil]], [], places) :=
  ⟨[], by kernel_rfl⟩
set_option maxRecDepth 100000 in
theorem raised (os : Os) (started : os.Started) (H : Type) (enc : TypeId × Value → H) (F : Stop.Interp) :
    ReturnsInHanded {} Tryd.checked os 4 .any ((OpenSpec.ofChange Rows.instWritesSpec).preRow enc Tryd.prog Tryd.f4 Rows.instWritesRow.domain false Rows.instWritesRow.laid) (((OpenSpec.ofChange Rows.instWritesSpec).at F).post enc Tryd.prog Tryd.f4 false true false false) := by
  obtain ⟨places, hx⟩ := reads os enc
  refine returnsInHanded_of_row (C := Tryd.checked) (s := OpenSpec.ofChange Rows.instWritesSpec) own started (by kernel_rfl) Tryd.func4
    (witness_row_at (enc := enc) (C := Tryd.checked) false (laidWorld os) start rfl (by kernel_rfl) (by kernel_rfl) (by kernel_rfl)
      (OpenSpec.preRow_of_cond 8 hx (by kernel_rfl) (fun k hk => by cases hk) (by kernel_rfl) (laid_met os _))) ?_
  intro W base args ds gs before hval hW _ _ _ hL _ _
  exact contract H enc W base args ds gs before hval hW hL
theorem row : Rows.InstWritesSaid :=
  OpenClaim.holds_of_cond 4 Tryd.f4 rfl rfl rfl rfl rfl rfl rfl ⟨rfl, rfl, rfl, rfl, rfl⟩ rfl rfl rfl rfl rfl (by kernel_rfl) Tryd.func4 (by kernel_rfl)
    (of_decide_eq_true (by kernel_rfl)) (by unfold Func.isWrapper; first | (rw [if_pos (by decide +kernel)]; kernel_rfl) | (rw [if_neg (by decide +kernel)]; exact ⟨rfl, rfl⟩))
    (fun os started H enc _ F => by rw [OpenClaim.pre_eq_preRow]; exact raised os started H enc F)
theorem noLooks (f : FuncId) (fn : Func) (hf : Tryd.pinned.checked.prog.funcNamed "kurgan/kurganlaw05.InstWrites" = some f) (hfn : Tryd.pinned.checked.prog.funcs[f]? = some fn) :
    false = Tryd.pinned.checked.prog.looks [] ∧ ∀ (j : Nat) t, fn.params[j]? = some t → Tryd.pinned.checked.prog.wantsStandIn t = false := by
  obtain rfl : f = 4 := Option.some.inj (hf.symm.trans (show Tryd.prog.funcNamed "kurgan/kurganlaw05.InstWrites" = some 4 by kernel_rfl))
  obtain rfl : fn = Tryd.f4 := Option.some.inj (hfn.symm.trans Tryd.func4)
  refine ⟨by kernel_rfl, fun j t ht => ?_⟩
  rw [Tryd.params4] at ht
  have mem := Array.mem_of_getElem? ht
  simp only [List.mem_toArray, List.mem_cons, List.not_mem_nil, or_false] at mem
  rcases mem with rfl
  all_goals exact (show Tryd.prog.wantsStandIn _ = false by kernel_rfl)
/-- the statement -/
theorem proved : Rows.InstWritesCardSaid :=
  Claim7.holds_tied_plain_at .later [] _ _ _ _ row (fun _ h => by cases h) (by kernel_rfl) (fun _ h => by cases h) instWrites_row_tie rfl ⟨rfl, rfl⟩ (by kernel_rfl) rfl noLooks (by kernel_rfl)
#print axioms proved
end Go.Proofs.YtknpjeeclagmjaaDoor.instWrites

/-
  For every kind, every size and every seed: a problem that is drawn has a text; the text with other blanks, remarks and line ends is the same problem. No condition.
-/
import Derived.Test.YtjlaankgfpjeeaaDoorLaid
import Derived.Test.YtjlaankgfpjeeaaDoorKd
import Derived.Test.YtjlaankgfpjeeaaDoorInOpen
import Derived.Test.YtjlaankgfpjeeaaDoorCards
import Derived.Test.YtjlaankgfpjeeaaDoorTie
import Derived.Carry
import Derived.ShutString
import Derived.Deep.DeepHandedRow
namespace Go.Proofs.YtjlaankgfpjeeaaDoor.kurganDrawn
open Go.ChangeMaps (open_string shut_string)
open Go.ChangeShapes Go.WideShapes Go.ChangeAt Go.RowKit
open ip (open_inst)
set_option linter.unusedVariables false

theorem own : ownKnob Tryd.prog.godebug = none := by kernel_rfl
theorem walk (kind num s : Int) (w : World) (ht : ip.Tab w) {q0 q1 q2 : Prop} (f0 : q0) (f1 : q1) (f2 : q2) :
    Calls Tryd.prog 7 #[.int .i64 kind, .int .i64 num, .int .u64 s] w fun e w' => e = .returned (.bool true) ∧ Below w.heap.size w w' :=
  drawn_walk kind num s w ht
theorem laidOut : laidOutB Tryd.prog = true := by kernel_rfl
set_option maxRecDepth 100000 in
theorem contract (H : Type) (enc : TypeId × Value → H) (W : World) (base : Nat) (args : Array Value) (ds gs : List (DataW H)) (before : List MemPlace)
    (hval : ∀ (j : Nat) t v, Tryd.f7.params[j]? = some t → args[j]? = some v → Value.okWide Tryd.prog W .any base t v)
    (hW : DataW.Whole enc Tryd.prog Tryd.f7.params.toList Rows.kurganDrawnSpec.vars false W args.toList ds gs before) (hL : laidMetH Tryd.prog Rows.kurganDrawnRow.laid W) :
    Calls Tryd.prog 7 args W fun e W' => ∃ v, e = .returned v ∧ Rows.kurganDrawnSpec.post enc Tryd.prog Tryd.f7 false true false false W args v W' := by
  have whole := hW
  obtain ⟨p, q, hA, hV, rfl, -, -⟩ := hW
  rw [show Tryd.f7.params = #[3, 3, 36] from Tryd.params7] at hA
  have r := (show DataW.TrodAll enc Tryd.prog W 0 (fun _ => true) true [3, 3, 36] args.toList ds p from hA)
  obtain ⟨v0, vs0, d0, ds0, p0, q0, eargs, rfl, rfl, h0, r0⟩ := trodAll_cons r
  obtain ⟨v1, vs1, d1, ds1, p1, q1, rfl, rfl, rfl, h1, r1⟩ := trodAll_cons r0
  obtain ⟨v2, vs2, d2, ds2, p2, q2, rfl, rfl, rfl, h2, r2⟩ := trodAll_cons r1
  obtain ⟨rfl, rfl, rfl⟩ := trodAll_nil r2
  obtain rfl : args = #[v0, v1, v2] := by cases args; simp_all
  obtain ⟨rfl, rfl⟩ := trodVars_none hV
  obtain ⟨z0, rfl, rfl, rfl, fit0⟩ := open_int Tryd.underlying3 (hval 0 3 v0 (by rw [Tryd.params7]; rfl) rfl) h0
  obtain ⟨z1, rfl, rfl, rfl, fit1⟩ := open_int Tryd.underlying3 (hval 1 3 v1 (by rw [Tryd.params7]; rfl) rfl) h1
  obtain ⟨z2, rfl, rfl, rfl, fit2⟩ := open_int Tryd.underlying36 (hval 2 36 v2 (by rw [Tryd.params7]; rfl) rfl) h2
  simp only [List.append_nil] at whole
  refine (walk z0 z1 z2 W (table hL) fit0 fit1 fit2).mono fun e W' ⟨he, kept⟩ => ?_
  subst he
  exact ⟨_, rfl, _, _, _, [], _, [], whole, trodAll_mk1 (shut_bool Tryd.underlying4 _), (trodAll_cons_mk (shut_int Tryd.underlying3 fit0) (trodAll_cons_mk (shut_int Tryd.underlying3 fit1) (trodAll_cons_mk (shut_int Tryd.underlying36 fit2) trodAll_mk0))), rfl, kept.frame _, fun h => by cases h⟩

def start : Array Value := #[.int .i64 0, .int .i64 0, .int .u64 0]
theorem reads (os : Os) {H : Type} (enc : TypeId × Value → H) : ∃ places, DataW.whole enc Tryd.prog ((laidWorld os).forCall (fun _ _ => 0) ⟨#[], start, []⟩).memory Tryd.f7.params.toList Rows.kurganDrawnSpec.vars false start.toList 8 = some ([.lit (.int .i64 0), .lit (.int .i64 0), .lit (.int .u64 0)], [], places) :=
  ⟨[], by kernel_rfl⟩
set_option maxRecDepth 100000 in
theorem raised (os : Os) (started : os.Started) (H : Type) (enc : TypeId × Value → H) (F : Stop.Interp) :
    ReturnsInHanded {} Tryd.checked os 7 .any ((OpenSpec.ofChange Rows.kurganDrawnSpec).preRow enc Tryd.prog Tryd.f7 Rows.kurganDrawnRow.domain false Rows.kurganDrawnRow.laid) (((OpenSpec.ofChange Rows.kurganDrawnSpec).at F).post enc Tryd.prog Tryd.f7 false true false false) := by
  obtain ⟨places, hx⟩ := reads os enc
  refine returnsInHanded_of_row (C := Tryd.checked) (s := OpenSpec.ofChange Rows.kurganDrawnSpec) own started (by kernel_rfl) Tryd.func7
    (witness_row_at (enc := enc) (C := Tryd.checked) false (laidWorld os) start rfl (by kernel_rfl) (by kernel_rfl) (by kernel_rfl)
      (OpenSpec.preRow_of_cond 8 hx (by kernel_rfl) (fun k hk => by cases hk) (by kernel_rfl) (laid_met os _))) ?_
  intro W base args ds gs before hval hW _ _ _ hL _ _
  exact contract H enc W base args ds gs before hval hW hL
theorem row : Rows.KurganDrawnSaid :=
  OpenClaim.holds_of_cond 7 Tryd.f7 rfl rfl rfl rfl rfl rfl rfl ⟨rfl, rfl, rfl, rfl, rfl⟩ rfl rfl rfl rfl rfl (by kernel_rfl) Tryd.func7 (by kernel_rfl)
    (of_decide_eq_true (by kernel_rfl)) (by unfold Func.isWrapper; first | (rw [if_pos (by decide +kernel)]; kernel_rfl) | (rw [if_neg (by decide +kernel)]; exact ⟨rfl, rfl⟩))
    (fun os started H enc _ F => by rw [OpenClaim.pre_eq_preRow]; exact raised os started H enc F)
theorem noLooks (f : FuncId) (fn : Func) (hf : Tryd.pinned.checked.prog.funcNamed "kurgan/kurgantop.KurganDrawn" = some f) (hfn : Tryd.pinned.checked.prog.funcs[f]? = some fn) :
    false = Tryd.pinned.checked.prog.looks [] ∧ ∀ (j : Nat) t, fn.params[j]? = some t → Tryd.pinned.checked.prog.wantsStandIn t = false := by
  obtain rfl : f = 7 := Option.some.inj (hf.symm.trans (show Tryd.prog.funcNamed "kurgan/kurgantop.KurganDrawn" = some 7 by kernel_rfl))
  obtain rfl : fn = Tryd.f7 := Option.some.inj (hfn.symm.trans Tryd.func7)
  refine ⟨by kernel_rfl, fun j t ht => ?_⟩
  rw [Tryd.params7] at ht
  have mem := Array.mem_of_getElem? ht
  simp only [List.mem_toArray, List.mem_cons, List.not_mem_nil, or_false] at mem
  rcases mem with rfl | rfl | rfl
  all_goals exact (show Tryd.prog.wantsStandIn _ = false by kernel_rfl)
/-- the statement -/
theorem proved : Rows.KurganDrawnCardSaid :=
  Claim7.holds_tied_plain_at .later [] _ _ _ _ row (fun _ h => by cases h) (by kernel_rfl) (fun _ h => by cases h) kurganDrawn_row_tie rfl ⟨rfl, rfl⟩ (by kernel_rfl) rfl noLooks (by kernel_rfl)
#print axioms proved
end Go.Proofs.YtjlaankgfpjeeaaDoor.kurganDrawn

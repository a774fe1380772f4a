/-
  For every two texts of up to 300 bytes: a problem text that is wrong is told with its error, whatever the script says; nothing is solved. No further condition.
-/
import Derived.Test.YtegieoajjfodcaaGreatDoorLaid
import Derived.Test.YtegieoajjfodcaaGreatDoorQuL
import Derived.Test.YtegieoajjfodcaaGreatDoorQg
import Derived.Test.YtegieoajjfodcaaGreatDoorCards
import Derived.Test.YtegieoajjfodcaaGreatDoorTie
import Derived.Carry
import Derived.ShutString
import Derived.Deep.DeepHandedRow
namespace Go.Proofs.YtegieoajjfodcaaGreatDoor.kurganQuiet
open Go.ChangeMaps (open_string shut_string)
open Go.ChangeShapes Go.WideShapes Go.ChangeAt Go.RowKit
set_option linter.unusedVariables false

theorem own : ownKnob Tryz.prog.godebug = none := by kernel_rfl
theorem walk (s c : ByteArray) (w : World) (ht : Tab w) {q0 q1 : Prop} (f0 : q0) (f1 : q1) :
    Calls Tryz.prog 3 #[.string s, .string c] w fun e w' => e = .returned (.bool true) ∧ Below w.heap.size w w' :=
  quiet_walk s c w ht
theorem laidOut : laidOutB Tryz.prog = true := by kernel_rfl
set_option maxRecDepth 100000 in
theorem contract (H : Type) (enc : TypeId × Value → H) (W : World) (base : Nat) (args : Array Value) (ds gs : List (DataW H)) (before : List MemPlace)
    (hval : ∀ (j : Nat) t v, Tryz.f3.params[j]? = some t → args[j]? = some v → Value.okWide Tryz.prog W .any base t v)
    (hW : DataW.Whole enc Tryz.prog Tryz.f3.params.toList Rows.kurganQuietSpec.vars false W args.toList ds gs before) (hL : laidMetH Tryz.prog Rows.kurganQuietRow.laid W) :
    Calls Tryz.prog 3 args W fun e W' => ∃ v, e = .returned v ∧ Rows.kurganQuietSpec.post enc Tryz.prog Tryz.f3 false true false false W args v W' := by
  have whole := hW
  obtain ⟨p, q, hA, hV, rfl, -, -⟩ := hW
  rw [show Tryz.f3.params = #[9, 9] from Tryz.params3] at hA
  have r := (show DataW.TrodAll enc Tryz.prog W 0 (fun _ => true) true [9, 9] args.toList ds p from hA)
  obtain ⟨v0, vs0, d0, ds0, p0, q0, eargs, rfl, rfl, h0, r0⟩ := trodAll_cons r
  obtain ⟨v1, vs1, d1, ds1, p1, q1, rfl, rfl, rfl, h1, r1⟩ := trodAll_cons r0
  obtain ⟨rfl, rfl, rfl⟩ := trodAll_nil r1
  obtain rfl : args = #[v0, v1] := by cases args; simp_all
  obtain ⟨rfl, rfl⟩ := trodVars_none hV
  obtain ⟨z0, rfl, rfl, rfl, fit0⟩ := open_string Tryz.underlying9 (hval 0 9 v0 (by rw [Tryz.params3]; rfl) rfl) h0
  obtain ⟨z1, rfl, rfl, rfl, fit1⟩ := open_string Tryz.underlying9 (hval 1 9 v1 (by rw [Tryz.params3]; rfl) rfl) h1
  simp only [List.append_nil] at whole
  refine (walk z0 z1 W (table hL) fit0 fit1).mono fun e W' ⟨he, kept⟩ => ?_
  subst he
  exact ⟨_, rfl, _, _, _, [], _, [], whole, trodAll_mk1 (shut_bool Tryz.underlying4 _), (trodAll_cons_mk (shut_string Tryz.underlying9 fit0) (trodAll_cons_mk (shut_string Tryz.underlying9 fit1) trodAll_mk0)), rfl, kept.frame _, fun h => by cases h⟩

def start : Array Value := #[.string ⟨#[]⟩, .string ⟨#[]⟩]
theorem reads (os : Os) {H : Type} (enc : TypeId × Value → H) : ∃ places, DataW.whole enc Tryz.prog ((laidWorld os).forCall (fun _ _ => 0) ⟨#[], start, []⟩).memory Tryz.f3.params.toList Rows.kurganQuietSpec.vars false start.toList 8 = some ([.lit (.string []), .lit (.string [])], [], places) :=
  ⟨[], by kernel_rfl⟩
set_option maxRecDepth 100000 in
theorem raised (os : Os) (started : os.Started) (H : Type) (enc : TypeId × Value → H) (F : Stop.Interp) :
    ReturnsInHanded {} Tryz.checked os 3 .any ((OpenSpec.ofChange Rows.kurganQuietSpec).preRow enc Tryz.prog Tryz.f3 Rows.kurganQuietRow.domain false Rows.kurganQuietRow.laid) (((OpenSpec.ofChange Rows.kurganQuietSpec).at F).post enc Tryz.prog Tryz.f3 false true false false) := by
  obtain ⟨places, hx⟩ := reads os enc
  refine returnsInHanded_of_row (C := Tryz.checked) (s := OpenSpec.ofChange Rows.kurganQuietSpec) own started (by kernel_rfl) Tryz.func3
    (witness_row_at (enc := enc) (C := Tryz.checked) false (laidWorld os) start rfl (by kernel_rfl) (by kernel_rfl) (by kernel_rfl)
      (OpenSpec.preRow_of_cond 8 hx (by kernel_rfl) (fun k hk => by cases hk) (by kernel_rfl) (laid_met os _))) ?_
  intro W base args ds gs before hval hW _ _ _ hL _ _
  exact contract H enc W base args ds gs before hval hW hL
theorem row : Rows.KurganQuietSaid :=
  OpenClaim.holds_of_cond 3 Tryz.f3 rfl rfl rfl rfl rfl rfl rfl ⟨rfl, rfl, rfl, rfl, rfl⟩ rfl rfl rfl rfl rfl qgn Tryz.func3 closed qgi qgr
    (fun os started H enc _ F => by rw [OpenClaim.pre_eq_preRow]; exact raised os started H enc F)
theorem noLooks (f : FuncId) (fn : Func) (hf : Tryz.pinned.checked.prog.funcNamed Rows.kurganQuietRow.func = some f) (hfn : Tryz.pinned.checked.prog.funcs[f]? = some fn) :
    true = Tryz.pinned.checked.prog.looks [] ∧ ∀ (j : Nat) t, fn.params[j]? = some t → Tryz.pinned.checked.prog.wantsStandIn t = false := by
  obtain rfl : f = 3 := Option.some.inj (hf.symm.trans qgn)
  obtain rfl : fn = Tryz.f3 := Option.some.inj (hfn.symm.trans Tryz.func3)
  refine ⟨qgl, fun j t ht => ?_⟩
  rw [Tryz.params3] at ht
  have mem := Array.mem_of_getElem? ht
  simp only [List.mem_toArray, List.mem_cons, List.not_mem_nil, or_false] at mem
  rcases mem with rfl | rfl
  all_goals exact qgs
/-- the statement -/
theorem proved : Rows.KurganQuietCardSaid :=
  Claim7.holds_tied_plain_at .later [] _ _ _ _ row (fun _ h => by cases h) qgw (fun _ h => by cases h) kurganQuiet_row_tie rfl ⟨rfl, rfl⟩ qgm rfl noLooks qgb
#print axioms proved
end Go.Proofs.YtegieoajjfodcaaGreatDoor.kurganQuiet

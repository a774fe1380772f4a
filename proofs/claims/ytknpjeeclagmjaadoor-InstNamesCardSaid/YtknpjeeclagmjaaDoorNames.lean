/-
  For every number, kurganlaw05.InstNames answers true and leaves it as it was: each kind has its name, and no other number has one. The row and its tied card.
-/
import Derived.Test.YtknpjeeclagmjaaDoorLaid
import Derived.Test.YtknpjeeclagmjaaDoorCards
import Derived.Test.YtknpjeeclagmjaaDoorTie
import Derived.OpenShut
import Derived.Deep.DeepHandedRow
namespace Go.Proofs.YtknpjeeclagmjaaDoor.instNames
open Go.ChangeShapes Go.WideShapes Go.ChangeAt Go.RowKit
set_option linter.unusedVariables false

theorem own : ownKnob Tryd.prog.godebug = none := by kernel_rfl

theorem walk_in (n : Int) (s : ByteArray) (hn : n = 1 ∨ n = 2 ∨ n = 3) (hs : (⟨(nameOf n).toArray⟩ : ByteArray) = s) (w : World) (ht : Tab w) :
    Calls Tryd.prog 7 #[.int .i64 n] w fun e w' => e = .returned (.bool true) ∧ Below w.heap.size w w' := by
  have bA : Below w.heap.size w (w.alloc (.cells #[.string ⟨#[75, 78, 65, 80, 83, 65, 67, 75]⟩, .string ⟨#[65, 83, 83, 73, 71, 78, 77, 69, 78, 84]⟩, .string ⟨#[84, 83, 80]⟩] 9)) := bl_al (Below.refl _ _) _
  have HI := Lib.hid (insts_any _ (tab_keep _ _ ht bA))
  have B := Lib.hid bA
  have HN := Lib.hid (show ∀ W, Calls Tryd.prog 18 #[.int .i64 n] W fun e w' => e = .returned (.string s) ∧ W = w' from fun W => hs ▸ name_any n W)
  clear bA ht
  rcases hn with rfl | rfl | rfl
  all_goals
    have hs' : s = _ := hs.symm
    clear hs
    subst hs'
    go_enter Tryd.func7, Tryd.ntmps7
    go_wp2_with fail
    refine HI.out.mono ?_; rintro e w1 ⟨rfl, hb1⟩
    go_wp2_with fail
    refine (HN.out _).mono ?_; rintro e w2 ⟨rfl, rfl⟩
    go_wp2
    go_ret
    exact ⟨rfl, bl_tr B.out hb1⟩
theorem walk_out (n : Int) (hn : n < 1 ∨ 3 < n) (w : World) (ht : Tab w) :
    Calls Tryd.prog 7 #[.int .i64 n] w fun e w' => e = .returned (.bool true) ∧ Below w.heap.size w w' := by
  have HI := Lib.hid (insts_any _ ht)
  have hs : nameOf n = [] := by unfold nameOf; rw [if_neg (by omega), if_neg (by omega), if_neg (by omega)]
  have HN := Lib.hid (show ∀ W, Calls Tryd.prog 18 #[.int .i64 n] W fun e w' => e = .returned (.string ⟨#[]⟩) ∧ W = w' from fun W => (by have h := name_any n W; rw [hs] at h; exact h))
  clear hs ht
  by_cases h1 : n < 1
  · clear hn
    go_enter Tryd.func7, Tryd.ntmps7
    go_wp2_with fail
    refine HI.out.mono ?_; rintro e w1 ⟨rfl, hb1⟩
    go_wp2_with fail
    refine (HN.out _).mono ?_; rintro e w2 ⟨rfl, rfl⟩
    go_wp2
    go_ret
    exact ⟨rfl, hb1⟩
  · have h3 : 3 < n := by omega
    clear hn
    go_enter Tryd.func7, Tryd.ntmps7
    go_wp2_with fail
    refine HI.out.mono ?_; rintro e w1 ⟨rfl, hb1⟩
    go_wp2_with fail
    refine (HN.out _).mono ?_; rintro e w2 ⟨rfl, rfl⟩
    go_wp2
    go_ret
    exact ⟨rfl, hb1⟩
theorem walk (n : Int) (fit : (Lit.int .i64 n).wf = true) (w : World) (ht : Tab w) :
    Calls Tryd.prog 7 #[.int .i64 n] w fun e w' => e = .returned (.bool true) ∧ Below w.heap.size w w' := by
  by_cases h : n = 1 ∨ n = 2 ∨ n = 3
  · exact walk_in n _ h rfl w ht
  · exact walk_out n (by omega) w ht

theorem contract (H : Type) (enc : TypeId × Value → H) (W : World) (base : Nat) (args : Array Value) (ds gs : List (DataW H)) (before : List MemPlace)
    (hval : ∀ (j : Nat) t v, Tryd.f7.params[j]? = some t → args[j]? = some v → Value.okWide Tryd.prog W .any base t v)
    (hW : DataW.Whole enc Tryd.prog Tryd.f7.params.toList Rows.instNamesSpec.vars false W args.toList ds gs before) (hL : laidMetH Tryd.prog Rows.instNamesRow.laid W) :
    Calls Tryd.prog 7 args W fun e W' => ∃ v, e = .returned v ∧ Rows.instNamesSpec.post enc Tryd.prog Tryd.f7 false true false false W args v W' := by
  have whole := hW
  obtain ⟨p, q, hA, hV, rfl, -, -⟩ := hW
  rw [show Tryd.f7.params = #[3] from Tryd.params7] at hA
  have r := (show DataW.TrodAll enc Tryd.prog W 0 (fun _ => true) true [3] args.toList ds p from hA)
  obtain ⟨v0, vs0, d0, ds0, p0, q0, eargs, rfl, rfl, h0, r0⟩ := trodAll_cons r
  obtain ⟨rfl, rfl, rfl⟩ := trodAll_nil r0
  obtain rfl : args = #[v0] := by cases args; simp_all
  obtain ⟨rfl, rfl⟩ := trodVars_none hV
  obtain ⟨a0, rfl, rfl, rfl, fit0⟩ := open_int Tryd.underlying3 (hval 0 3 v0 (by rw [Tryd.params7]; rfl) rfl) h0
  simp only [List.append_nil] at whole
  refine (walk a0 fit0 W (table hL)).mono fun e W' ⟨he, kept⟩ => ?_
  subst he
  exact ⟨_, rfl, _, _, _, [], _, [], whole, trodAll_mk1 (shut_bool Tryd.underlying4 _), trodAll_cons_mk (shut_int Tryd.underlying3 fit0) (trodAll_mk0), rfl, kept.frame _, fun h => by cases h⟩

def start : Array Value := #[.int .i64 0]
theorem reads (os : Os) {H : Type} (enc : TypeId × Value → H) : ∃ places, DataW.whole enc Tryd.prog ((laidWorld os).forCall (fun _ _ => 0) ⟨#[], start, []⟩).memory Tryd.f7.params.toList Rows.instNamesSpec.vars false start.toList 8 = some ([.lit (.int .i64 0)], [], places) :=
  ⟨[], by kernel_rfl⟩
set_option maxRecDepth 100000 in
theorem raised (os : Os) (started : os.Started) (H : Type) (enc : TypeId × Value → H) (F : Stop.Interp) :
    ReturnsInHanded {} Tryd.checked os 7 .any ((OpenSpec.ofChange Rows.instNamesSpec).preRow enc Tryd.prog Tryd.f7 Rows.instNamesRow.domain false Rows.instNamesRow.laid) (((OpenSpec.ofChange Rows.instNamesSpec).at F).post enc Tryd.prog Tryd.f7 false true false false) := by
  obtain ⟨places, hx⟩ := reads os enc
  refine returnsInHanded_of_row (C := Tryd.checked) (s := OpenSpec.ofChange Rows.instNamesSpec) own started (by kernel_rfl) Tryd.func7
    (witness_row_at (enc := enc) (C := Tryd.checked) false (laidWorld os) start rfl (by kernel_rfl) (by kernel_rfl) (by kernel_rfl)
      (OpenSpec.preRow_of_cond 8 hx (by kernel_rfl) (fun k hk => by cases hk) (by kernel_rfl) (laid_met os _))) ?_
  intro W base args ds gs before hval hW _ _ _ hL _ _
  exact contract H enc W base args ds gs before hval hW hL
theorem row : Rows.InstNamesSaid :=
  OpenClaim.holds_of_cond 7 Tryd.f7 rfl rfl rfl rfl rfl rfl rfl ⟨rfl, rfl, rfl, rfl, rfl⟩ rfl rfl rfl rfl rfl (by kernel_rfl) Tryd.func7 (by kernel_rfl)
    (of_decide_eq_true (by kernel_rfl)) (by unfold Func.isWrapper; first | (rw [if_pos (by decide +kernel)]; kernel_rfl) | (rw [if_neg (by decide +kernel)]; exact ⟨rfl, rfl⟩))
    (fun os started H enc _ F => by rw [OpenClaim.pre_eq_preRow]; exact raised os started H enc F)
theorem noLooks (f : FuncId) (fn : Func) (hf : Tryd.pinned.checked.prog.funcNamed "kurgan/kurganlaw05.InstNames" = some f) (hfn : Tryd.pinned.checked.prog.funcs[f]? = some fn) :
    false = Tryd.pinned.checked.prog.looks [] ∧ ∀ (j : Nat) t, fn.params[j]? = some t → Tryd.pinned.checked.prog.wantsStandIn t = false := by
  obtain rfl : f = 7 := Option.some.inj (hf.symm.trans (show Tryd.prog.funcNamed "kurgan/kurganlaw05.InstNames" = some 7 by kernel_rfl))
  obtain rfl : fn = Tryd.f7 := Option.some.inj (hfn.symm.trans Tryd.func7)
  refine ⟨by kernel_rfl, fun j t ht => ?_⟩
  rw [Tryd.params7] at ht
  have mem := Array.mem_of_getElem? ht
  simp only [List.mem_toArray, List.mem_cons, List.not_mem_nil, or_false] at mem
  rcases mem with rfl
  all_goals exact (show Tryd.prog.wantsStandIn _ = false by kernel_rfl)
/-- the statement -/
theorem proved : Rows.InstNamesCardSaid :=
  Claim7.holds_tied_plain_at .later [] _ _ _ _ row (fun _ h => by cases h) (by kernel_rfl) (fun _ h => by cases h) instNames_row_tie rfl ⟨rfl, rfl⟩ (by kernel_rfl) rfl noLooks (by kernel_rfl)
#print axioms proved
end Go.Proofs.YtknpjeeclagmjaaDoor.instNames

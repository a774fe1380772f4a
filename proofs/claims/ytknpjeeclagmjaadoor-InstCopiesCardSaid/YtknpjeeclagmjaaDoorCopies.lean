/-
  For every two problems and every number, kurganlaw05.InstCopies answers true and leaves them as they were: a copy is the same, its lists are its own; two problems are the same just if all numbers are. The row and its tied card.
-/
import Derived.Test.YtknpjeeclagmjaaDoorLaid
import Derived.Test.YtknpjeeclagmjaaDoorOpen
import Derived.Test.YtknpjeeclagmjaaDoorCopiesL
import Derived.Test.YtknpjeeclagmjaaDoorCards
import Derived.Test.YtknpjeeclagmjaaDoorTie
import Derived.Carry
import Derived.OpenShut
import Derived.Deep.DeepHandedRow
namespace Go.Proofs.YtknpjeeclagmjaaDoor.instCopies
open Go.ChangeShapes Go.WideShapes Go.ChangeAt Go.RowKit
set_option linter.unusedVariables false

theorem own : ownKnob Tryd.prog.godebug = none := by kernel_rfl
theorem walk (kd N C : Int) (wl vl : List Int) (cl : List (List Int)) (wa va ca : Option Addr) (wn vn cn wc vc cc : Nat) (kd' N' C' : Int) (wl' vl' : List Int) (cl' : List (List Int)) (wa' va' ca' : Option Addr) (wn' vn' cn' wc' vc' cc' : Nat) (z : Int) (w : World) (ht : Tab w)
    (h1 : Src w wa wn wc wl) (h2 : Src w va vn vc vl) (h3 : RSrc w ca cn cc cl) (m1 : Src w wa' wn' wc' wl') (m2 : Src w va' vn' vc' vl') (m3 : RSrc w ca' cn' cc' cl') :
    Calls Tryd.prog 5 #[.agg #[.int .i64 kd, .int .i64 N, .int .i64 C, .slice wa wn wc, .slice va vn vc, .slice ca cn cc], .agg #[.int .i64 kd', .int .i64 N', .int .i64 C', .slice wa' wn' wc', .slice va' vn' vc', .slice ca' cn' cc'], .int .i64 z] w fun e w' => e = .returned (.bool true) ∧ Below w.heap.size w w' :=
  copies_walk kd N C wl vl cl wa va ca wn vn cn wc vc cc kd' N' C' wl' vl' cl' wa' va' ca' wn' vn' cn' wc' vc' cc' z w ht h1 h2 h3 m1 m2 m3

theorem laidOut : laidOutB Tryd.prog = true := by kernel_rfl
theorem contract (H : Type) (enc : TypeId × Value → H) (W : World) (base : Nat) (args : Array Value) (ds gs : List (DataW H)) (before : List MemPlace)
    (hval : ∀ (j : Nat) t v, Tryd.f5.params[j]? = some t → args[j]? = some v → Value.okWide Tryd.prog W .any base t v)
    (hW : DataW.Whole enc Tryd.prog Tryd.f5.params.toList Rows.instCopiesSpec.vars false W args.toList ds gs before) (hL : laidMetH Tryd.prog Rows.instCopiesRow.laid W) :
    Calls Tryd.prog 5 args W fun e W' => ∃ v, e = .returned v ∧ Rows.instCopiesSpec.post enc Tryd.prog Tryd.f5 false true false false W args v W' := by
  have whole := hW
  obtain ⟨p, q, hA, hV, rfl, -, -⟩ := hW
  rw [show Tryd.f5.params = #[25, 25, 3] from Tryd.params5] at hA
  have r := (show DataW.TrodAll enc Tryd.prog W 0 (fun _ => true) true [25, 25, 3] args.toList ds p from hA)
  obtain ⟨v0, vs0, d0, ds0, p0, q0, eargs, rfl, rfl, h0, r0⟩ := trodAll_cons r
  obtain ⟨v1, vs1, d1, ds1, p1, q1, rfl, rfl, rfl, h1, r1⟩ := trodAll_cons r0
  obtain ⟨v2, vs2, d2, ds2, p2, q2, rfl, rfl, rfl, h2, r2⟩ := trodAll_cons r1
  obtain ⟨rfl, rfl, rfl⟩ := trodAll_nil r2
  obtain rfl : args = #[v0, v1, v2] := by cases args; simp_all
  obtain ⟨rfl, rfl⟩ := trodVars_none hV
  have lt0 : ∀ x ∈ p0, x.block < W.heap.size := by obtain ⟨m, hm⟩ := h0; exact DataW.trod_lt m _ _ _ hm
  have hk0 := h0
  obtain ⟨kd0, N0, C0, wa0, va0, ca0, wn0, vn0, cn0, wc0, vc0, cc0, wl0, vl0, cl0, rfl, sa0, sb0, sc0⟩ := open_inst (hval 0 25 v0 (by rw [Tryd.params5]; rfl) rfl) h0
  have lt1 : ∀ x ∈ p1, x.block < W.heap.size := by obtain ⟨m, hm⟩ := h1; exact DataW.trod_lt m _ _ _ hm
  have hk1 := h1
  obtain ⟨kd1, N1, C1, wa1, va1, ca1, wn1, vn1, cn1, wc1, vc1, cc1, wl1, vl1, cl1, rfl, sa1, sb1, sc1⟩ := open_inst (hval 1 25 v1 (by rw [Tryd.params5]; rfl) rfl) h1
  obtain ⟨z2, rfl, rfl, rfl, fit2⟩ := open_int Tryd.underlying3 (hval 2 3 v2 (by rw [Tryd.params5]; rfl) rfl) h2
  simp only [List.append_nil] at whole
  refine (walk kd0 N0 C0 wl0 vl0 cl0 wa0 va0 ca0 wn0 vn0 cn0 wc0 vc0 cc0 kd1 N1 C1 wl1 vl1 cl1 wa1 va1 ca1 wn1 vn1 cn1 wc1 vc1 cc1 z2 W (table hL) sa0 sb0 sc0 sa1 sb1 sc1).mono fun e W' ⟨he, kept⟩ => ?_
  subst he
  have SH := (trodAll_cons_mk (Below.trod laidOut (by kernel_rfl) (of_decide_eq_true (by kernel_rfl)) hk0 kept lt0) (trodAll_cons_mk (Below.trod laidOut (by kernel_rfl) (of_decide_eq_true (by kernel_rfl)) hk1 kept lt1) (trodAll_cons_mk (shut_int Tryd.underlying3 fit2) trodAll_mk0)))
  simp only [List.append_nil] at SH
  exact ⟨_, rfl, _, _, _, [], _, [], whole, trodAll_mk1 (shut_bool Tryd.underlying4 _), SH, rfl, kept.frame _, fun h => by cases h⟩

def start : Array Value := #[.agg #[.int .i64 0, .int .i64 0, .int .i64 0, .slice none 0 0, .slice none 0 0, .slice none 0 0], .agg #[.int .i64 0, .int .i64 0, .int .i64 0, .slice none 0 0, .slice none 0 0, .slice none 0 0], .int .i64 0]
theorem reads (os : Os) {H : Type} (enc : TypeId × Value → H) : ∃ places, DataW.whole enc Tryd.prog ((laidWorld os).forCall (fun _ _ => 0) ⟨#[], start, []⟩).memory Tryd.f5.params.toList Rows.instCopiesSpec.vars false start.toList 8 = some ([.agg [.lit (.int .i64 0), .lit (.int .i64 0), .lit (.int .i64 0), .nil, .nil, .nil], .agg [.lit (.int .i64 0), .lit (.int .i64 0), .lit (.int .i64 0), .nil, .nil, .nil], .lit (.int .i64 0)], [], places) :=
  ⟨[], by kernel_rfl⟩
set_option maxRecDepth 100000 in
theorem raised (os : Os) (started : os.Started) (H : Type) (enc : TypeId × Value → H) (F : Stop.Interp) :
    ReturnsInHanded {} Tryd.checked os 5 .any ((OpenSpec.ofChange Rows.instCopiesSpec).preRow enc Tryd.prog Tryd.f5 Rows.instCopiesRow.domain false Rows.instCopiesRow.laid) (((OpenSpec.ofChange Rows.instCopiesSpec).at F).post enc Tryd.prog Tryd.f5 false true false false) := by
  obtain ⟨places, hx⟩ := reads os enc
  refine returnsInHanded_of_row (C := Tryd.checked) (s := OpenSpec.ofChange Rows.instCopiesSpec) own started (by kernel_rfl) Tryd.func5
    (witness_row_at (enc := enc) (C := Tryd.checked) false (laidWorld os) start rfl (by kernel_rfl) (by kernel_rfl) (by kernel_rfl)
      (OpenSpec.preRow_of_cond 8 hx (by kernel_rfl) (fun k hk => by cases hk) (by kernel_rfl) (laid_met os _))) ?_
  intro W base args ds gs before hval hW _ _ _ hL _ _
  exact contract H enc W base args ds gs before hval hW hL
theorem row : Rows.InstCopiesSaid :=
  OpenClaim.holds_of_cond 5 Tryd.f5 rfl rfl rfl rfl rfl rfl rfl ⟨rfl, rfl, rfl, rfl, rfl⟩ rfl rfl rfl rfl rfl (by kernel_rfl) Tryd.func5 (by kernel_rfl)
    (of_decide_eq_true (by kernel_rfl)) (by unfold Func.isWrapper; first | (rw [if_pos (by decide +kernel)]; kernel_rfl) | (rw [if_neg (by decide +kernel)]; exact ⟨rfl, rfl⟩))
    (fun os started H enc _ F => by rw [OpenClaim.pre_eq_preRow]; exact raised os started H enc F)
theorem noLooks (f : FuncId) (fn : Func) (hf : Tryd.pinned.checked.prog.funcNamed "kurgan/kurganlaw05.InstCopies" = some f) (hfn : Tryd.pinned.checked.prog.funcs[f]? = some fn) :
    false = Tryd.pinned.checked.prog.looks [] ∧ ∀ (j : Nat) t, fn.params[j]? = some t → Tryd.pinned.checked.prog.wantsStandIn t = false := by
  obtain rfl : f = 5 := Option.some.inj (hf.symm.trans (show Tryd.prog.funcNamed "kurgan/kurganlaw05.InstCopies" = some 5 by kernel_rfl))
  obtain rfl : fn = Tryd.f5 := Option.some.inj (hfn.symm.trans Tryd.func5)
  refine ⟨by kernel_rfl, fun j t ht => ?_⟩
  rw [Tryd.params5] at ht
  have mem := Array.mem_of_getElem? ht
  simp only [List.mem_toArray, List.mem_cons, List.not_mem_nil, or_false] at mem
  rcases mem with rfl | rfl | rfl
  all_goals exact (show Tryd.prog.wantsStandIn _ = false by kernel_rfl)
/-- the statement -/
theorem proved : Rows.InstCopiesCardSaid :=
  Claim7.holds_tied_plain_at .later [] _ _ _ _ row (fun _ h => by cases h) (by kernel_rfl) (fun _ h => by cases h) instCopies_row_tie rfl ⟨rfl, rfl⟩ (by kernel_rfl) rfl noLooks (by kernel_rfl)
#print axioms proved
end Go.Proofs.YtknpjeeclagmjaaDoor.instCopies

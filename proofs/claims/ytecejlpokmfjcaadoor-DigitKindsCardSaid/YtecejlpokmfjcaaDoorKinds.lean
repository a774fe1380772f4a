/-
  For every sign, kurganlaw03.DigitKinds answers true and leaves it as it was. The row and its tied card.
-/
import Derived.Test.YtecejlpokmfjcaaDoorDigs
import Derived.Test.YtecejlpokmfjcaaDoorCards
import Derived.Test.YtecejlpokmfjcaaDoorTie
import Derived.OpenShut
import Derived.Deep.DeepHandedRow
namespace Go.Proofs.YtecejlpokmfjcaaDoor.digitKinds
open Go.ChangeShapes Go.WideShapes Go.ChangeAt Go.RowKit
set_option linter.unusedVariables false

theorem own : ownKnob Tryd.prog.godebug = none := by kernel_rfl

theorem walk (r : Int) (r1 : -2147483648 ≤ r) (r2 : r ≤ 2147483647) (w : World) (ht : Tab w) :
    Calls Tryd.prog 6 #[.int .i32 r] w fun e w' => e = .returned (.bool true) ∧ Below w.heap.size w w' := by
  have HD := Lib.hid (fun W (h : Tab W) => digits_any W h)
  have HK := Lib.hid (fun W => kind_any r r1 r2 W)
  have HT := Lib.hid ht
  clear ht
  by_cases hb : r = 32 ∨ r = 9 ∨ r = 10 ∨ r = 13
  · have hk : kindv r = 1 := by unfold kindv; rw [if_pos hb]
    rw [hk] at HK; clear hk
    rcases hb with rfl | rfl | rfl | rfl
    all_goals
      go_enter Tryd.func6, Tryd.ntmps6
      go_wp2_with fail
      refine (HD.out _ HT.out).mono ?_; rintro e w1 ⟨rfl, hb1⟩
      go_wp2_with fail
      refine (HK.out _).mono ?_; rintro e w2 ⟨rfl, rfl⟩
      go_wp2
      go_ret
      exact ⟨rfl, hb1⟩
  · have b1 : (r == 32) = false := by simp; omega
    have b2 : (r == 9) = false := by simp; omega
    have b3 : (r == 10) = false := by simp; omega
    have b4 : (r == 13) = false := by simp; omega
    by_cases hd : 48 ≤ r ∧ r ≤ 57
    · have hk : kindv r = 2 := by unfold kindv; rw [if_neg hb, if_pos hd]
      obtain ⟨d1, d2⟩ := hd
      rw [hk] at HK; clear hk hb
      go_enter Tryd.func6, Tryd.ntmps6
      go_wp2_with fail
      refine (HD.out _ HT.out).mono ?_; rintro e w1 ⟨rfl, hb1⟩
      go_wp2_with fail
      refine (HK.out _).mono ?_; rintro e w2 ⟨rfl, rfl⟩
      go_wp2
      go_ret
      exact ⟨rfl, hb1⟩
    · by_cases hl : (65 ≤ r ∧ r ≤ 90) ∨ (97 ≤ r ∧ r ≤ 122)
      · have hk : kindv r = 3 := by unfold kindv; rw [if_neg hb, if_neg hd, if_pos hl]
        rw [hk] at HK; clear hk hb hd
        rcases hl with ⟨l1, l2⟩ | ⟨l1, l2⟩
        all_goals
          go_enter Tryd.func6, Tryd.ntmps6
          go_wp2_with fail
          refine (HD.out _ HT.out).mono ?_; rintro e w1 ⟨rfl, hb1⟩
          go_wp2_with fail
          refine (HK.out _).mono ?_; rintro e w2 ⟨rfl, rfl⟩
          go_wp2
          go_ret
          exact ⟨rfl, hb1⟩
      · by_cases hr : r = 35
        · have hk : kindv r = 4 := by unfold kindv; rw [if_neg hb, if_neg hd, if_neg hl, if_pos hr]
          rw [hk] at HK; subst hr; clear hk hb hd hl
          go_enter Tryd.func6, Tryd.ntmps6
          go_wp2_with fail
          refine (HD.out _ HT.out).mono ?_; rintro e w1 ⟨rfl, hb1⟩
          go_wp2_with fail
          refine (HK.out _).mono ?_; rintro e w2 ⟨rfl, rfl⟩
          go_wp2
          go_ret
          exact ⟨rfl, hb1⟩
        · have hk : kindv r = 0 := by unfold kindv; rw [if_neg hb, if_neg hd, if_neg hl, if_neg hr]
          have b5 : (r == 35) = false := by simp; omega
          rw [hk] at HK; clear hk hb
          rcases Int.lt_or_le r 48 with c1 | c1
          · clear hd hl hr
            go_enter Tryd.func6, Tryd.ntmps6
            go_wp2_with fail
            refine (HD.out _ HT.out).mono ?_; rintro e w1 ⟨rfl, hb1⟩
            go_wp2_with fail
            refine (HK.out _).mono ?_; rintro e w2 ⟨rfl, rfl⟩
            go_wp2
            go_ret
            exact ⟨rfl, hb1⟩
          · rcases Int.lt_or_le r 65 with c2 | c2
            · have c3 : 57 < r := by omega
              clear hd hl hr
              go_enter Tryd.func6, Tryd.ntmps6
              go_wp2_with fail
              refine (HD.out _ HT.out).mono ?_; rintro e w1 ⟨rfl, hb1⟩
              go_wp2_with fail
              refine (HK.out _).mono ?_; rintro e w2 ⟨rfl, rfl⟩
              go_wp2
              go_ret
              exact ⟨rfl, hb1⟩
            · rcases Int.lt_or_le r 97 with c4 | c4
              · have c5 : 90 < r := by omega
                clear hd hl hr
                go_enter Tryd.func6, Tryd.ntmps6
                go_wp2_with fail
                refine (HD.out _ HT.out).mono ?_; rintro e w1 ⟨rfl, hb1⟩
                go_wp2_with fail
                refine (HK.out _).mono ?_; rintro e w2 ⟨rfl, rfl⟩
                go_wp2
                go_ret
                exact ⟨rfl, hb1⟩
              · have c5 : 122 < r := by omega
                clear hd hl hr
                go_enter Tryd.func6, Tryd.ntmps6
                go_wp2_with fail
                refine (HD.out _ HT.out).mono ?_; rintro e w1 ⟨rfl, hb1⟩
                go_wp2_with fail
                refine (HK.out _).mono ?_; rintro e w2 ⟨rfl, rfl⟩
                go_wp2
                go_ret
                exact ⟨rfl, hb1⟩

def Post (H : Type) (enc : TypeId × Value → H) (W : World) (args : Array Value) : Ending → World → Prop := fun e W' => ∃ v, e = .returned v ∧ Rows.digitKindsSpec.post enc Tryd.prog Tryd.f6 false true false false W args v W'
theorem contract (H : Type) (enc : TypeId × Value → H) (W : World) (base : Nat) (args : Array Value) (ds gs : List (DataW H)) (before : List MemPlace)
    (hval : ∀ (j : Nat) t v, Tryd.f6.params[j]? = some t → args[j]? = some v → Value.okWide Tryd.prog W .any base t v)
    (hW : DataW.Whole enc Tryd.prog Tryd.f6.params.toList Rows.digitKindsSpec.vars false W args.toList ds gs before) (hL : laidMetH Tryd.prog Rows.digitKindsRow.laid W) :
    Calls Tryd.prog 6 args W (Post H enc W args) := by
  have whole := hW
  obtain ⟨p, q, hA, hV, rfl, -, -⟩ := hW
  rw [show Tryd.f6.params = #[21] from Tryd.params6] at hA
  obtain ⟨v0, vs0, d0, ds0, p0, q0, eargs, rfl, rfl, h0, r0⟩ := trodAll_cons (show DataW.TrodAll enc Tryd.prog W 0 (fun _ => true) true [21] args.toList ds p from hA)
  obtain ⟨rfl, rfl, rfl⟩ := trodAll_nil r0
  obtain rfl : args = #[v0] := by cases args; simp_all
  obtain ⟨rfl, rfl⟩ := trodVars_none hV
  obtain ⟨r, rfl, rfl, rfl, fit⟩ := open_int Tryd.underlying21 (hval 0 21 v0 (by rw [Tryd.params6]; rfl) rfl) h0
  simp only [List.append_nil] at whole
  have rng : -2147483648 ≤ r ∧ r ≤ 2147483647 := by
    have f := fit
    simp only [Lit.wf, Bool.and_eq_true, decide_eq_true_eq] at f
    exact f
  refine (walk r rng.1 rng.2 W (table hL)).mono fun e W' ⟨he, kept⟩ => ?_
  subst he
  exact ⟨_, rfl, _, _, _, [], _, [], whole, trodAll_mk1 (shut_bool Tryd.underlying4 _), trodAll_cons_mk (shut_int Tryd.underlying21 fit) trodAll_mk0, rfl, kept.frame _, fun h => by cases h⟩

def start : Array Value := #[.int .i32 0]
theorem reads (os : Os) {H : Type} (enc : TypeId × Value → H) : ∃ places, DataW.whole enc Tryd.prog ((laidWorld os).forCall (fun _ _ => 0) ⟨#[], start, []⟩).memory Tryd.f6.params.toList Rows.digitKindsSpec.vars false start.toList 8 = some ([.lit (.int .i32 0)], [], places) :=
  ⟨[], by kernel_rfl⟩
set_option maxRecDepth 100000 in
theorem raised (os : Os) (started : os.Started) (H : Type) (enc : TypeId × Value → H) (F : Stop.Interp) :
    ReturnsInHanded {} Tryd.checked os 6 .any ((OpenSpec.ofChange Rows.digitKindsSpec).preRow enc Tryd.prog Tryd.f6 Rows.digitKindsRow.domain false Rows.digitKindsRow.laid) (((OpenSpec.ofChange Rows.digitKindsSpec).at F).post enc Tryd.prog Tryd.f6 false true false false) := by
  obtain ⟨places, hx⟩ := reads os enc
  refine returnsInHanded_of_row (C := Tryd.checked) (s := OpenSpec.ofChange Rows.digitKindsSpec) own started (by kernel_rfl) Tryd.func6
    (witness_row_at (enc := enc) (C := Tryd.checked) false (laidWorld os) start rfl (by kernel_rfl) (by kernel_rfl) (by kernel_rfl)
      (OpenSpec.preRow_of_cond 8 hx (by kernel_rfl) (fun k hk => by cases hk) (by kernel_rfl) (laid_met os _))) ?_
  intro W base args ds gs before hval hW _ _ _ hL _ _
  exact contract H enc W base args ds gs before hval hW hL
theorem row : Rows.DigitKindsSaid :=
  OpenClaim.holds_of_cond 6 Tryd.f6 rfl rfl rfl rfl rfl rfl rfl ⟨rfl, rfl, rfl, rfl, rfl⟩ rfl rfl rfl rfl rfl (by kernel_rfl) Tryd.func6 (by kernel_rfl)
    (of_decide_eq_true (by kernel_rfl)) (by unfold Func.isWrapper; first | (rw [if_pos (by decide +kernel)]; kernel_rfl) | (rw [if_neg (by decide +kernel)]; exact ⟨rfl, rfl⟩))
    (fun os started H enc _ F => by rw [OpenClaim.pre_eq_preRow]; exact raised os started H enc F)
theorem noLooks (f : FuncId) (fn : Func) (hf : Tryd.pinned.checked.prog.funcNamed "kurgan/kurganlaw03.DigitKinds" = some f) (hfn : Tryd.pinned.checked.prog.funcs[f]? = some fn) :
    false = Tryd.pinned.checked.prog.looks [] ∧ ∀ (j : Nat) t, fn.params[j]? = some t → Tryd.pinned.checked.prog.wantsStandIn t = false := by
  obtain rfl : f = 6 := Option.some.inj (hf.symm.trans (show Tryd.prog.funcNamed "kurgan/kurganlaw03.DigitKinds" = some 6 by kernel_rfl))
  obtain rfl : fn = Tryd.f6 := Option.some.inj (hfn.symm.trans Tryd.func6)
  refine ⟨by kernel_rfl, fun j t ht => ?_⟩
  rw [Tryd.params6] at ht
  obtain rfl : t = 21 := by simpa using Array.mem_of_getElem? ht
  exact (show Tryd.prog.wantsStandIn 21 = false by kernel_rfl)
/-- the statement -/
theorem proved : Rows.DigitKindsCardSaid :=
  Claim7.holds_tied_plain_at .later [] _ _ _ _ row (fun _ h => by cases h) (by kernel_rfl) (fun _ h => by cases h) digitKinds_row_tie rfl ⟨rfl, rfl⟩ (by kernel_rfl) rfl noLooks (by kernel_rfl)
#print axioms proved
end Go.Proofs.YtecejlpokmfjcaaDoor.digitKinds

/-
  Next of the last order: ErrMiss.
-/
import Derived.Test.YteceibafagekiaaNext
namespace Go.Proofs.Yteceibafagekiaa
open Go.RowKit
set_option linter.unusedVariables false
open Classical in
set_option maxRecDepth 100000 in
set_option maxHeartbeats 4000000 in
theorem next_last (p : List Int) (h : isP p) (hn : p.length ≤ 1000) (a : Option Addr) (c : Nat) (hc : p.length ≤ c) (hc2 : c ≤ 9223372036854775807) (w : World) (hI : Ints w a p) (hk : dn p (p.length - 1) = 0) :
    Calls Try.prog 23 #[.slice a p.length c] w fun e w' => e = .returned (.tuple #[.slice none 0 0, .int .i64 11]) ∧ Below w.heap.size w w' := by
  have HIs := Lib.hid (is_any p hn a c w hI)
  have e1 : decide (isP p) = true := by simpa using h
  rw [e1] at HIs
  by_cases h0 : p.length = 0
  · clear hI h e1 hk
    generalize p.length = n at *
    subst h0
    go_enter Try.func23, Try.ntmps23
    go_wp2_with fail
    refine HIs.out.mono ?_; rintro e w1 ⟨rfl, hb1⟩
    have HB1 := Lib.hid hb1
    clear hb1 HIs
    go_wp2
    go_loopw [4] (fun t wr => t = .int .i64 (-2) ∧ wr = w1) (fun _ _ => 0)
    case atStart => exact ⟨rfl, rfl⟩
    case round =>
      obtain ⟨rfl, rfl⟩ := hrel
      go_wp2
      go_quiet (fail)
      go_wp2
      go_ret2
      exact ⟨rfl, bl_dn HB1.out _⟩
  · obtain ⟨b, o, rfl, lb, _⟩ := hI 0 (by omega)
    have HI := Lib.hid (fun (W : World) (hW : Below w.heap.size w W) j (hj : j < p.length) => (show W.cell? ⟨b, o + j, none⟩ = some (.int .i64 (nth p j)) from by
      obtain ⟨b', o', e, _, hcc⟩ := hI.keep hW j hj
      simp only [Option.some.injEq, Addr.mk.injEq, and_true] at e
      obtain ⟨rfl, rfl⟩ := e
      exact hcc))
    have HY := Lib.hid (dn_yes p)
    have HN := Lib.hid (dn_no p)
    have HK := Lib.hid hk
    clear hI h e1 hk
    generalize hpn : p.length = n at *
    clear hpn
    have n2 : (n : Int) - 2 = ((n - 1 : Nat) : Int) - 1 := by omega
    go_enter Try.func23, Try.ntmps23
    go_wp2_with fail
    refine HIs.out.mono ?_; rintro e w1 ⟨rfl, hb1⟩
    have HB1 := Lib.hid hb1
    clear hb1 HIs
    go_wp2
    clear n2
    go_loopw [4] (fun t wr => ∃ m : Nat, m ≤ n - 1 ∧ t = .int .i64 ((m : Int) - 1) ∧ Hid (dn p m = 0) ∧ ∃ q, wr = w1.drewN q) (fun t _ => (intOf t + 1).toNat)
    case atStart => exact ⟨n - 1, Nat.le_refl _, rfl, HK, 0, rfl⟩
    case round =>
      obtain ⟨m, hm2, rfl, HM, q, rfl⟩ := hrel
      by_cases hm0 : m = 0
      · subst hm0
        have hz : ((0 : Nat) : Int) - 1 = -1 := by omega
        rw [hz]
        go_wp2
        go_quiet (fail)
        go_wp2
        go_ret2
        exact ⟨rfl, bl_dn HB1.out _⟩
      · obtain ⟨m, rfl⟩ : ∃ m', m = m' + 1 := ⟨m - 1, by omega⟩
        have hmm : (((m + 1 : Nat) : Int)) - 1 = (m : Int) := by omega
        rw [hmm]
        have c1 := HI.out w1 HB1.out m (by omega)
        have c2 := HI.out w1 HB1.out (m + 1) (by omega)
        have g1 : (0 : Int) ≤ (m : Int) := by omega
        have g2 : (m : Int) < (n : Int) := by omega
        have g3 : (0 : Int) ≤ (m : Int) + 1 := by omega
        have g4 : (m : Int) + 1 < (n : Int) := by omega
        have g5 : IntKind.i64.wrap ((m : Int) + 1) = (m : Int) + 1 := IntWalk.i64_in _ (by omega)
        have g6 : ((m : Int) + 1).toNat = m + 1 := by omega
        have hx : nth p (m + 1) < nth p m := by
          by_cases hx : nth p (m + 1) < nth p m
          · exact hx
          · have := HN.out m (by omega); rw [HM.out] at this; omega
        have HM2 := Lib.hid ((HY.out m hx).symm.trans HM.out)
        generalize nth p (m + 1) = y at *
        generalize nth p m = x at *
        go_wp2
        go_quiet (fail)
        go_wp2
        go_roundw
        case rel => exact ⟨m, by omega, rfl, HM2, _, rfl⟩
        case measure => simp [intOf]
end Go.Proofs.Yteceibafagekiaa

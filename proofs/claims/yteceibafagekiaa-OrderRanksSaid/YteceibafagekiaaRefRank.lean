/-
  The reference's Rank.
-/
import Derived.Test.YteceibafagekiaaFact
import Derived.Test.YteceibafagekiaaCut
import Derived.Test.YteceibafagekiaaNext
namespace Go.Proofs.Yteceibafagekiaa
open Go.RowKit
set_option linter.unusedVariables false
open Classical in
set_option maxRecDepth 100000 in
set_option maxHeartbeats 2000000 in
theorem refRank_any (p : List Int) (h : isP p) (hn : p.length ≤ 20) (a : Option Addr) (c : Nat) (w : World) (hI : Ints w a p) :
    Calls Try.prog 20 #[.slice a p.length c] w fun e w' => e = .returned (.tuple #[.int .i64 (rk p p.length p.length), .int .i64 0]) ∧ Below w.heap.size w w' := by
  have HIs := Lib.hid (refIs_any p (by omega) a c w hI)
  have e1 : decide (isP p) = true := by simpa using h
  rw [e1] at HIs
  have HI := Lib.hid (fun (W : World) (h : Below w.heap.size w W) j (hj : j < p.length) => hI.keep h j hj)
  have HB0 := Lib.hid (Below.refl w.heap.size w)
  have HS := Lib.hid (rk_fct p p.length)
  have HBd := Lib.hid (fun a (ha : a ≤ p.length) => rk_fct_bd p p.length a ha hn)
  have HL := Lib.hid (lsc_bd p)
  have HY := Lib.hid (lsc_yes p)
  have HN := Lib.hid (lsc_no p)
  have H0 := Lib.hid (lsc_zero p)
  have HE := Lib.hid (show rk p p.length p.length * fct (p.length - p.length) = rk p p.length p.length from by rw [Nat.sub_self, fct_zero, Int.mul_one])
  have HZ := Lib.hid (show rk p p.length 0 * fct (p.length - 0) = 0 from by rw [rk_zero, Int.zero_mul])
  have HF := Lib.hid fact_any
  have HFb := Lib.hid fct_bd
  clear hI h e1
  generalize p.length = n at *
  have h2' : ¬ (20 : Int) < (n : Int) := by omega
  go_enter Try.func20, Try.ntmps20
  go_wp2_with fail
  refine HIs.out.mono ?_; rintro e w1 ⟨rfl, rfl⟩
  clear HIs
  go_wp2
  go_loopw [4, 5] (fun r i wr => ∃ k : Nat, k ≤ n ∧ r = .int .i64 (rk p n k * fct (n - k)) ∧ i = .int .i64 k ∧ Hid (Below w.heap.size w wr)) (fun _ i _ => n - (intOf i).toNat)
  case atStart => exact ⟨0, by omega, by rw [HZ.out], rfl, HB0⟩
  case round =>
    obtain ⟨k, hk, rfl, rfl, HW⟩ := hrel
    by_cases hlt : k < n
    · obtain ⟨b, o, rfl, lb, _⟩ := HI.out w HB0.out k hlt
      have HC := Lib.hid (fun (W : World) (hW : Below w.heap.size w W) j (hj : j < n) => (show W.cell? ⟨b, o + j, none⟩ = some (.int .i64 (nth p j)) from by
        obtain ⟨b', o', e, _, hcc⟩ := HI.out W hW j hj
        simp only [Option.some.injEq, Addr.mk.injEq, and_true] at e
        obtain ⟨rfl, rfl⟩ := e
        exact hcc))
      have hS := Lib.hid (HS.out k hlt)
      have B1 := HBd.out k hk
      have B2 := HBd.out (k + 1) hlt
      generalize rk p n k * fct (n - k) = R at *
      go_wp2
      go_loopw [6, 7] (fun r i wi => ∃ m : Nat, m ≤ n - (k + 1) ∧ r = .int .i64 (lsc p k m) ∧ i = .int .i64 ((k : Int) + 1 + m) ∧ Hid (Below w.heap.size w wi)) (fun _ i _ => n - (intOf i).toNat)
      case atStart => exact ⟨0, by omega, by rw [H0.out], by first | rfl | go_num, HW⟩
      case round =>
        clear HW
        obtain ⟨m, hm, rfl, rfl, HW⟩ := hrel
        obtain ⟨l1, l2⟩ := HL.out k m
        by_cases hmlt : m < n - (k + 1)
        · have c1 := HC.out _ HW.out k hlt
          have c2 := HC.out _ HW.out (k + 1 + m) (by omega)
          have g1 : (k : Int) + 1 + (m : Int) < (n : Int) := by omega
          have g2 : (0 : Int) ≤ (k : Int) + 1 + (m : Int) := by omega
          have g3 : ((k : Int) + 1 + (m : Int)).toNat = k + 1 + m := by omega
          by_cases hx : nth p (k + 1 + m) < nth p k
          · have h3 := Lib.hid (HY.out k m hx)
            generalize nth p (k + 1 + m) = t at *
            generalize nth p k = s at *
            generalize lsc p k m = L at *
            go_wp2
            go_quiet (fail)
            go_wp2
            go_roundw
            case rel => exact ⟨m + 1, by omega, by rw [h3.out], by go_num, bl_dn HW.out _⟩
            case measure => simp [intOf]; omega
          · have h3 := Lib.hid (HN.out k m (by omega))
            generalize nth p (k + 1 + m) = t at *
            generalize nth p k = s at *
            generalize lsc p k m = L at *
            go_wp2
            go_quiet (fail)
            go_wp2
            go_roundw
            case rel => exact ⟨m + 1, by omega, by rw [h3.out], by go_num, bl_dn HW.out _⟩
            case measure => simp [intOf]; omega
        · obtain rfl : m = n - (k + 1) := by omega
          have g1 : ¬ (k : Int) + 1 + ((n - (k + 1) : Nat) : Int) < (n : Int) := by omega
          have hF := Lib.hid (HF.out (n - (k + 1)) (by omega))
          obtain ⟨f1, f2⟩ := HFb.out (n - (k + 1)) (by omega)
          have hP : ∃ P, P = lsc p k (n - (k + 1)) * fct (n - (k + 1)) := ⟨_, rfl⟩
          obtain ⟨P, hP⟩ := hP
          have hP' := hP.symm
          have hB : 0 ≤ R + P ∧ R + P ≤ 2432902008176640000 := by rw [hP, ← hS.out]; exact B2
          have hP0 : 0 ≤ P := by rw [hP]; exact Int.mul_nonneg l1 (by omega)
          have hR : Hid (rk p n (k + 1) * fct (n - (k + 1)) = R + P) := by rw [hP]; exact hS.out
          obtain ⟨hB1, hB2⟩ := hB
          obtain ⟨B1a, B1b⟩ := B1
          clear hP hS B2 HF HFb HBd
          generalize lsc p k (n - (k + 1)) = L at *
          generalize hFF : fct (n - (k + 1)) = F at *
          have HFF := Lib.hid hFF
          clear hFF
          have e3 : (n : Int) - 1 - (k : Int) = ((n - (k + 1) : Nat) : Int) := by omega
          go_wp2_with fail
          refine (hF.out _).mono ?_; rintro e w5 ⟨rfl, rfl⟩
          go_wp2
          go_roundw
          case rel => exact ⟨k + 1, by omega, by rw [HFF.out, hR.out], by go_num, HW⟩
          case measure => simp [intOf]; omega
    · obtain rfl : n = k := by omega
      rw [HE.out]
      go_wp2
      go_ret2
      exact ⟨rfl, HW.out⟩
end Go.Proofs.Yteceibafagekiaa

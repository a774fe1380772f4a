/-
  What the reference's Check answers of every assignment and tour.
-/
import Derived.Test.YteoionlnnjcggaaChk4
import Derived.Deep.QuietTactic
import Derived.BigQuiet
import Derived.RegionTactic
namespace Go.Proofs.Yteoionlnnjcggaa
open Go.RowKit
set_option linter.unusedVariables false

theorem bl_dn {B : Nat} {a w : World} (h : Below B a w) (n : Nat) : Below B a (w.drewN n) := ⟨h.os, h.tape, h.output, h.size, h.block⟩
set_option maxRecDepth 100000 in
set_option maxHeartbeats 2000000 in
theorem refc_form (K N C : Int) (k1 : 1 < K) (k3 : K ≤ 3) (h1 : ¬ N < 1) (h2 : N ≤ 24) (wn vn cn : Nat) (h3 : ¬ ((cn : Int) = N ∧ C = 0 ∧ wn = 0 ∧ vn = 0)) (wa va ca : Option Addr) (wc vc cc : Nat) (w : World) :
    Calls Try.prog 14 #[.agg #[.int .i64 K, .int .i64 N, .int .i64 C, .slice wa wn wc, .slice va vn vc, .slice ca cn cc]] w
      fun e w' => e = .returned (.int .i64 8) ∧ Below w.heap.size w w' := by
  have hK : ¬ K = 1 := by omega
  by_cases g1 : (cn : Int) = N
  · subst g1
    by_cases g2 : C = 0
    · subst g2
      by_cases g3 : wn = 0
      · subst g3
        have g4 : ¬ (vn : Int) = 0 := by
          intro h
          exact h3 ⟨rfl, rfl, rfl, by omega⟩
        clear h3
        go_enter Try.func14, Try.ntmps14
        go_wp2
        go_ret
        exact ⟨rfl, bl_al (Below.refl _ _) _⟩
      · have g4 : ¬ (wn : Int) = 0 := by omega
        clear h3
        go_enter Try.func14, Try.ntmps14
        go_wp2
        go_ret
        exact ⟨rfl, bl_al (Below.refl _ _) _⟩
    · clear h3
      go_enter Try.func14, Try.ntmps14
      go_wp2
      go_ret
      exact ⟨rfl, bl_al (Below.refl _ _) _⟩
  · clear h3
    go_enter Try.func14, Try.ntmps14
    go_wp2
    go_ret
    exact ⟨rfl, bl_al (Below.refl _ _) _⟩
set_option maxRecDepth 100000 in
set_option maxHeartbeats 4000000 in
theorem refc_rows (K : Int) (k1 : 1 < K) (k3 : K ≤ 3) (cl : List (List Int)) (hbad : ¬ rowsP cl) (h1 : 1 ≤ cl.length) (hl : cl.length ≤ 24) (wa va ca : Option Addr) (wc vc cc : Nat) (w : World) (hr : Rws w ca cl) :
    Calls Try.prog 14 #[.agg #[.int .i64 K, .int .i64 cl.length, .int .i64 0, .slice wa 0 wc, .slice va 0 vc, .slice ca cl.length cc]] w
      fun e w' => e = .returned (.int .i64 8) ∧ Below w.heap.size w w' := by
  have hK : ¬ K = 1 := by omega
  have h1' : ¬ (cl.length : Int) < 1 := by omega
  have h2' : (cl.length : Int) ≤ 24 := by omega
  have HR := Lib.hid hr
  have HB := Lib.hid hbad
  clear hr hbad
  go_enter Try.func14, Try.ntmps14
  go_wp2
  go_loopw [7] (fun i wr => ∃ k : Nat, k ≤ cl.length ∧ i = .int .i64 k ∧ Hid (∀ j, j < k → (cl[j]?.getD []).length = cl.length) ∧ ∃ n, wr = (w.alloc (.cells #[.int .i64 K, .int .i64 cl.length, .int .i64 0, .slice wa 0 wc, .slice va 0 vc, .slice ca cl.length cc] 25)).drewN n) (fun i _ => cl.length - (intOf i).toNat)
  case atStart => exact ⟨0, by omega, rfl, fun j hj => absurd hj (by omega), 0, rfl⟩
  case round =>
    obtain ⟨k, hk, rfl, HE, n, rfl⟩ := hrel
    by_cases hlt : k < cl.length
    · obtain ⟨b1, o, aj, cj, rfl, hb1, hc, hrow, hrl⟩ := HR.out k hlt
      obtain ⟨row, hrw⟩ : ∃ g, cl[k]?.getD [] = g := ⟨_, rfl⟩
      have HG := Lib.hid hrw
      rw [hrw] at hc hrow hrl
      clear hrw hrow
      have kb : (0 : Int) ≤ (k : Int) ∧ (k : Int) < (cl.length : Int) := by omega
      by_cases he : row.length = cl.length
      · have HF : Hid (∀ j, j < k + 1 → (cl[j]?.getD []).length = cl.length) := fun j hj => by
          rcases Nat.lt_or_ge j k with h | h
          · exact HE.out j h
          · obtain rfl : j = k := by omega
            rw [HG.out]; exact he
        go_wp2
        go_quiet (fail)
        all_goals go_wp2
        all_goals
          go_roundw
          case rel => exact ⟨k + 1, by omega, by go_num, HF, _, rfl⟩
          case measure => simp [intOf]; omega
      · have he' : ¬ (row.length : Int) = (cl.length : Int) := by omega
        go_wp2
        go_quiet (fail)
        all_goals go_wp2
        all_goals
          go_ret
          exact ⟨rfl, bl_dn (bl_dn (bl_al (Below.refl _ _) _) _) _⟩
    · exact absurd (fun j hj => HE.out j (by omega)) HB.out
set_option maxRecDepth 100000 in
set_option maxHeartbeats 4000000 in
theorem refc_costs (K : Int) (k1 : 1 < K) (k3 : K ≤ 3) (cl : List (List Int)) (hgood : rowsP cl) (h1 : 1 ≤ cl.length) (hl : cl.length ≤ 24) (wa va ca : Option Addr) (wc vc cc : Nat) (w : World) (hr : Rws w ca cl) :
    Calls Try.prog 14 #[.agg #[.int .i64 K, .int .i64 cl.length, .int .i64 0, .slice wa 0 wc, .slice va 0 vc, .slice ca cl.length cc]] w
      fun e w' => e = .returned (.int .i64 (costE K 0 cl)) ∧ Below w.heap.size w w' := by
  have hK : ¬ K = 1 := by omega
  have h1' : ¬ (cl.length : Int) < 1 := by omega
  have h2' : (cl.length : Int) ≤ 24 := by omega
  have HR := Lib.hid hr
  have HB := Lib.hid hgood
  clear hr hgood
  go_enter Try.func14, Try.ntmps14
  go_wp2
  go_loopw [7] (fun i wr => ∃ k : Nat, k ≤ cl.length ∧ i = .int .i64 k ∧ ∃ n, wr = (w.alloc (.cells #[.int .i64 K, .int .i64 cl.length, .int .i64 0, .slice wa 0 wc, .slice va 0 vc, .slice ca cl.length cc] 25)).drewN n) (fun i _ => cl.length - (intOf i).toNat)
  case atStart => exact ⟨0, by omega, rfl, 0, rfl⟩
  case round =>
    obtain ⟨k, hk, rfl, n, rfl⟩ := hrel
    by_cases hlt : k < cl.length
    · obtain ⟨b1, o, aj, cj, rfl, hb1, hc, hrow, hrl⟩ := HR.out k hlt
      obtain ⟨row, hrw⟩ : ∃ g, cl[k]?.getD [] = g := ⟨_, rfl⟩
      have he : row.length = cl.length := by rw [← hrw]; exact HB.out k hlt
      rw [hrw] at hc hrow hrl
      clear hrw hrow
      have kb : (0 : Int) ≤ (k : Int) ∧ (k : Int) < (cl.length : Int) := by omega
      go_wp2
      go_quiet (fail)
      all_goals go_wp2
      all_goals
        go_roundw
        case rel => exact ⟨k + 1, by omega, by go_num, _, rfl⟩
        case measure => simp [intOf]; omega
    · go_wp2
      go_loop [8] (fun i => ∃ k : Nat, k ≤ cl.length ∧ i = .int .i64 k ∧ Hid (costE K 0 cl = costE K k (cl.drop k))) (fun i => cl.length - (intOf i).toNat)
      case atStart => exact ⟨0, by omega, rfl, rfl⟩
      case round =>
        obtain ⟨r, hkr, rfl, HE⟩ := hrel
        by_cases hltr : r < cl.length
        · obtain ⟨b, o, aj, cj, rfl, hb, hc, hrow, hrl⟩ := HR.out r hltr
          have hit := Lib.hid (costE_at K hltr)
          have he := HB.out r hltr
          generalize cl[r]?.getD [] = row at *
          have HI := Lib.hid hrow
          clear hrow
          go_wp2
          go_loop [9] (fun i => ∃ j : Nat, j ≤ row.length ∧ i = .int .i64 j ∧ Hid (rowE K r 0 row = rowE K r j (row.drop j))) (fun i => row.length - (intOf i).toNat)
          case atStart => exact ⟨0, by omega, rfl, rfl⟩
          case round =>
            obtain ⟨j, hj, rfl, HJ⟩ := hrel
            by_cases hltj : j < row.length
            · obtain ⟨b2, o2, rfl, hb2, hc2⟩ := HI.out j hltj
              have hitj := Lib.hid (rowE_at K r hltj)
              generalize row[j]?.getD 0 = x at *
              have EX := Lib.hid (fun W => number_any x W)
              have hltj2 : j < cl.length := by omega
              by_cases hx : num x = 0
              · by_cases h8 : K = 3 ∧ r = j ∧ x ≠ 0
                · have HF := Lib.hid (show costE K 0 cl = 8 from HE.out.trans (hit.out.trans (by
                    have e : rowE K r 0 row = 8 := HJ.out.trans (hitj.out.trans (by rw [if_pos hx, if_pos h8]))
                    rw [e]; simp)))
                  obtain ⟨rfl, rfl, hx0⟩ := h8
                  go_wp2_with fail
                  refine (EX.out _).mono ?_; rintro e w1 ⟨rfl, rfl⟩
                  go_wp2
                  go_ret
                  exact ⟨ret_i HF.out.symm, bl_dn (bl_al (Below.refl _ _) _) _⟩
                · have HF := Lib.hid (show rowE K r 0 row = rowE K r (j + 1) (row.drop (j + 1)) from HJ.out.trans (hitj.out.trans (by rw [if_pos hx, if_neg h8])))
                  have h8' : ((K == 3) = false) ∨ ((K == 3) = true ∧ r ≠ j) ∨ ((K == 3) = true ∧ r = j ∧ x = 0) := by
                    by_cases h1 : K = 3
                    · by_cases h2 : r = j
                      · by_cases h3 : x = 0
                        · exact Or.inr (Or.inr ⟨by simpa using h1, h2, h3⟩)
                        · exact absurd ⟨h1, h2, h3⟩ h8
                      · exact Or.inr (Or.inl ⟨by simpa using h1, h2⟩)
                    · exact Or.inl (by simpa using h1)
                  clear h8
                  rcases h8' with h8 | ⟨hk3, h8⟩ | ⟨hk3, rfl, rfl⟩
                  all_goals
                    go_wp2_with fail
                    refine (EX.out _).mono ?_; rintro e w1 ⟨rfl, rfl⟩
                    go_wp2
                    all_goals
                      go_round
                      case rel => exact ⟨_, by omega, by go_num, HF⟩
                      case measure => simp [intOf]; omega
              · have HF := Lib.hid (show costE K 0 cl = num x from HE.out.trans (hit.out.trans (by
                  have e : rowE K r 0 row = num x := HJ.out.trans (hitj.out.trans (by rw [if_neg hx]))
                  rw [e, if_neg hx])))
                go_wp2_with fail
                refine (EX.out _).mono ?_; rintro e w1 ⟨rfl, rfl⟩
                go_wp2
                go_ret
                exact ⟨ret_i HF.out.symm, bl_dn (bl_al (Below.refl _ _) _) _⟩
            · have HF := Lib.hid (show costE K 0 cl = costE K (r + 1) (cl.drop (r + 1)) from HE.out.trans (hit.out.trans (by
                have e : rowE K r 0 row = 0 := HJ.out.trans (rowE_end K r (by omega))
                rw [e, if_pos rfl])))
              have hltj2 : ¬ j < cl.length := by omega
              go_wp2
              go_round
              case rel => exact ⟨r + 1, by omega, by go_num, HF⟩
              case measure => simp [intOf]; omega
        · go_wp2
          go_ret
          exact ⟨ret_i (HE.out.trans (costE_end K (by omega))).symm, bl_dn (bl_al (Below.refl _ _) _) _⟩
end Go.Proofs.Yteoionlnnjcggaa

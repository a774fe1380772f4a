/-
  What inst.checkCosts and inst.inForm answer of every problem whose lists lie in memory.
-/
import Derived.Test.YteoionlnnjcggaaChk
namespace Go.Proofs.Yteoionlnnjcggaa
open Go.RowKit
set_option linter.unusedVariables false

def rowE (K : Int) (a b : Nat) : List Int → Int
  | [] => 0
  | x :: xs => if num x = 0 then (if K = 3 ∧ a = b ∧ x ≠ 0 then 8 else rowE K a (b + 1) xs) else num x
def costE (K : Int) (a : Nat) : List (List Int) → Int
  | [] => 0
  | r :: rs => if rowE K a 0 r = 0 then costE K (a + 1) rs else rowE K a 0 r
theorem rowE_at (K : Int) (a : Nat) {l : List Int} {k : Nat} (h : k < l.length) : rowE K a k (l.drop k) = if num (l[k]?.getD 0) = 0 then (if K = 3 ∧ a = k ∧ l[k]?.getD 0 ≠ 0 then 8 else rowE K a (k + 1) (l.drop (k + 1))) else num (l[k]?.getD 0) := by
  rw [drop_get h]; rfl
theorem rowE_end (K : Int) (a : Nat) {l : List Int} {k : Nat} (h : l.length ≤ k) : rowE K a k (l.drop k) = 0 := by rw [List.drop_eq_nil_of_le h]; rfl
theorem costE_at (K : Int) {l : List (List Int)} {k : Nat} (h : k < l.length) : costE K k (l.drop k) = if rowE K k 0 (l[k]?.getD []) = 0 then costE K (k + 1) (l.drop (k + 1)) else rowE K k 0 (l[k]?.getD []) := by
  rw [drop_row h]; rfl
theorem costE_end (K : Int) {l : List (List Int)} {k : Nat} (h : l.length ≤ k) : costE K k (l.drop k) = 0 := by rw [List.drop_eq_nil_of_le h]; rfl
attribute [irreducible] rowE costE
set_option maxHeartbeats 2000000 in
theorem costs_any (K N C : Int) (cl : List (List Int)) (wa va ca : Option Addr) (wn vn wc vc cc : Nat) (w : World) (hr : Rws w ca cl) (hl : cl.length ≤ 1000) :
    Calls Try.prog 38 #[.agg #[.int .i64 K, .int .i64 N, .int .i64 C, .slice wa wn wc, .slice va vn vc, .slice ca cl.length cc]] w
      fun e w' => e = .returned (.int .i64 (costE K 0 cl)) ∧ Below w.heap.size w w' := by
  have HR := Lib.hid hr
  clear hr
  go_enter Try.func38, Try.ntmps38
  go_wp2
  go_loop [11] (fun i => ∃ k : Nat, k ≤ cl.length ∧ i = .int .i64 k ∧ Hid (costE K 0 cl = costE K k (cl.drop k))) (fun i => cl.length - (intOf i).toNat)
  case atStart => exact ⟨0, by omega, rfl, rfl⟩
  case round =>
    obtain ⟨k, hk, rfl, HE⟩ := hrel
    by_cases hlt : k < cl.length
    · obtain ⟨b, o, aj, cj, rfl, hb, hc, hrow, hrl⟩ := HR.out k hlt
      have hit := Lib.hid (costE_at K hlt)
      generalize cl[k]?.getD [] = row at *
      have HI := Lib.hid hrow
      clear hrow
      go_wp2
      go_loop [18] (fun i => ∃ j : Nat, j ≤ row.length ∧ i = .int .i64 j ∧ Hid (rowE K k 0 row = rowE K k j (row.drop j))) (fun i => row.length - (intOf i).toNat)
      case atStart => exact ⟨0, by omega, rfl, rfl⟩
      case round =>
        obtain ⟨j, hj, rfl, HJ⟩ := hrel
        by_cases hltj : j < row.length
        · obtain ⟨b2, o2, rfl, hb2, hc2⟩ := HI.out j hltj
          have hitj := Lib.hid (rowE_at K k hltj)
          generalize row[j]?.getD 0 = x at *
          have EX := Lib.hid (fun W => entry_any x W)
          by_cases hx : num x = 0
          · by_cases h8 : K = 3 ∧ k = j ∧ x ≠ 0
            · have HF := Lib.hid (show costE K 0 cl = 8 from HE.out.trans (hit.out.trans (by
                have e : rowE K k 0 row = 8 := HJ.out.trans (hitj.out.trans (by rw [if_pos hx, if_pos h8]))
                rw [e]; simp)))
              obtain ⟨rfl, rfl, hx0⟩ := h8
              go_wp2_with fail
              refine (EX.out _).mono ?_; rintro e w1 ⟨rfl, rfl⟩
              go_wp2
              go_ret
              exact ⟨ret_i HF.out.symm, bl_al (Below.refl _ _) _⟩
            · have HF := Lib.hid (show rowE K k 0 row = rowE K k (j + 1) (row.drop (j + 1)) from HJ.out.trans (hitj.out.trans (by rw [if_pos hx, if_neg h8])))
              have h8' : (K ≠ 3) ∨ (K = 3 ∧ k ≠ j) ∨ (K = 3 ∧ k = j ∧ x = 0) := by
                by_cases h1 : K = 3
                · by_cases h2 : k = j
                  · by_cases h3 : x = 0
                    · exact Or.inr (Or.inr ⟨h1, h2, h3⟩)
                    · exact absurd ⟨h1, h2, h3⟩ h8
                  · exact Or.inr (Or.inl ⟨h1, h2⟩)
                · exact Or.inl h1
              clear h8
              rcases h8' with h8 | ⟨rfl, h8⟩ | ⟨rfl, rfl, rfl⟩
              all_goals
                go_wp2_with fail
                refine (EX.out _).mono ?_; rintro e w1 ⟨rfl, rfl⟩
                go_wp2
                all_goals
                  go_round
                  case rel => exact ⟨_, by omega, by go_num, HF⟩
                  case measure => simp [intOf]; omega
          · have HF := Lib.hid (show costE K 0 cl = num x from HE.out.trans (hit.out.trans (by
              have e : rowE K k 0 row = num x := HJ.out.trans (hitj.out.trans (by rw [if_neg hx]))
              rw [e, if_neg hx])))
            go_wp2_with fail
            refine (EX.out _).mono ?_; rintro e w1 ⟨rfl, rfl⟩
            go_wp2
            go_ret
            exact ⟨ret_i HF.out.symm, bl_al (Below.refl _ _) _⟩
        · have HF := Lib.hid (show costE K 0 cl = costE K (k + 1) (cl.drop (k + 1)) from HE.out.trans (hit.out.trans (by
            have e : rowE K k 0 row = 0 := HJ.out.trans (rowE_end K k (by omega))
            rw [e, if_pos rfl])))
          go_wp2
          go_round
          case rel => exact ⟨k + 1, by omega, by go_num, HF⟩
          case measure => simp [intOf]; omega
    · go_wp2
      go_ret
      exact ⟨ret_i (HE.out.trans (costE_end K (by omega))).symm, bl_al (Below.refl _ _) _⟩
end Go.Proofs.Yteoionlnnjcggaa

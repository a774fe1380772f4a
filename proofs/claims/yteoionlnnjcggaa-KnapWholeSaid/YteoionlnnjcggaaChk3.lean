/-
  What inst.inForm and inst.Check answer of every problem whose lists lie in memory.
-/
import Derived.Test.YteoionlnnjcggaaChk2
namespace Go.Proofs.Yteoionlnnjcggaa
open Go.RowKit
set_option linter.unusedVariables false

def rowsP (cl : List (List Int)) : Prop := ∀ j, j < cl.length → (cl[j]?.getD []).length = cl.length
def formP (K N C : Int) (wn vn : Nat) (cl : List (List Int)) : Prop :=
  (K = 1 ∧ (wn : Int) = N ∧ (vn : Int) = N ∧ cl.length = 0) ∨ (K ≠ 1 ∧ (cl.length : Int) = N ∧ C = 0 ∧ wn = 0 ∧ vn = 0 ∧ rowsP cl)
set_option maxHeartbeats 1000000 in
theorem inform_rows (K : Int) (hK : K ≠ 1) (b : Bool) (cl : List (List Int)) (hb : b = true ↔ rowsP cl) (wa va ca : Option Addr) (wc vc cc : Nat) (w : World) (hr : Rws w ca cl) (hl : cl.length ≤ 1000) :
    Calls Try.prog 36 #[.agg #[.int .i64 K, .int .i64 cl.length, .int .i64 0, .slice wa 0 wc, .slice va 0 vc, .slice ca cl.length cc]] w
      fun e w' => e = .returned (.bool b) ∧ Below w.heap.size w w' := by
  have HR := Lib.hid hr
  have HB := Lib.hid hb
  clear hr hb
  go_enter Try.func36, Try.ntmps36
  go_wp2
  go_loop [54] (fun i => ∃ k : Nat, k ≤ cl.length ∧ i = .int .i64 k ∧ Hid (∀ j, j < k → (cl[j]?.getD []).length = cl.length)) (fun i => cl.length - (intOf i).toNat)
  case atStart => exact ⟨0, by omega, rfl, fun j hj => absurd hj (by omega)⟩
  case round =>
    obtain ⟨k, hk, rfl, HE⟩ := hrel
    by_cases hlt : k < cl.length
    · obtain ⟨b1, o, aj, cj, rfl, hb1, hc, hrow, hrl⟩ := HR.out k hlt
      have hg : ∃ g, cl[k]?.getD [] = g := ⟨_, rfl⟩
      obtain ⟨row, hrw⟩ := hg
      have HG := Lib.hid hrw
      rw [hrw] at hc hrow hrl
      clear hrw hrow
      by_cases he : row.length = cl.length
      · have HF : Hid (∀ j, j < k + 1 → (cl[j]?.getD []).length = cl.length) := fun j hj => by
          rcases Nat.lt_or_ge j k with h | h
          · exact HE.out j h
          · obtain rfl : j = k := by omega
            rw [HG.out]; exact he
        go_wp2
        go_round
        case rel => exact ⟨k + 1, by omega, by go_num, HF⟩
        case measure => simp [intOf]; omega
      · have hbf : b = false := by
          cases b
          · rfl
          · exact absurd (HB.out.1 rfl k hlt) (by rw [HG.out]; exact he)
        subst hbf
        have he' : ¬ (row.length : Int) = (cl.length : Int) := by omega
        go_wp2
        go_ret
        exact ⟨rfl, bl_al (Below.refl _ _) _⟩
    · have hbt : b = true := HB.out.2 (fun j hj => HE.out j (by omega))
      subst hbt
      go_wp2
      go_ret
      exact ⟨rfl, bl_al (Below.refl _ _) _⟩
set_option maxHeartbeats 1000000 in
theorem inform_any (K N C : Int) (b : Bool) (wn vn : Nat) (cl : List (List Int)) (hb : b = true ↔ formP K N C wn vn cl) (wa va ca : Option Addr) (wc vc cc : Nat) (w : World) (hr : Rws w ca cl) (hl : cl.length ≤ 1000) :
    Calls Try.prog 36 #[.agg #[.int .i64 K, .int .i64 N, .int .i64 C, .slice wa wn wc, .slice va vn vc, .slice ca cl.length cc]] w
      fun e w' => e = .returned (.bool b) ∧ Below w.heap.size w w' := by
  by_cases hK : K = 1
  · subst hK
    by_cases h1 : (wn : Int) = N
    · subst h1
      by_cases h2 : vn = wn
      · subst h2
        by_cases h3 : cl.length = 0
        · have hbt : b = true := hb.2 (Or.inl ⟨rfl, rfl, rfl, h3⟩)
          subst hbt
          rw [h3]
          clear hb hr hl
          go_enter Try.func36, Try.ntmps36
          go_wp2
          go_ret
          exact ⟨rfl, bl_al (Below.refl _ _) _⟩
        · have hbf : b = false := by
            cases b
            · rfl
            · rcases hb.1 rfl with h | h
              · exact absurd h.2.2.2 h3
              · exact absurd rfl h.1
          subst hbf
          generalize cl.length = m at *
          have h3' : ((m : Int) == 0) = false := by simp; omega
          clear hb hr hl
          go_enter Try.func36, Try.ntmps36
          go_wp2
          go_ret
          exact ⟨rfl, bl_al (Below.refl _ _) _⟩
      · have hbf : b = false := by
          cases b
          · rfl
          · rcases hb.1 rfl with h | h
            · exact absurd h.2.2.1 (by omega)
            · exact absurd rfl h.1
        subst hbf
        have h2' : ¬ (vn : Int) = (wn : Int) := by omega
        clear hb hr hl
        go_enter Try.func36, Try.ntmps36
        go_wp2
        go_ret
        exact ⟨rfl, bl_al (Below.refl _ _) _⟩
    · have hbf : b = false := by
        cases b
        · rfl
        · rcases hb.1 rfl with h | h
          · exact absurd h.2.1 h1
          · exact absurd rfl h.1
      subst hbf
      clear hb hr hl
      go_enter Try.func36, Try.ntmps36
      go_wp2
      go_ret
      exact ⟨rfl, bl_al (Below.refl _ _) _⟩
  · by_cases h1 : (cl.length : Int) = N
    · subst h1
      by_cases h2 : C = 0
      · subst h2
        by_cases h3 : wn = 0
        · subst h3
          by_cases h4 : vn = 0
          · subst h4
            exact inform_rows K hK b cl (hb.trans ⟨fun h => by
              rcases h with h | h
              · exact absurd h.1 hK
              · exact h.2.2.2.2.2, fun h => Or.inr ⟨hK, rfl, rfl, rfl, rfl, h⟩⟩) wa va ca wc vc cc w hr hl
          · have hbf : b = false := by
              cases b
              · rfl
              · rcases hb.1 rfl with h | h
                · exact absurd h.1 hK
                · exact absurd h.2.2.2.2.1 h4
            subst hbf
            have h4' : ¬ (vn : Int) = 0 := by omega
            clear hb hr hl
            go_enter Try.func36, Try.ntmps36
            go_wp2
            go_ret
            exact ⟨rfl, bl_al (Below.refl _ _) _⟩
        · have hbf : b = false := by
            cases b
            · rfl
            · rcases hb.1 rfl with h | h
              · exact absurd h.1 hK
              · exact absurd h.2.2.2.1 h3
          subst hbf
          have h3' : ¬ (wn : Int) = 0 := by omega
          clear hb hr hl
          go_enter Try.func36, Try.ntmps36
          go_wp2
          go_ret
          exact ⟨rfl, bl_al (Below.refl _ _) _⟩
      · have hbf : b = false := by
          cases b
          · rfl
          · rcases hb.1 rfl with h | h
            · exact absurd h.1 hK
            · exact absurd h.2.2.1 h2
        subst hbf
        clear hb hr hl
        go_enter Try.func36, Try.ntmps36
        go_wp2
        go_ret
        exact ⟨rfl, bl_al (Below.refl _ _) _⟩
    · have hbf : b = false := by
        cases b
        · rfl
        · rcases hb.1 rfl with h | h
          · exact absurd h.1 hK
          · exact absurd h.2.1 h1
      subst hbf
      clear hb hr hl
      go_enter Try.func36, Try.ntmps36
      go_wp2
      go_ret
      exact ⟨rfl, bl_al (Below.refl _ _) _⟩
attribute [irreducible] formP
end Go.Proofs.Yteoionlnnjcggaa

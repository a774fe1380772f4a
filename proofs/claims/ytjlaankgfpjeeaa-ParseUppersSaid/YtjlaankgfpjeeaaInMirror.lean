/-
  What inst.Mirror answers of every problem whose lists lie in memory.
-/
import Derived.Test.YtjlaankgfpjeeaaInChk4
namespace Go.Proofs.Ytjlaankgfpjeeaa.ip
open Go.RowKit
set_option linter.unusedVariables false

def at2 (cl : List (List Int)) (r c : Nat) : Int := (cl[r]?.getD [])[c]?.getD 0
def symP (cl : List (List Int)) : Prop := ∀ r c, r < cl.length → c < cl.length → at2 cl r c = at2 cl c r
theorem chk_ok {K N C : Int} {wl vl : List Int} {cl : List (List Int)} (h : chk K N C wl vl cl = 0) (hK : K = 3) : (cl.length : Int) = N ∧ rowsP cl := by
  have k : ¬ (K < 1 ∨ 3 < K) := by omega
  by_cases h1 : N < 1
  · rw [chk_arg k h1] at h; omega
  · by_cases h2 : (K = 1 ∧ 64 < N) ∨ (K ≠ 1 ∧ 24 < N)
    · rw [chk_big k h1 h2] at h; omega
    · by_cases h3 : formP K N C wl.length vl.length cl
      · have := form_costs h3 (by omega)
        exact ⟨this.1, this.2.2.2.2⟩
      · rw [chk_form k h1 h2 h3] at h; omega
set_option maxHeartbeats 2000000 in
theorem mirror_any (K N C : Int) (b : Bool) (wl vl : List Int) (cl : List (List Int)) (hb : b = true ↔ K = 3 ∧ chk K N C wl vl cl = 0 ∧ symP cl) (wa va ca : Option Addr) (wc vc cc : Nat) (w : World) (hw : Ints w wa wl) (hv : Ints w va vl) (hr : Rws w ca cl)
    (l1 : wl.length ≤ 1000) (l2 : vl.length ≤ 1000) (l3 : cl.length ≤ 1000) :
    Calls Try.prog 10 #[.agg #[.int .i64 K, .int .i64 N, .int .i64 C, .slice wa wl.length wc, .slice va vl.length vc, .slice ca cl.length cc]] w
      fun e w' => e = .returned (.bool b) ∧ Below w.heap.size w w' := by
  by_cases hK : K = 3
  · have bA : ∀ o, Below w.heap.size w (w.alloc o) := fun o => bl_al (Below.refl _ _) _
    have HC := Lib.hid (fun o => check_any K N C wl vl cl wa va ca wc vc cc (w.alloc o) (hw.keep (bA o)) (hv.keep (bA o)) (hr.keep (bA o)) l1 l2 l3)
    have HR := Lib.hid hr
    have HB := Lib.hid hb
    clear hw hv hr hb bA
    by_cases h0 : chk K N C wl vl cl = 0
    · obtain ⟨fN, fR⟩ := chk_ok h0 hK
      have H0 := Lib.hid h0
      rw [h0] at HC
      clear h0
      subst hK
      have FR := Lib.hid fR
      clear fR fN
      go_enter Try.func10, Try.ntmps10
      go_wp2_with fail
      refine (HC.out _).mono ?_; rintro e w2 ⟨rfl, hb2⟩
      obtain ⟨⟨c0, c1, c2, c3, c4, c5⟩, bl⟩ := box_cells hb2
      have BL := Lib.hid bl
      clear hb2 bl HC
      go_wp2
      go_loop [18] (fun i => ∃ k : Nat, k ≤ cl.length ∧ i = .int .i64 k ∧ Hid (∀ r c, r < k → c < cl.length → at2 cl r c = at2 cl c r)) (fun i => cl.length - (intOf i).toNat)
      case atStart => exact ⟨0, by omega, rfl, fun r c hr => absurd hr (by omega)⟩
      case round =>
        obtain ⟨k, hk, rfl, HE⟩ := hrel
        by_cases hlt : k < cl.length
        · obtain ⟨b1, o, aj, cj, rfl, hb1, hc, hrow, hrl⟩ := (HR.out.keep BL.out) k hlt
          have hlen := FR.out k hlt
          obtain ⟨row, hrw⟩ : ∃ g, cl[k]?.getD [] = g := ⟨_, rfl⟩
          have HG := Lib.hid hrw
          rw [hrw] at hc hrow hrl hlen
          have HI := Lib.hid hrow
          clear hrw hrow
          go_wp2
          go_loop [25] (fun i => ∃ j : Nat, j ≤ row.length ∧ i = .int .i64 j ∧ Hid (∀ c, c < j → at2 cl k c = at2 cl c k)) (fun i => row.length - (intOf i).toNat)
          case atStart => exact ⟨0, by omega, rfl, fun c hc => absurd hc (by omega)⟩
          case round =>
            obtain ⟨j, hj, rfl, HJ⟩ := hrel
            by_cases hltj : j < row.length
            · obtain ⟨b2, o2, rfl, hb2, hc2⟩ := HI.out j hltj
              obtain ⟨b3, o3, a3, c3', e3, hb3, hc3, hrow3, hrl3⟩ := (HR.out.keep BL.out) j (by omega)
              have hlen3 := FR.out j (by omega)
              injection e3 with e3
              injection e3 with e3 e3'
              subst e3 e3'
              obtain ⟨b4, o4, rfl, hb4, hc4⟩ := hrow3 k (by omega)
              have ex : row[j]?.getD 0 = at2 cl k j := by unfold at2; rw [HG.out]
              have ey : (cl[j]?.getD [])[k]?.getD 0 = at2 cl j k := rfl
              rw [ex] at hc2
              rw [ey] at hc4
              rw [hlen3] at hc3
              clear ex ey hlen3 hrow3 hrl3
              have kb : (0 : Int) ≤ (k : Int) ∧ (k : Int) < (cl.length : Int) := by omega
              have hjl : j < cl.length := by omega
              by_cases hxy : at2 cl k j = at2 cl j k
              · have HF : Hid (∀ c, c < j + 1 → at2 cl k c = at2 cl c k) := fun c hc => by
                  rcases Nat.lt_or_ge c j with h | h
                  · exact HJ.out c h
                  · obtain rfl : c = j := by omega
                    exact hxy
                generalize at2 cl k j = x at *
                generalize at2 cl j k = y at *
                subst hxy
                go_wp2
                go_round
                case rel => exact ⟨j + 1, by omega, by go_num, HF⟩
                case measure => simp [intOf]; omega
              · have hbf : b = false := by
                  cases b
                  · rfl
                  · exact absurd ((HB.out.1 rfl).2.2 k j hlt hjl) hxy
                subst hbf
                generalize at2 cl k j = x at *
                generalize at2 cl j k = y at *
                go_wp2
                go_ret
                exact ⟨rfl, BL.out⟩
            · have HF : Hid (∀ r c, r < k + 1 → c < cl.length → at2 cl r c = at2 cl c r) := fun r c hr hc => by
                rcases Nat.lt_or_ge r k with h | h
                · exact HE.out r c h hc
                · obtain rfl : r = k := by omega
                  exact HJ.out c (by omega)
              go_wp2
              go_round
              case rel => exact ⟨k + 1, by omega, by go_num, HF⟩
              case measure => simp [intOf]; omega
        · have hbt : b = true := HB.out.2 ⟨(by first | exact rfl | trivial), H0.out, fun r c hr hc => HE.out r c (by omega) hc⟩
          subst hbt
          go_wp2
          go_ret
          exact ⟨rfl, BL.out⟩
    · have hbf : b = false := by
        cases b
        · rfl
        · exact absurd (HB.out.1 rfl).2.1 h0
      subst hbf hK
      generalize chk 3 N C wl vl cl = v at *
      go_enter Try.func10, Try.ntmps10
      go_wp2_with fail
      refine (HC.out _).mono ?_; rintro e w2 ⟨rfl, hb2⟩
      obtain ⟨-, bl⟩ := box_cells hb2
      clear hb2
      go_wp2
      go_ret
      exact ⟨rfl, bl⟩
  · have hbf : b = false := by
      cases b
      · rfl
      · exact absurd (hb.1 rfl).1 hK
    subst hbf
    clear hb hw hv hr
    go_enter Try.func10, Try.ntmps10
    go_wp2
    go_ret
    exact ⟨rfl, bl_al (Below.refl _ _) _⟩
end Go.Proofs.Ytjlaankgfpjeeaa.ip

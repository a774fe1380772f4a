/-
  The walk of kurganlaw08.ValuePlain.
-/
import Derived.Test.YtfpffggeehmedaaPlainsW
import Derived.Test.YtfpffggeehmedaaBd
namespace Go.Proofs.Ytfpffggeehmedaa
open Go.RowKit
set_option linter.unusedVariables false

set_option maxRecDepth 100000 in
set_option maxHeartbeats 2000000 in
theorem valuePlain_walk (kd N C : Int) (wl vl : List Int) (cl : List (List Int)) (wa va ca : Option Addr) (wn vn cn wc vc cc : Nat) (w : World) (h1 : Src w wa wn wc wl) (h2 : Src w va vn vc vl) (h3 : RSrc w ca cn cc cl) :
    Calls Try.prog 4 #[.agg #[.int .i64 kd, .int .i64 N, .int .i64 C, .slice wa wn wc, .slice va vn vc, .slice ca cn cc]] w fun e w' => e = .returned (.bool true) ∧ Below w.heap.size w w' := by
  have bA : Below w.heap.size w (w.alloc (.cells #[.int .i64 kd, .int .i64 N, .int .i64 C, .slice wa wn wc, .slice va vn vc, .slice ca cn cc] 25)) := bl_al (Below.refl _ _) _
  have HC := Lib.hid (refcopy_any kd N C wl vl cl wa va ca wn vn cn wc vc cc _ (h1.keep bA) (h2.keep bA) (h3.keep bA))
  have HB := Lib.hid bA
  have l1 : wl.length ≤ 1000 := by have := h1.1; omega
  have l2 : vl.length ≤ 1000 := by have := h2.1; omega
  have l3 : cl.length ≤ 1000 := by have := h3.1; omega
  have HV := Lib.hid (fun W => vals_walk W)
  clear h1 h2 h3 bA
  go_enter Try.func4, Try.ntmps4
  go_wp2_with fail
  refine HC.out.mono ?_; rintro e w1 ⟨g1, k1, g2, k2, ca', cc', rfl, hb, i1, i2, rw⟩
  have q0 : w1.heap[w.heap.size]? = some (.cells #[.int .i64 kd, .int .i64 N, .int .i64 C, .slice wa wn wc, .slice va vn vc, .slice ca cn cc] 25 (0, 0)) := (hb.block _ (by simp)).trans (heap_alloc_new w _)
  have P := put_copy (K := kd) (N := N) (C := C) (k1 := k1) (k2 := k2) (cc := cc') (Nat.le_refl _) q0 (bl_tr HB.out hb) i1 i2 rw l1 l2 l3 _ rfl
  have HP := Lib.hid P
  obtain ⟨c0, c1, c2, c3, c4, c5⟩ := box6 q0
  have cf := fr6 q0
  have hs := lt_hp q0
  clear hb i1 i2 rw q0 HC HB P
  have HPl := Lib.hid (fun (hc : chk kd N C wl vl cl = 0) W (h : Prob W wl vl cl (some ⟨g1, 0, none⟩) (some ⟨g2, 0, none⟩) ca') => plain_ok kd N C wl vl cl hc _ _ _ k1 k2 cc' W h)
  have HPn := Lib.hid (fun (hc : chk kd N C wl vl cl ≠ 0) W (h : Prob W wl vl cl (some ⟨g1, 0, none⟩) (some ⟨g2, 0, none⟩) ca') => plain_none kd N C wl vl cl hc _ _ _ k1 k2 cc' W h)
  have HRf := Lib.hid (fun W (h : Prob W wl vl cl (some ⟨g1, 0, none⟩) (some ⟨g2, 0, none⟩) ca') => ref_any kd N C wl vl cl _ _ _ k1 k2 cc' W h)
  go_wp2_with fail
  clear c0 c1 c2 c3 c4 c5 cf
  generalize ((((((w1.setCell ⟨w.heap.size, 0, none⟩ (.int .i64 kd)).setCell ⟨w.heap.size, 1, none⟩ (.int .i64 N)).setCell ⟨w.heap.size, 2, none⟩ (.int .i64 C)).setCell ⟨w.heap.size, 3, none⟩ (.slice (some ⟨g1, 0, none⟩) wl.length k1)).setCell ⟨w.heap.size, 4, none⟩ (.slice (some ⟨g2, 0, none⟩) vl.length k2)).setCell ⟨w.heap.size, 5, none⟩ (.slice ca' cl.length cc')) = X at *
  by_cases hc : chk kd N C wl vl cl = 0
  · have HO := Lib.hid (plain_len hc)
    have HE := Lib.hid (plain_cost hc)
    have HLe := Lib.hid (cost_le kd N C wl vl cl _ (plain_cost hc))
    have HBd := Lib.hid (cost_bd kd N C wl vl cl (plainR kd N C wl vl cl))
    have hN := (chk_zero hc).1
    have HCo := Lib.hid (fun W (h : Prob W wl vl cl (some ⟨g1, 0, none⟩) (some ⟨g2, 0, none⟩) ca') xa xc (hI : Ints W xa (plainR kd N C wl vl cl)) (hl : (plainR kd N C wl vl cl).length ≤ 1000) => cost_any kd N C wl vl cl (plainR kd N C wl vl cl) _ _ _ xa k1 k2 cc' xc W h hI hl)
    have HTo := Lib.hid (fun W (h : Prob W wl vl cl (some ⟨g1, 0, none⟩) (some ⟨g2, 0, none⟩) ca') => total_any kd N C wl vl cl _ _ _ k1 k2 cc' W h)
    have h64 : (plainR kd N C wl vl cl).length ≤ 64 := by have := HO.out.1; rcases (chk_zero hc).2 with z | z <;> omega
    rw [HE.out] at HCo
    rw [hc] at HRf
    have HPl2 := Lib.hid (fun W h => HPl.out hc W h)
    clear HPl HPn hc HE
    generalize plainR kd N C wl vl cl = x at *
    generalize (costR kd N C wl vl cl x).1 = co at *
    generalize totalR kd N C wl vl cl = tot at *
    refine (HPl2.out X HP.out.2.1).mono ?_; rintro e w2 ⟨g, cap, rfl, hb2, hi⟩
    have B2 := Lib.hid hb2
    have HI := Lib.hid hi
    obtain ⟨c0, c1, c2, c3, c4, c5⟩ := box6_keep hb2 HP.out.1
    clear hb2 hi
    go_wp2_with fail
    refine (HRf.out w2 (HP.out.2.1.keep B2.out)).mono ?_; rintro e w3 ⟨rfl, hb3⟩
    have B3 := Lib.hid (bl_tr B2.out hb3)
    have HI3 := Lib.hid (HI.out.keep hb3)
    clear c0 c1 c2 c3 c4 c5 hb3
    obtain ⟨c0, c1, c2, c3, c4, c5⟩ := box6_keep B3.out HP.out.1
    go_wp2_with fail
    refine (HCo.out w3 (HP.out.2.1.keep B3.out) _ cap HI3.out.ints (by omega)).mono ?_; rintro e w4 ⟨rfl, hb4⟩
    have B4 := Lib.hid (bl_tr B3.out hb4)
    have HI4 := Lib.hid (HI3.out.keep hb4)
    clear c0 c1 c2 c3 c4 c5 hb4
    obtain ⟨c0, c1, c2, c3, c4, c5⟩ := box6_keep B4.out HP.out.1
    have HL := HO.out.1
    have HNth := Lib.hid HO.out.2
    have HG : Hid (∀ j, j < x.length → w4.cell? ⟨g, j, none⟩ = some (.int .i64 (if kd = 1 then 0 else (j : Int)))) := fun j hj => by
      obtain ⟨b, o, e, _, hc⟩ := ints_nth HI4.out.ints hj
      simp only [Option.some.injEq, Addr.mk.injEq, and_true] at e
      obtain ⟨rfl, rfl⟩ := e
      rw [Nat.zero_add, HNth.out j hj] at hc
      exact hc
    obtain ⟨d1, d2⟩ := HBd.out
    have d3 := HLe.out
    clear HBd HLe HO HNth HCo
    generalize hxn : x.length = n at *
    clear hxn
    subst HL
    go_wp2
    go_loop [6] (fun i => ∃ k : Nat, k ≤ n ∧ i = .int .i64 k) (fun i => n - (intOf i).toNat)
    case atStart => exact ⟨0, by omega, rfl⟩
    case round =>
      obtain ⟨k, hk, rfl⟩ := hrel
      by_cases hlt : k < n
      · have hcell := HG.out k hlt
        rcases Classical.em (kd = 1) with h1 | h1
        · rw [if_pos h1] at hcell
          subst h1
          go_wp2
          go_round
          case rel => exact ⟨k + 1, by omega, by go_num⟩
          case measure => simp [intOf]; omega
        · rw [if_neg h1] at hcell
          have h1' : (kd == 1) = false := by simp [h1]
          go_wp2
          go_round
          case rel => exact ⟨k + 1, by omega, by go_num⟩
          case measure => simp [intOf]; omega
      · obtain rfl : n = k := by omega
        go_wp2_with fail
        refine (HV.out w4).mono ?_; rintro e w5 ⟨rfl, hb5⟩
        have B5 := Lib.hid (bl_tr B4.out hb5)
        clear c0 c1 c2 c3 c4 c5 hb5
        obtain ⟨c0, c1, c2, c3, c4, c5⟩ := box6_keep B5.out HP.out.1
        go_wp2_with fail
        refine (HTo.out w5 (HP.out.2.1.keep B5.out)).mono ?_; rintro e w6 ⟨rfl, hb6⟩
        go_wp2
        go_ret
        exact ⟨rfl, HP.out.2.2.trans ((bl_tr B5.out hb6).mono HP.out.2.2.size)⟩
  · have HPn2 := Lib.hid (fun W h => HPn.out hc W h)
    clear HPl HPn
    generalize chk kd N C wl vl cl = ck at *
    have hck : (ck == 0) = false := by simp [hc]
    refine (HPn2.out X HP.out.2.1).mono ?_; rintro e w2 ⟨rfl, hb2⟩
    obtain ⟨c0, c1, c2, c3, c4, c5⟩ := box6_keep hb2 HP.out.1
    have B2 := Lib.hid hb2
    clear hb2
    go_wp2_with fail
    refine (HRf.out w2 (HP.out.2.1.keep B2.out)).mono ?_; rintro e w3 ⟨rfl, hb3⟩
    have B3 := Lib.hid (bl_tr B2.out hb3)
    clear hb3
    go_wp2_with fail
    refine (HV.out w3).mono ?_; rintro e w4 ⟨rfl, hb4⟩
    go_wp2
    go_ret
    exact ⟨rfl, HP.out.2.2.trans ((bl_tr B3.out hb4).mono HP.out.2.2.size)⟩
end Go.Proofs.Ytfpffggeehmedaa

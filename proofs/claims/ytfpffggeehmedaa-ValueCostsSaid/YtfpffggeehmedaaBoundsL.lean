/-
  The walk of kurganlaw08.ValueBounds.
-/
import Derived.Test.YtfpffggeehmedaaPlainsW
import Derived.Test.YtfpffggeehmedaaBd
namespace Go.Proofs.Ytfpffggeehmedaa
open Go.RowKit
set_option linter.unusedVariables false

/-- how Value's answer goes with Cost's -/
theorem val_split (K N C : Int) (wl vl : List Int) (cl : List (List Int)) (x : List Int) :
    ((costR K N C wl vl cl x).2 ≠ 0 ∧ (costR K N C wl vl cl x).1 = 0 ∧ valueR K N C wl vl cl x = (0, (costR K N C wl vl cl x).2)) ∨
    ((costR K N C wl vl cl x).2 = 0 ∧ K = 1 ∧ valueR K N C wl vl cl x = (totalR K N C wl vl cl - (costR K N C wl vl cl x).1, 0)) ∨
    ((costR K N C wl vl cl x).2 = 0 ∧ K ≠ 1 ∧ valueR K N C wl vl cl x = ((costR K N C wl vl cl x).1, 0)) := by
  by_cases he : (costR K N C wl vl cl x).2 = 0
  · refine Or.inr ?_
    rw [value_ok he]
    by_cases hK : K = 1
    · subst hK; exact Or.inl ⟨he, rfl, by rw [of_item]⟩
    · exact Or.inr ⟨he, hK, by rw [of_other _ hK]⟩
  · refine Or.inl ⟨he, ?_, value_bad he⟩
    by_cases hc : chk K N C wl vl cl = 0
    · by_cases ho : okx K N x
      · rcases (show K = 1 ∨ K = 2 ∨ K = 3 by rcases (chk_zero hc).2 with z | z <;> omega) with rfl | rfl | rfl
        · rw [cost_items hc ho] at *
          unfold itemsR at *
          split
          · rfl
          · rename_i h; rw [if_neg h] at he; exact absurd rfl he
        · rw [cost_rows hc ho] at he; exact absurd rfl he
        · rw [cost_ways hc ho] at he; exact absurd rfl he
      · rw [cost_arg hc ho]
    · rw [cost_bad hc]
/-- the first seventy numbers of a list that came in -/
theorem src_ints {W : World} {a : Option Addr} {n c : Nat} {l : List Int} (h : Src W a n c l) : Ints W a l := by
  obtain ⟨h1, h2, h3, h4⟩ := h
  intro j hj
  rcases h4 with ⟨rfl, h4⟩ | ⟨b, o, rfl, hlt, hc⟩
  · omega
  · exact ⟨b, o, rfl, hlt, hc j hj⟩
set_option maxRecDepth 100000 in
set_option maxHeartbeats 2000000 in
theorem bounds_core (kd N C : Int) (wl vl : List Int) (cl : List (List Int)) (wa va ca : Option Addr) (wn vn cn wc vc cc : Nat) (x : List Int) (xa : Option Addr) (xn xc : Nat) (w : World) (h1 : Src w wa wn wc wl) (h2 : Src w va vn vc vl) (h3 : RSrc w ca cn cc cl)
    (hs : ∀ n' : Nat, n' = x.length → (xa = none ∧ xn = 0 ∧ xc = 0 ∧ n' = 0) ∨ ∃ ad, xa = some ad ∧ xn ≤ xc ∧ xc ≤ 9223372036854775807 ∧ ((xn ≤ 70 ∧ n' = xn) ∨ (70 < xn ∧ n' = 70))) (hI : Ints w xa x) (hl : x.length ≤ 70) :
    Calls Try.prog 5 #[.agg #[.int .i64 kd, .int .i64 N, .int .i64 C, .slice wa wn wc, .slice va vn vc, .slice ca cn cc], .slice xa xn xc] w fun e w' => e = .returned (.bool true) ∧ Below w.heap.size w w' := by
  have bA : Below w.heap.size w (w.alloc (.cells #[.int .i64 kd, .int .i64 N, .int .i64 C, .slice wa wn wc, .slice va vn vc, .slice ca cn cc] 25)) := bl_al (Below.refl _ _) _
  have HC := Lib.hid (refcopy_any kd N C wl vl cl wa va ca wn vn cn wc vc cc _ (h1.keep bA) (h2.keep bA) (h3.keep bA))
  have HB := Lib.hid bA
  have l1 : wl.length ≤ 1000 := by have := h1.1; omega
  have l2 : vl.length ≤ 1000 := by have := h2.1; omega
  have l3 : cl.length ≤ 1000 := by have := h3.1; omega
  have HV := Lib.hid (fun W => vals_walk W)
  have HI := Lib.hid (fun W (hb : Below w.heap.size w W) => hI.keep hb)
  have HL := Lib.hid (cost_le kd N C wl vl cl x)
  have HBd := Lib.hid (cost_bd kd N C wl vl cl x)
  have HTb := Lib.hid (total_bd kd N C wl vl cl)
  have HSp := Lib.hid (val_split kd N C wl vl cl x)
  have HTo := Lib.hid (fun W (a b c : Option Addr) (k1 k2 k3 : Nat) (h : Prob W wl vl cl a b c) => total_any kd N C wl vl cl a b c k1 k2 k3 W h)
  have HCo := Lib.hid (fun W (a b c : Option Addr) (k1 k2 k3 : Nat) (h : Prob W wl vl cl a b c) (hI : Ints W xa x) => cost_any kd N C wl vl cl x a b c xa k1 k2 k3 xc W h hI (by omega))
  have HVa := Lib.hid (fun W (a b c : Option Addr) (k1 k2 k3 : Nat) (h : Prob W wl vl cl a b c) (hI : Ints W xa x) => value_any kd N C wl vl cl x a b c xa k1 k2 k3 xc W h hI (by omega))
  clear h1 h2 h3 bA hI
  obtain ⟨n, hn⟩ : ∃ n, n = x.length := ⟨_, rfl⟩
  have hs' := hs n hn
  rw [← hn] at HCo HVa
  clear hs hl hn
  generalize (costR kd N C wl vl cl x) = cr at *
  obtain ⟨co, ce⟩ := cr
  generalize (valueR kd N C wl vl cl x) = vr at *
  obtain ⟨vo, ve⟩ := vr
  generalize totalR kd N C wl vl cl = tot at *
  simp only at HCo HVa HSp HBd HL
  rcases HSp.out with ⟨e1, e2, e3⟩ | ⟨e1, e2, e3⟩ | ⟨e1, e2, e3⟩
  · simp only [Prod.mk.injEq] at e3
    obtain ⟨rfl, rfl⟩ := e3
    have e1' : (ve == 0) = false := by simpa using e1
    subst e2
    clear HSp HL HBd HTb e1
    rcases hs' with ⟨rfl, rfl, rfl, rfl⟩ | ⟨ad, rfl, q1, q2, ⟨q3, rfl⟩ | ⟨q3, rfl⟩⟩
    · go_enter Try.func5, Try.ntmps5
      go_wp2_with fail
      refine HC.out.mono ?_; rintro e w1 ⟨g1, k1, g2, k2, ca', cc', rfl, hb, i1, i2, rw⟩
      have q0 : w1.heap[w.heap.size]? = some (.cells #[.int .i64 kd, .int .i64 N, .int .i64 C, .slice wa wn wc, .slice va vn vc, .slice ca cn cc] 25 (0, 0)) := (hb.block _ (by simp)).trans (heap_alloc_new w _)
      have P := put_copy (K := kd) (N := N) (C := C) (k1 := k1) (k2 := k2) (cc := cc') (Nat.le_refl _) q0 (bl_tr HB.out hb) i1 i2 rw l1 l2 l3 _ rfl
      have HP := Lib.hid P
      obtain ⟨c0, c1, c2, c3, c4, c5⟩ := box6 q0
      have cf := fr6 q0
      have hs := lt_hp q0
      clear hb i1 i2 rw q0 HC HB P
      go_wp2_with fail
      clear c0 c1 c2 c3 c4 c5 cf
      generalize ((((((w1.setCell ⟨w.heap.size, 0, none⟩ (.int .i64 kd)).setCell ⟨w.heap.size, 1, none⟩ (.int .i64 N)).setCell ⟨w.heap.size, 2, none⟩ (.int .i64 C)).setCell ⟨w.heap.size, 3, none⟩ (.slice (some ⟨g1, 0, none⟩) wl.length k1)).setCell ⟨w.heap.size, 4, none⟩ (.slice (some ⟨g2, 0, none⟩) vl.length k2)).setCell ⟨w.heap.size, 5, none⟩ (.slice ca' cl.length cc')) = X at *
      refine (HCo.out X _ _ _ _ _ _ HP.out.2.1 (HI.out X HP.out.2.2)).mono ?_; rintro e w2 ⟨rfl, hb2⟩
      have B2 := Lib.hid hb2
      obtain ⟨c0, c1, c2, c3, c4, c5⟩ := box6_keep hb2 HP.out.1
      clear hb2
      go_wp2_with fail
      refine (HVa.out w2 _ _ _ _ _ _ (HP.out.2.1.keep B2.out) (HI.out w2 (HP.out.2.2.trans (B2.out.mono HP.out.2.2.size)))).mono ?_; rintro e w3 ⟨rfl, hb3⟩
      have B3 := Lib.hid (bl_tr B2.out hb3)
      clear c0 c1 c2 c3 c4 c5 hb3
      obtain ⟨c0, c1, c2, c3, c4, c5⟩ := box6_keep B3.out HP.out.1
      go_wp2_with fail
      refine (HV.out w3).mono ?_; rintro e w4 ⟨rfl, hb4⟩
      have B4 := Lib.hid (bl_tr B3.out hb4)
      clear c0 c1 c2 c3 c4 c5 hb4
      obtain ⟨c0, c1, c2, c3, c4, c5⟩ := box6_keep B4.out HP.out.1
      go_wp2
      go_ret
      exact ⟨rfl, HP.out.2.2.trans (B4.out.mono HP.out.2.2.size)⟩

    · have hm : min (n : Int) 70 = n := by omega
      go_enter Try.func5, Try.ntmps5
      go_wp2_with fail
      refine HC.out.mono ?_; rintro e w1 ⟨g1, k1, g2, k2, ca', cc', rfl, hb, i1, i2, rw⟩
      have q0 : w1.heap[w.heap.size]? = some (.cells #[.int .i64 kd, .int .i64 N, .int .i64 C, .slice wa wn wc, .slice va vn vc, .slice ca cn cc] 25 (0, 0)) := (hb.block _ (by simp)).trans (heap_alloc_new w _)
      have P := put_copy (K := kd) (N := N) (C := C) (k1 := k1) (k2 := k2) (cc := cc') (Nat.le_refl _) q0 (bl_tr HB.out hb) i1 i2 rw l1 l2 l3 _ rfl
      have HP := Lib.hid P
      obtain ⟨c0, c1, c2, c3, c4, c5⟩ := box6 q0
      have cf := fr6 q0
      have hs := lt_hp q0
      clear hb i1 i2 rw q0 HC HB P
      go_wp2_with fail
      clear c0 c1 c2 c3 c4 c5 cf
      generalize ((((((w1.setCell ⟨w.heap.size, 0, none⟩ (.int .i64 kd)).setCell ⟨w.heap.size, 1, none⟩ (.int .i64 N)).setCell ⟨w.heap.size, 2, none⟩ (.int .i64 C)).setCell ⟨w.heap.size, 3, none⟩ (.slice (some ⟨g1, 0, none⟩) wl.length k1)).setCell ⟨w.heap.size, 4, none⟩ (.slice (some ⟨g2, 0, none⟩) vl.length k2)).setCell ⟨w.heap.size, 5, none⟩ (.slice ca' cl.length cc')) = X at *
      refine (HCo.out X _ _ _ _ _ _ HP.out.2.1 (HI.out X HP.out.2.2)).mono ?_; rintro e w2 ⟨rfl, hb2⟩
      have B2 := Lib.hid hb2
      obtain ⟨c0, c1, c2, c3, c4, c5⟩ := box6_keep hb2 HP.out.1
      clear hb2
      go_wp2_with fail
      refine (HVa.out w2 _ _ _ _ _ _ (HP.out.2.1.keep B2.out) (HI.out w2 (HP.out.2.2.trans (B2.out.mono HP.out.2.2.size)))).mono ?_; rintro e w3 ⟨rfl, hb3⟩
      have B3 := Lib.hid (bl_tr B2.out hb3)
      clear c0 c1 c2 c3 c4 c5 hb3
      obtain ⟨c0, c1, c2, c3, c4, c5⟩ := box6_keep B3.out HP.out.1
      go_wp2_with fail
      refine (HV.out w3).mono ?_; rintro e w4 ⟨rfl, hb4⟩
      have B4 := Lib.hid (bl_tr B3.out hb4)
      clear c0 c1 c2 c3 c4 c5 hb4
      obtain ⟨c0, c1, c2, c3, c4, c5⟩ := box6_keep B4.out HP.out.1
      go_wp2
      go_ret
      exact ⟨rfl, HP.out.2.2.trans (B4.out.mono HP.out.2.2.size)⟩

    · have hm : min (xn : Int) 70 = 70 := by omega
      go_enter Try.func5, Try.ntmps5
      go_wp2_with fail
      refine HC.out.mono ?_; rintro e w1 ⟨g1, k1, g2, k2, ca', cc', rfl, hb, i1, i2, rw⟩
      have q0 : w1.heap[w.heap.size]? = some (.cells #[.int .i64 kd, .int .i64 N, .int .i64 C, .slice wa wn wc, .slice va vn vc, .slice ca cn cc] 25 (0, 0)) := (hb.block _ (by simp)).trans (heap_alloc_new w _)
      have P := put_copy (K := kd) (N := N) (C := C) (k1 := k1) (k2 := k2) (cc := cc') (Nat.le_refl _) q0 (bl_tr HB.out hb) i1 i2 rw l1 l2 l3 _ rfl
      have HP := Lib.hid P
      obtain ⟨c0, c1, c2, c3, c4, c5⟩ := box6 q0
      have cf := fr6 q0
      have hs := lt_hp q0
      clear hb i1 i2 rw q0 HC HB P
      go_wp2_with fail
      clear c0 c1 c2 c3 c4 c5 cf
      generalize ((((((w1.setCell ⟨w.heap.size, 0, none⟩ (.int .i64 kd)).setCell ⟨w.heap.size, 1, none⟩ (.int .i64 N)).setCell ⟨w.heap.size, 2, none⟩ (.int .i64 C)).setCell ⟨w.heap.size, 3, none⟩ (.slice (some ⟨g1, 0, none⟩) wl.length k1)).setCell ⟨w.heap.size, 4, none⟩ (.slice (some ⟨g2, 0, none⟩) vl.length k2)).setCell ⟨w.heap.size, 5, none⟩ (.slice ca' cl.length cc')) = X at *
      refine (HCo.out X _ _ _ _ _ _ HP.out.2.1 (HI.out X HP.out.2.2)).mono ?_; rintro e w2 ⟨rfl, hb2⟩
      have B2 := Lib.hid hb2
      obtain ⟨c0, c1, c2, c3, c4, c5⟩ := box6_keep hb2 HP.out.1
      clear hb2
      go_wp2_with fail
      refine (HVa.out w2 _ _ _ _ _ _ (HP.out.2.1.keep B2.out) (HI.out w2 (HP.out.2.2.trans (B2.out.mono HP.out.2.2.size)))).mono ?_; rintro e w3 ⟨rfl, hb3⟩
      have B3 := Lib.hid (bl_tr B2.out hb3)
      clear c0 c1 c2 c3 c4 c5 hb3
      obtain ⟨c0, c1, c2, c3, c4, c5⟩ := box6_keep B3.out HP.out.1
      go_wp2_with fail
      refine (HV.out w3).mono ?_; rintro e w4 ⟨rfl, hb4⟩
      have B4 := Lib.hid (bl_tr B3.out hb4)
      clear c0 c1 c2 c3 c4 c5 hb4
      obtain ⟨c0, c1, c2, c3, c4, c5⟩ := box6_keep B4.out HP.out.1
      go_wp2
      go_ret
      exact ⟨rfl, HP.out.2.2.trans (B4.out.mono HP.out.2.2.size)⟩

  · simp only [Prod.mk.injEq] at e3
    obtain ⟨rfl, rfl⟩ := e3
    subst e1 e2
    obtain ⟨d1, d2⟩ := HBd.out
    obtain ⟨d3, d4⟩ := HTb.out
    have d5 := HL.out rfl
    have d6 : -137438953408 ≤ tot - co := by omega
    have d7 : tot - co ≤ 274877906816 := by omega
    have d8 : tot - co + co = tot := by omega
    clear HSp HL HBd HTb
    rcases hs' with ⟨rfl, rfl, rfl, rfl⟩ | ⟨ad, rfl, q1, q2, ⟨q3, rfl⟩ | ⟨q3, rfl⟩⟩
    · go_enter Try.func5, Try.ntmps5
      go_wp2_with fail
      refine HC.out.mono ?_; rintro e w1 ⟨g1, k1, g2, k2, ca', cc', rfl, hb, i1, i2, rw⟩
      have q0 : w1.heap[w.heap.size]? = some (.cells #[.int .i64 1, .int .i64 N, .int .i64 C, .slice wa wn wc, .slice va vn vc, .slice ca cn cc] 25 (0, 0)) := (hb.block _ (by simp)).trans (heap_alloc_new w _)
      have P := put_copy (K := 1) (N := N) (C := C) (k1 := k1) (k2 := k2) (cc := cc') (Nat.le_refl _) q0 (bl_tr HB.out hb) i1 i2 rw l1 l2 l3 _ rfl
      have HP := Lib.hid P
      obtain ⟨c0, c1, c2, c3, c4, c5⟩ := box6 q0
      have cf := fr6 q0
      have hs := lt_hp q0
      clear hb i1 i2 rw q0 HC HB P
      go_wp2_with fail
      clear c0 c1 c2 c3 c4 c5 cf
      generalize ((((((w1.setCell ⟨w.heap.size, 0, none⟩ (.int .i64 1)).setCell ⟨w.heap.size, 1, none⟩ (.int .i64 N)).setCell ⟨w.heap.size, 2, none⟩ (.int .i64 C)).setCell ⟨w.heap.size, 3, none⟩ (.slice (some ⟨g1, 0, none⟩) wl.length k1)).setCell ⟨w.heap.size, 4, none⟩ (.slice (some ⟨g2, 0, none⟩) vl.length k2)).setCell ⟨w.heap.size, 5, none⟩ (.slice ca' cl.length cc')) = X at *
      refine (HCo.out X _ _ _ _ _ _ HP.out.2.1 (HI.out X HP.out.2.2)).mono ?_; rintro e w2 ⟨rfl, hb2⟩
      have B2 := Lib.hid hb2
      obtain ⟨c0, c1, c2, c3, c4, c5⟩ := box6_keep hb2 HP.out.1
      clear hb2
      go_wp2_with fail
      refine (HVa.out w2 _ _ _ _ _ _ (HP.out.2.1.keep B2.out) (HI.out w2 (HP.out.2.2.trans (B2.out.mono HP.out.2.2.size)))).mono ?_; rintro e w3 ⟨rfl, hb3⟩
      have B3 := Lib.hid (bl_tr B2.out hb3)
      clear c0 c1 c2 c3 c4 c5 hb3
      obtain ⟨c0, c1, c2, c3, c4, c5⟩ := box6_keep B3.out HP.out.1
      go_wp2_with fail
      refine (HV.out w3).mono ?_; rintro e w4 ⟨rfl, hb4⟩
      have B4 := Lib.hid (bl_tr B3.out hb4)
      clear c0 c1 c2 c3 c4 c5 hb4
      obtain ⟨c0, c1, c2, c3, c4, c5⟩ := box6_keep B4.out HP.out.1
      go_wp2_with fail
      refine (HTo.out w4 _ _ _ _ _ _ (HP.out.2.1.keep B4.out)).mono ?_; rintro e w5 ⟨rfl, hb5⟩
      have B5 := Lib.hid (bl_tr B4.out hb5)
      clear c0 c1 c2 c3 c4 c5 hb5
      obtain ⟨c0, c1, c2, c3, c4, c5⟩ := box6_keep B5.out HP.out.1
      go_wp2_with fail
      refine (HTo.out w5 _ _ _ _ _ _ (HP.out.2.1.keep B5.out)).mono ?_; rintro e w6 ⟨rfl, hb6⟩
      have B6 := Lib.hid (bl_tr B5.out hb6)
      clear hb6
      go_wp2
      go_ret
      exact ⟨by simp, HP.out.2.2.trans (B6.out.mono HP.out.2.2.size)⟩

    · have hm : min (n : Int) 70 = n := by omega
      go_enter Try.func5, Try.ntmps5
      go_wp2_with fail
      refine HC.out.mono ?_; rintro e w1 ⟨g1, k1, g2, k2, ca', cc', rfl, hb, i1, i2, rw⟩
      have q0 : w1.heap[w.heap.size]? = some (.cells #[.int .i64 1, .int .i64 N, .int .i64 C, .slice wa wn wc, .slice va vn vc, .slice ca cn cc] 25 (0, 0)) := (hb.block _ (by simp)).trans (heap_alloc_new w _)
      have P := put_copy (K := 1) (N := N) (C := C) (k1 := k1) (k2 := k2) (cc := cc') (Nat.le_refl _) q0 (bl_tr HB.out hb) i1 i2 rw l1 l2 l3 _ rfl
      have HP := Lib.hid P
      obtain ⟨c0, c1, c2, c3, c4, c5⟩ := box6 q0
      have cf := fr6 q0
      have hs := lt_hp q0
      clear hb i1 i2 rw q0 HC HB P
      go_wp2_with fail
      clear c0 c1 c2 c3 c4 c5 cf
      generalize ((((((w1.setCell ⟨w.heap.size, 0, none⟩ (.int .i64 1)).setCell ⟨w.heap.size, 1, none⟩ (.int .i64 N)).setCell ⟨w.heap.size, 2, none⟩ (.int .i64 C)).setCell ⟨w.heap.size, 3, none⟩ (.slice (some ⟨g1, 0, none⟩) wl.length k1)).setCell ⟨w.heap.size, 4, none⟩ (.slice (some ⟨g2, 0, none⟩) vl.length k2)).setCell ⟨w.heap.size, 5, none⟩ (.slice ca' cl.length cc')) = X at *
      refine (HCo.out X _ _ _ _ _ _ HP.out.2.1 (HI.out X HP.out.2.2)).mono ?_; rintro e w2 ⟨rfl, hb2⟩
      have B2 := Lib.hid hb2
      obtain ⟨c0, c1, c2, c3, c4, c5⟩ := box6_keep hb2 HP.out.1
      clear hb2
      go_wp2_with fail
      refine (HVa.out w2 _ _ _ _ _ _ (HP.out.2.1.keep B2.out) (HI.out w2 (HP.out.2.2.trans (B2.out.mono HP.out.2.2.size)))).mono ?_; rintro e w3 ⟨rfl, hb3⟩
      have B3 := Lib.hid (bl_tr B2.out hb3)
      clear c0 c1 c2 c3 c4 c5 hb3
      obtain ⟨c0, c1, c2, c3, c4, c5⟩ := box6_keep B3.out HP.out.1
      go_wp2_with fail
      refine (HV.out w3).mono ?_; rintro e w4 ⟨rfl, hb4⟩
      have B4 := Lib.hid (bl_tr B3.out hb4)
      clear c0 c1 c2 c3 c4 c5 hb4
      obtain ⟨c0, c1, c2, c3, c4, c5⟩ := box6_keep B4.out HP.out.1
      go_wp2_with fail
      refine (HTo.out w4 _ _ _ _ _ _ (HP.out.2.1.keep B4.out)).mono ?_; rintro e w5 ⟨rfl, hb5⟩
      have B5 := Lib.hid (bl_tr B4.out hb5)
      clear c0 c1 c2 c3 c4 c5 hb5
      obtain ⟨c0, c1, c2, c3, c4, c5⟩ := box6_keep B5.out HP.out.1
      go_wp2_with fail
      refine (HTo.out w5 _ _ _ _ _ _ (HP.out.2.1.keep B5.out)).mono ?_; rintro e w6 ⟨rfl, hb6⟩
      have B6 := Lib.hid (bl_tr B5.out hb6)
      clear hb6
      go_wp2
      go_ret
      exact ⟨by simp, HP.out.2.2.trans (B6.out.mono HP.out.2.2.size)⟩

    · have hm : min (xn : Int) 70 = 70 := by omega
      go_enter Try.func5, Try.ntmps5
      go_wp2_with fail
      refine HC.out.mono ?_; rintro e w1 ⟨g1, k1, g2, k2, ca', cc', rfl, hb, i1, i2, rw⟩
      have q0 : w1.heap[w.heap.size]? = some (.cells #[.int .i64 1, .int .i64 N, .int .i64 C, .slice wa wn wc, .slice va vn vc, .slice ca cn cc] 25 (0, 0)) := (hb.block _ (by simp)).trans (heap_alloc_new w _)
      have P := put_copy (K := 1) (N := N) (C := C) (k1 := k1) (k2 := k2) (cc := cc') (Nat.le_refl _) q0 (bl_tr HB.out hb) i1 i2 rw l1 l2 l3 _ rfl
      have HP := Lib.hid P
      obtain ⟨c0, c1, c2, c3, c4, c5⟩ := box6 q0
      have cf := fr6 q0
      have hs := lt_hp q0
      clear hb i1 i2 rw q0 HC HB P
      go_wp2_with fail
      clear c0 c1 c2 c3 c4 c5 cf
      generalize ((((((w1.setCell ⟨w.heap.size, 0, none⟩ (.int .i64 1)).setCell ⟨w.heap.size, 1, none⟩ (.int .i64 N)).setCell ⟨w.heap.size, 2, none⟩ (.int .i64 C)).setCell ⟨w.heap.size, 3, none⟩ (.slice (some ⟨g1, 0, none⟩) wl.length k1)).setCell ⟨w.heap.size, 4, none⟩ (.slice (some ⟨g2, 0, none⟩) vl.length k2)).setCell ⟨w.heap.size, 5, none⟩ (.slice ca' cl.length cc')) = X at *
      refine (HCo.out X _ _ _ _ _ _ HP.out.2.1 (HI.out X HP.out.2.2)).mono ?_; rintro e w2 ⟨rfl, hb2⟩
      have B2 := Lib.hid hb2
      obtain ⟨c0, c1, c2, c3, c4, c5⟩ := box6_keep hb2 HP.out.1
      clear hb2
      go_wp2_with fail
      refine (HVa.out w2 _ _ _ _ _ _ (HP.out.2.1.keep B2.out) (HI.out w2 (HP.out.2.2.trans (B2.out.mono HP.out.2.2.size)))).mono ?_; rintro e w3 ⟨rfl, hb3⟩
      have B3 := Lib.hid (bl_tr B2.out hb3)
      clear c0 c1 c2 c3 c4 c5 hb3
      obtain ⟨c0, c1, c2, c3, c4, c5⟩ := box6_keep B3.out HP.out.1
      go_wp2_with fail
      refine (HV.out w3).mono ?_; rintro e w4 ⟨rfl, hb4⟩
      have B4 := Lib.hid (bl_tr B3.out hb4)
      clear c0 c1 c2 c3 c4 c5 hb4
      obtain ⟨c0, c1, c2, c3, c4, c5⟩ := box6_keep B4.out HP.out.1
      go_wp2_with fail
      refine (HTo.out w4 _ _ _ _ _ _ (HP.out.2.1.keep B4.out)).mono ?_; rintro e w5 ⟨rfl, hb5⟩
      have B5 := Lib.hid (bl_tr B4.out hb5)
      clear c0 c1 c2 c3 c4 c5 hb5
      obtain ⟨c0, c1, c2, c3, c4, c5⟩ := box6_keep B5.out HP.out.1
      go_wp2_with fail
      refine (HTo.out w5 _ _ _ _ _ _ (HP.out.2.1.keep B5.out)).mono ?_; rintro e w6 ⟨rfl, hb6⟩
      have B6 := Lib.hid (bl_tr B5.out hb6)
      clear hb6
      go_wp2
      go_ret
      exact ⟨by simp, HP.out.2.2.trans (B6.out.mono HP.out.2.2.size)⟩

  · simp only [Prod.mk.injEq] at e3
    obtain ⟨rfl, rfl⟩ := e3
    subst e1
    have e2' : (kd == 1) = false := by simpa using e2
    have e2'' : (kd != 1) = true := by simpa using e2
    obtain ⟨d1, d2⟩ := HBd.out
    obtain ⟨d3, d4⟩ := HTb.out
    have d5 := HL.out rfl
    clear HSp HL HBd HTb e2
    rcases hs' with ⟨rfl, rfl, rfl, rfl⟩ | ⟨ad, rfl, q1, q2, ⟨q3, rfl⟩ | ⟨q3, rfl⟩⟩
    · go_enter Try.func5, Try.ntmps5
      go_wp2_with fail
      refine HC.out.mono ?_; rintro e w1 ⟨g1, k1, g2, k2, ca', cc', rfl, hb, i1, i2, rw⟩
      have q0 : w1.heap[w.heap.size]? = some (.cells #[.int .i64 kd, .int .i64 N, .int .i64 C, .slice wa wn wc, .slice va vn vc, .slice ca cn cc] 25 (0, 0)) := (hb.block _ (by simp)).trans (heap_alloc_new w _)
      have P := put_copy (K := kd) (N := N) (C := C) (k1 := k1) (k2 := k2) (cc := cc') (Nat.le_refl _) q0 (bl_tr HB.out hb) i1 i2 rw l1 l2 l3 _ rfl
      have HP := Lib.hid P
      obtain ⟨c0, c1, c2, c3, c4, c5⟩ := box6 q0
      have cf := fr6 q0
      have hs := lt_hp q0
      clear hb i1 i2 rw q0 HC HB P
      go_wp2_with fail
      clear c0 c1 c2 c3 c4 c5 cf
      generalize ((((((w1.setCell ⟨w.heap.size, 0, none⟩ (.int .i64 kd)).setCell ⟨w.heap.size, 1, none⟩ (.int .i64 N)).setCell ⟨w.heap.size, 2, none⟩ (.int .i64 C)).setCell ⟨w.heap.size, 3, none⟩ (.slice (some ⟨g1, 0, none⟩) wl.length k1)).setCell ⟨w.heap.size, 4, none⟩ (.slice (some ⟨g2, 0, none⟩) vl.length k2)).setCell ⟨w.heap.size, 5, none⟩ (.slice ca' cl.length cc')) = X at *
      refine (HCo.out X _ _ _ _ _ _ HP.out.2.1 (HI.out X HP.out.2.2)).mono ?_; rintro e w2 ⟨rfl, hb2⟩
      have B2 := Lib.hid hb2
      obtain ⟨c0, c1, c2, c3, c4, c5⟩ := box6_keep hb2 HP.out.1
      clear hb2
      go_wp2_with fail
      refine (HVa.out w2 _ _ _ _ _ _ (HP.out.2.1.keep B2.out) (HI.out w2 (HP.out.2.2.trans (B2.out.mono HP.out.2.2.size)))).mono ?_; rintro e w3 ⟨rfl, hb3⟩
      have B3 := Lib.hid (bl_tr B2.out hb3)
      clear c0 c1 c2 c3 c4 c5 hb3
      obtain ⟨c0, c1, c2, c3, c4, c5⟩ := box6_keep B3.out HP.out.1
      go_wp2_with fail
      refine (HV.out w3).mono ?_; rintro e w4 ⟨rfl, hb4⟩
      have B4 := Lib.hid (bl_tr B3.out hb4)
      clear c0 c1 c2 c3 c4 c5 hb4
      obtain ⟨c0, c1, c2, c3, c4, c5⟩ := box6_keep B4.out HP.out.1
      go_wp2_with fail
      refine (HTo.out w4 _ _ _ _ _ _ (HP.out.2.1.keep B4.out)).mono ?_; rintro e w5 ⟨rfl, hb5⟩
      have B5 := Lib.hid (bl_tr B4.out hb5)
      clear c0 c1 c2 c3 c4 c5 hb5
      obtain ⟨c0, c1, c2, c3, c4, c5⟩ := box6_keep B5.out HP.out.1
      go_wp2
      go_ret
      exact ⟨rfl, HP.out.2.2.trans (B5.out.mono HP.out.2.2.size)⟩

    · have hm : min (n : Int) 70 = n := by omega
      go_enter Try.func5, Try.ntmps5
      go_wp2_with fail
      refine HC.out.mono ?_; rintro e w1 ⟨g1, k1, g2, k2, ca', cc', rfl, hb, i1, i2, rw⟩
      have q0 : w1.heap[w.heap.size]? = some (.cells #[.int .i64 kd, .int .i64 N, .int .i64 C, .slice wa wn wc, .slice va vn vc, .slice ca cn cc] 25 (0, 0)) := (hb.block _ (by simp)).trans (heap_alloc_new w _)
      have P := put_copy (K := kd) (N := N) (C := C) (k1 := k1) (k2 := k2) (cc := cc') (Nat.le_refl _) q0 (bl_tr HB.out hb) i1 i2 rw l1 l2 l3 _ rfl
      have HP := Lib.hid P
      obtain ⟨c0, c1, c2, c3, c4, c5⟩ := box6 q0
      have cf := fr6 q0
      have hs := lt_hp q0
      clear hb i1 i2 rw q0 HC HB P
      go_wp2_with fail
      clear c0 c1 c2 c3 c4 c5 cf
      generalize ((((((w1.setCell ⟨w.heap.size, 0, none⟩ (.int .i64 kd)).setCell ⟨w.heap.size, 1, none⟩ (.int .i64 N)).setCell ⟨w.heap.size, 2, none⟩ (.int .i64 C)).setCell ⟨w.heap.size, 3, none⟩ (.slice (some ⟨g1, 0, none⟩) wl.length k1)).setCell ⟨w.heap.size, 4, none⟩ (.slice (some ⟨g2, 0, none⟩) vl.length k2)).setCell ⟨w.heap.size, 5, none⟩ (.slice ca' cl.length cc')) = X at *
      refine (HCo.out X _ _ _ _ _ _ HP.out.2.1 (HI.out X HP.out.2.2)).mono ?_; rintro e w2 ⟨rfl, hb2⟩
      have B2 := Lib.hid hb2
      obtain ⟨c0, c1, c2, c3, c4, c5⟩ := box6_keep hb2 HP.out.1
      clear hb2
      go_wp2_with fail
      refine (HVa.out w2 _ _ _ _ _ _ (HP.out.2.1.keep B2.out) (HI.out w2 (HP.out.2.2.trans (B2.out.mono HP.out.2.2.size)))).mono ?_; rintro e w3 ⟨rfl, hb3⟩
      have B3 := Lib.hid (bl_tr B2.out hb3)
      clear c0 c1 c2 c3 c4 c5 hb3
      obtain ⟨c0, c1, c2, c3, c4, c5⟩ := box6_keep B3.out HP.out.1
      go_wp2_with fail
      refine (HV.out w3).mono ?_; rintro e w4 ⟨rfl, hb4⟩
      have B4 := Lib.hid (bl_tr B3.out hb4)
      clear c0 c1 c2 c3 c4 c5 hb4
      obtain ⟨c0, c1, c2, c3, c4, c5⟩ := box6_keep B4.out HP.out.1
      go_wp2_with fail
      refine (HTo.out w4 _ _ _ _ _ _ (HP.out.2.1.keep B4.out)).mono ?_; rintro e w5 ⟨rfl, hb5⟩
      have B5 := Lib.hid (bl_tr B4.out hb5)
      clear c0 c1 c2 c3 c4 c5 hb5
      obtain ⟨c0, c1, c2, c3, c4, c5⟩ := box6_keep B5.out HP.out.1
      go_wp2
      go_ret
      exact ⟨rfl, HP.out.2.2.trans (B5.out.mono HP.out.2.2.size)⟩

    · have hm : min (xn : Int) 70 = 70 := by omega
      go_enter Try.func5, Try.ntmps5
      go_wp2_with fail
      refine HC.out.mono ?_; rintro e w1 ⟨g1, k1, g2, k2, ca', cc', rfl, hb, i1, i2, rw⟩
      have q0 : w1.heap[w.heap.size]? = some (.cells #[.int .i64 kd, .int .i64 N, .int .i64 C, .slice wa wn wc, .slice va vn vc, .slice ca cn cc] 25 (0, 0)) := (hb.block _ (by simp)).trans (heap_alloc_new w _)
      have P := put_copy (K := kd) (N := N) (C := C) (k1 := k1) (k2 := k2) (cc := cc') (Nat.le_refl _) q0 (bl_tr HB.out hb) i1 i2 rw l1 l2 l3 _ rfl
      have HP := Lib.hid P
      obtain ⟨c0, c1, c2, c3, c4, c5⟩ := box6 q0
      have cf := fr6 q0
      have hs := lt_hp q0
      clear hb i1 i2 rw q0 HC HB P
      go_wp2_with fail
      clear c0 c1 c2 c3 c4 c5 cf
      generalize ((((((w1.setCell ⟨w.heap.size, 0, none⟩ (.int .i64 kd)).setCell ⟨w.heap.size, 1, none⟩ (.int .i64 N)).setCell ⟨w.heap.size, 2, none⟩ (.int .i64 C)).setCell ⟨w.heap.size, 3, none⟩ (.slice (some ⟨g1, 0, none⟩) wl.length k1)).setCell ⟨w.heap.size, 4, none⟩ (.slice (some ⟨g2, 0, none⟩) vl.length k2)).setCell ⟨w.heap.size, 5, none⟩ (.slice ca' cl.length cc')) = X at *
      refine (HCo.out X _ _ _ _ _ _ HP.out.2.1 (HI.out X HP.out.2.2)).mono ?_; rintro e w2 ⟨rfl, hb2⟩
      have B2 := Lib.hid hb2
      obtain ⟨c0, c1, c2, c3, c4, c5⟩ := box6_keep hb2 HP.out.1
      clear hb2
      go_wp2_with fail
      refine (HVa.out w2 _ _ _ _ _ _ (HP.out.2.1.keep B2.out) (HI.out w2 (HP.out.2.2.trans (B2.out.mono HP.out.2.2.size)))).mono ?_; rintro e w3 ⟨rfl, hb3⟩
      have B3 := Lib.hid (bl_tr B2.out hb3)
      clear c0 c1 c2 c3 c4 c5 hb3
      obtain ⟨c0, c1, c2, c3, c4, c5⟩ := box6_keep B3.out HP.out.1
      go_wp2_with fail
      refine (HV.out w3).mono ?_; rintro e w4 ⟨rfl, hb4⟩
      have B4 := Lib.hid (bl_tr B3.out hb4)
      clear c0 c1 c2 c3 c4 c5 hb4
      obtain ⟨c0, c1, c2, c3, c4, c5⟩ := box6_keep B4.out HP.out.1
      go_wp2_with fail
      refine (HTo.out w4 _ _ _ _ _ _ (HP.out.2.1.keep B4.out)).mono ?_; rintro e w5 ⟨rfl, hb5⟩
      have B5 := Lib.hid (bl_tr B4.out hb5)
      clear c0 c1 c2 c3 c4 c5 hb5
      obtain ⟨c0, c1, c2, c3, c4, c5⟩ := box6_keep B5.out HP.out.1
      go_wp2
      go_ret
      exact ⟨rfl, HP.out.2.2.trans (B5.out.mono HP.out.2.2.size)⟩

theorem valueBounds_walk (kd N C : Int) (wl vl : List Int) (cl : List (List Int)) (wa va ca : Option Addr) (wn vn cn wc vc cc : Nat) (x : List Int) (xa : Option Addr) (xn xc : Nat) (w : World) (h1 : Src w wa wn wc wl) (h2 : Src w va vn vc vl) (h3 : RSrc w ca cn cc cl) (h4 : Src w xa xn xc x) :
    Calls Try.prog 5 #[.agg #[.int .i64 kd, .int .i64 N, .int .i64 C, .slice wa wn wc, .slice va vn vc, .slice ca cn cc], .slice xa xn xc] w fun e w' => e = .returned (.bool true) ∧ Below w.heap.size w w' :=
  bounds_core kd N C wl vl cl wa va ca wn vn cn wc vc cc x xa xn xc w h1 h2 h3 (fun n' hn => by
    obtain ⟨s1, s2, s3, s4⟩ := h4
    rcases xa with _ | ad
    · rcases s4 with ⟨rfl, s4⟩ | ⟨b, o, e, _⟩
      · exact Or.inl ⟨rfl, rfl, s4 rfl, by omega⟩
      · cases e
    · clear s4; exact Or.inr ⟨ad, rfl, s2, s3, by omega⟩) (src_ints h4) (by have := h4.1; omega)
end Go.Proofs.Ytfpffggeehmedaa

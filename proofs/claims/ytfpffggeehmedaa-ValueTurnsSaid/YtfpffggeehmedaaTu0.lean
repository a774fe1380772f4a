/-
  kurganlaw08.ValueTurns where nothing is turned, walked.
-/
import Derived.Test.YtfpffggeehmedaaTuL
namespace Go.Proofs.Ytfpffggeehmedaa
open Go.RowKit
open kc (IO RwsC)
set_option linter.unusedVariables false
set_option maxRecDepth 100000 in
set_option maxHeartbeats 16000000 in
theorem turn_none (kd N C : Int) (wl vl : List Int) (cl : List (List Int)) (wa va ca : Option Addr) (wn vn cn wc vc cc : Nat) (x : List Int) (xa : Option Addr) (xn xc : Nat) (w : World) (h1 : Src w wa wn wc wl) (h2 : Src w va vn vc vl) (h3 : RSrc w ca cn cc cl) (h4 : Src w xa xn xc x) (hne : (costR kd N C wl vl cl x).2 ≠ 0 ∨ ((costR kd N C wl vl cl x).2 = 0 ∧ kd = 1)) :
    Calls Try.prog 6 #[.agg #[.int .i64 kd, .int .i64 N, .int .i64 C, .slice wa wn wc, .slice va vn vc, .slice ca cn cc], .slice xa xn xc] w fun e w' => e = .returned (.bool true) ∧ Below w.heap.size w w' := by
  obtain ⟨i0, hi, hz0, hz1, hz2⟩ := info_parts info3
  have bA : Below w.heap.size w (w.alloc (.cells #[.int .i64 kd, .int .i64 N, .int .i64 C, .slice wa wn wc, .slice va vn vc, .slice ca cn cc] 25)) := bl_al (Below.refl _ _) _
  have HC := Lib.hid (kc.refcopy_any kd N C wl vl cl wa va ca wn vn cn wc vc cc _ (h1.keep bA) (h2.keep bA) (h3.keep bA))
  have HB := Lib.hid bA
  have l1 : wl.length ≤ 70 := by have := h1.1; omega
  have l2 : vl.length ≤ 70 := by have := h2.1; omega
  have l3 := (rsrc_len h3).1
  have HL3 := Lib.hid (rsrc_len h3).2
  have hx70 : x.length ≤ 70 := by have := h4.1; omega
  have HV := Lib.hid (fun W => vals_walk W)
  have HArg := Lib.hid (fun W (hb : Below w.heap.size w W) => arg_of (h4.keep hb))
  have HCo := Lib.hid (fun W (a b c xa : Option Addr) (k1 k2 k3 xc : Nat) (h : Prob W wl vl cl a b c) (hI : Ints W xa x) => cost_any kd N C wl vl cl x a b c xa k1 k2 k3 xc W h hI (by omega))
  generalize (costR kd N C wl vl cl x) = cr at *
  obtain ⟨co, er⟩ := cr
  simp only at HCo hne
  have d1 : (er != 0) = true ∨ ((er != 0) = false ∧ (kd == 1) = true) := by
    rcases hne with h | ⟨h, h'⟩
    · exact .inl (by simpa using h)
    · exact .inr ⟨by rw [h]; rfl, by simpa using h'⟩
  clear hne
  clear h1 h2 h3 bA h4
  go_enter Try.func6, Try.ntmps6
  go_wp2_with fail
  refine HC.out.mono ?_; rintro e w1 ⟨g1, k1, g2, k2, ca', cc', rfl, hb, i1, i2, rw⟩
  have q0 : w1.heap[w.heap.size]? = some (.cells #[.int .i64 kd, .int .i64 N, .int .i64 C, .slice wa wn wc, .slice va vn vc, .slice ca cn cc] 25 (0, 0)) := (hb.block _ (by simp)).trans (heap_alloc_new w _)
  have HP := Lib.hid (store_tu (K := kd) (N := N) (C := C) (k1 := k1) (k2 := k2) (cc := cc') (Nat.le_refl _) q0 (bl_tr HB.out hb) i1 i2 rw (by omega) (by omega) (by omega) _ rfl)
  obtain ⟨c0, c1, c2, c3, c4, c5⟩ := box6 q0
  have cf := fr6 q0
  have hs := lt_hp q0
  clear hb i1 i2 rw q0 HC HB
  go_upto_region 2 with fail
  clear c0 c1 c2 c3 c4 c5 cf hs
  generalize ((((((w1.setCell ⟨w.heap.size, 0, none⟩ (.int .i64 kd)).setCell ⟨w.heap.size, 1, none⟩ (.int .i64 N)).setCell ⟨w.heap.size, 2, none⟩ (.int .i64 C)).setCell ⟨w.heap.size, 3, none⟩ (.slice (some ⟨g1, 0, none⟩) wl.length k1)).setCell ⟨w.heap.size, 4, none⟩ (.slice (some ⟨g2, 0, none⟩) vl.length k2)).setCell ⟨w.heap.size, 5, none⟩ (.slice ca' cl.length cc')) = X at HP ⊢
  have ho := own0 X
  have HA := Lib.hid (HArg.out X HP.out.2.2.1)
  clear HArg
  go_cut [1] from 18 (fun v1 wx => ∃ gx cx, v1 = .slice (some ⟨gx, 0, none⟩) x.length cx ∧ Hid (Below X.heap.size X wx) ∧ Hid (IO X.heap.size wx gx cx x))
  case first =>
    clear HCo HV
    rcases HA.out with ⟨rfl, rfl, rfl, rfl⟩ | ⟨ad, rfl, rfl, q2, rfl⟩ | ⟨b, o, rfl, q1, q2, q3, q4, ⟨q5, q6⟩ | ⟨q5, q6⟩⟩
    · have HX3 : Hid (IO X.heap.size (X.alloc (.cells #[] 3)) X.heap.size 0 []) := Lib.hid ⟨nil_own X, by simp, by simp, Nat.le_refl _⟩
      have BX := Lib.hid (bl_al (Below.refl X.heap.size X) (.cells #[] 3))
      clear ho HA HP
      simp only [List.length_nil] at *
      go_wp2
      go_meet
      exact ⟨_, _, rfl, BX, HX3⟩
    · clear HA HP
      simp only [List.length_nil] at *
      go_wp2_with (at_builtin; refine wpList_append_own _ rfl _ _ 22 rfl X.heap.size 3 i0 (.int .i64 0) 1 8 Try.underlying22 hi hz0 hz1 hz2 rfl (by decide) _ _ _ rfl ho ad 0 xc [] rfl rfl (fun j u h => by simp at h) (by simp) (by decide) (by decide) (by simp) ?_)
      intro v' w3 hown hgrow hne
      obtain ⟨g, cap, rfl⟩ := own_form hown (by simpa using hne)
      have BX := Lib.hid ((bl_al (Below.refl _ _) _).grown hgrow (by simp) (fun j hj => by simp [Value.ownBlock] at hj; omega))
      have HX3 := Lib.hid (kc.own_io (B := X.heap.size) (l := []) (Nat.le_refl _) hown)
      clear hgrow hown hne ho
      go_wp2
      go_meet
      exact ⟨_, _, rfl, BX, HX3⟩
    · have hmn : min (xn : Int) 70 = (xn : Int) := by omega
      have HNs := Lib.hid (app_src q3 q4)
      clear q4 HA HP
      go_wp2_with (at_builtin; refine wpList_append_own _ rfl _ _ 22 rfl X.heap.size 3 i0 (.int .i64 0) 1 8 Try.underlying22 hi hz0 hz1 hz2 rfl (by decide) _ _ _ rfl ho ⟨b, o, none⟩ _ xc (x.map (Value.int .i64)) rfl (by simp [q6]) HNs.out (by simp [Value.oneCell']) (by unfold maxLen; omega) (by omega) (by simp) ?_)
      intro v' w3 hown hgrow hne
      obtain ⟨g, cap, rfl⟩ := own_form hown hne
      have BX := Lib.hid ((bl_al (Below.refl _ _) _).grown hgrow (by simp) (fun j hj => by simp [Value.ownBlock] at hj; omega))
      have HX3 := Lib.hid (kc.own_io (B := X.heap.size) (l := x) (cap := cap) (g := g) (Nat.le_refl _) (by rw [q6]; simpa using hown))
      clear hgrow hown hne ho HNs
      go_wp2
      go_meet
      exact ⟨_, _, by simp [q6], BX, HX3⟩
    · have hmn : min (xn : Int) 70 = 70 := by omega
      have HNs := Lib.hid (app_src q3 q4)
      clear q4 HA HP
      go_wp2_with (at_builtin; refine wpList_append_own _ rfl _ _ 22 rfl X.heap.size 3 i0 (.int .i64 0) 1 8 Try.underlying22 hi hz0 hz1 hz2 rfl (by decide) _ _ _ rfl ho ⟨b, o, none⟩ _ xc (x.map (Value.int .i64)) rfl (by simp [q6]) HNs.out (by simp [Value.oneCell']) (by unfold maxLen; omega) (by omega) (by simp) ?_)
      intro v' w3 hown hgrow hne
      obtain ⟨g, cap, rfl⟩ := own_form hown hne
      have BX := Lib.hid ((bl_al (Below.refl _ _) _).grown hgrow (by simp) (fun j hj => by simp [Value.ownBlock] at hj; omega))
      have HX3 := Lib.hid (kc.own_io (B := X.heap.size) (l := x) (cap := cap) (g := g) (Nat.le_refl _) (by rw [q6]; simpa using hown))
      clear hgrow hown hne ho HNs
      go_wp2
      go_meet
      exact ⟨_, _, by simp [q6], BX, HX3⟩
  case rest =>
    obtain ⟨gx, cx, rfl, BX, HX⟩ := hcut
    clear HA ho
    obtain ⟨c0, c1, c2, c3, c4, c5⟩ := box6_keep BX.out HP.out.1
    go_wp2_with fail
    refine (HCo.out wc _ _ _ _ _ _ _ _ (HP.out.2.1.keep BX.out) HX.out.1.ints).mono ?_; rintro e w4 ⟨rfl, hb⟩
    have X4 := Lib.hid (HX.out.keep hb)
    have B4 := Lib.hid (bl_tr BX.out hb)
    clear c0 c1 c2 c3 c4 c5 hb BX HX
    obtain ⟨c0, c1, c2, c3, c4, c5⟩ := box6_keep B4.out HP.out.1
    go_wp2_with fail
    refine (HV.out _).mono ?_; rintro e w5 ⟨rfl, hb⟩
    have X5 := Lib.hid (X4.out.keep hb)
    have B5 := Lib.hid (bl_tr B4.out hb)
    clear c0 c1 c2 c3 c4 c5 hb B4 X4
    obtain ⟨c0, c1, c2, c3, c4, c5⟩ := box6_keep B5.out HP.out.1
    clear HCo X5
    rcases d1 with d1 | ⟨d1, d2⟩
    all_goals
      go_wp2_with fail
      refine (HV.out _).mono ?_; rintro e w6 ⟨rfl, hb6⟩
      have B6 := Lib.hid (bl_tr B5.out hb6)
      clear c0 c1 c2 c3 c4 c5 hb6 B5 HV
      go_wp2
      go_ret
      exact ⟨rfl, HP.out.2.2.1.trans (B6.out.mono HP.out.2.2.1.size)⟩
end Go.Proofs.Ytfpffggeehmedaa

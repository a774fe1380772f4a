/-
  The walk of kurganlaw08.ValueCosts.
-/
import Derived.Test.YtfpffggeehmedaaRefTotal
import Derived.Test.YtfpffggeehmedaaBoundsL
import Derived.Test.YtfpffggeehmedaaCut
import Derived.Test.YtfpffggeehmedaaErr
import Derived.Deep.RegionHeld3
import Derived.Deep.Cut
namespace Go.Proofs.Ytfpffggeehmedaa
open Go.RowKit
set_option linter.unusedVariables false

/-- how the first seventy numbers of a list that came in are copied -/
def Arg (W : World) (xa : Option Addr) (xn xc : Nat) (x : List Int) : Prop :=
  (xa = none ∧ xn = 0 ∧ xc = 0 ∧ x = []) ∨ (∃ ad, xa = some ad ∧ xn = 0 ∧ xc ≤ 9223372036854775807 ∧ x = []) ∨
  ∃ b o, xa = some ⟨b, o, none⟩ ∧ xn ≤ xc ∧ xc ≤ 9223372036854775807 ∧ b < W.heap.size ∧ (∀ j, j < x.length → W.cell? ⟨b, o + j, none⟩ = some (.int .i64 (x[j]?.getD 0))) ∧ ((xn ≤ 70 ∧ x.length = xn) ∨ (70 < xn ∧ x.length = 70))
theorem arg_of {W : World} {xa : Option Addr} {xn xc : Nat} {x : List Int} (h : Src W xa xn xc x) : Arg W xa xn xc x := by
  obtain ⟨s1, s2, s3, s4⟩ := h
  rcases s4 with ⟨rfl, s4⟩ | ⟨b, o, rfl, hlt, hc⟩
  · have hx : x = [] := List.eq_nil_of_length_eq_zero (by omega)
    cases xa with
    | none => exact Or.inl ⟨rfl, rfl, s4 rfl, hx⟩
    | some ad => exact Or.inr (Or.inl ⟨ad, rfl, rfl, s3, hx⟩)
  · exact Or.inr (Or.inr ⟨b, o, rfl, s2, s3, hlt, hc, by omega⟩)
theorem app_src {X : World} {b o : Nat} {l : List Int} (hb : b < X.heap.size) (hc : ∀ j, j < l.length → X.cell? ⟨b, o + j, none⟩ = some (.int .i64 (l[j]?.getD 0))) : ∀ j u, (l.map (Value.int .i64))[j]? = some u → (X.alloc (.cells #[] 3)).cell? ((⟨b, o, none⟩ : Addr).add j) = some u := fun j u hj => by
  rw [List.getElem?_map] at hj
  have hlt : j < l.length := by
    rcases Nat.lt_or_ge j l.length with h | h
    · exact h
    · rw [List.getElem?_eq_none h] at hj; cases hj
  have h := (((Below.refl _ X).alloc (Nat.le_refl _) (.cells #[] 3)).cell (p := ⟨b, o + j, none⟩) hb).trans (hc j hlt)
  rw [List.getElem?_eq_getElem hlt] at hj h
  simp at hj
  rw [← hj]
  simp only [Option.getD_some] at h
  have e : (⟨b, o, none⟩ : Addr).add j = ⟨b, o + j, none⟩ := by
    unfold Addr.add
    split <;> simp_all
  rw [e]
  exact h
theorem nil_own (X : World) : IntsO (X.alloc (.cells #[] 3)) X.heap.size [] := ⟨#[], heap_alloc_new X _, fun j hj => absurd hj (by simp)⟩
set_option maxRecDepth 100000 in
set_option maxHeartbeats 20000000 in
theorem valueCosts_walk (kd N C : Int) (wl vl : List Int) (cl : List (List Int)) (wa va ca : Option Addr) (wn vn cn wc vc cc : Nat) (x : List Int) (xa : Option Addr) (xn xc : Nat) (w : World) (h1 : Src w wa wn wc wl) (h2 : Src w va vn vc vl) (h3 : RSrc w ca cn cc cl) (h4 : Src w xa xn xc x) :
    Calls Try.prog 3 #[.agg #[.int .i64 kd, .int .i64 N, .int .i64 C, .slice wa wn wc, .slice va vn vc, .slice ca cn cc], .slice xa xn xc] w fun e w' => e = .returned (.bool true) ∧ Below w.heap.size w w' := by
  obtain ⟨i0, hi, hz0, hz1, hz2⟩ := info_parts info3
  have bA : Below w.heap.size w (w.alloc (.cells #[.int .i64 kd, .int .i64 N, .int .i64 C, .slice wa wn wc, .slice va vn vc, .slice ca cn cc] 25)) := bl_al (Below.refl _ _) _
  have HC := Lib.hid (refcopy_any kd N C wl vl cl wa va ca wn vn cn wc vc cc _ (h1.keep bA) (h2.keep bA) (h3.keep bA))
  have HB := Lib.hid bA
  have l1 : wl.length ≤ 1000 := by have := h1.1; omega
  have l2 : vl.length ≤ 1000 := by have := h2.1; omega
  have l3 : cl.length ≤ 1000 := by have := h3.1; omega
  have hx70 : x.length ≤ 70 := by have := h4.1; omega
  have HV := Lib.hid (fun W => vals_walk W)
  have HArg := Lib.hid (fun W (hb : Below w.heap.size w W) => arg_of (h4.keep hb))
  have HBd := Lib.hid (cost_bd kd N C wl vl cl x)
  have HSp := Lib.hid (val_split kd N C wl vl cl x)
  have HTo := Lib.hid (fun W (a b c : Option Addr) (k1 k2 k3 : Nat) (h : Prob W wl vl cl a b c) => total_any kd N C wl vl cl a b c k1 k2 k3 W h)
  have HRT := Lib.hid (fun W (a b c : Option Addr) (k1 k2 k3 : Nat) (h : Prob W wl vl cl a b c) => rtotal_any kd N C wl vl cl a b c k1 k2 k3 W h)
  have HOf := Lib.hid (fun W (a b c : Option Addr) (k1 k2 k3 : Nat) (h : Prob W wl vl cl a b c) => of_any' kd N C (costR kd N C wl vl cl x).1 (by have := cost_bd kd N C wl vl cl x; omega) wl vl cl a b c k1 k2 k3 W h)
  have HRO := Lib.hid (fun W (a b c : Option Addr) (k1 k2 k3 : Nat) (h : Prob W wl vl cl a b c) => rof_any kd N C (costR kd N C wl vl cl x).1 (by have := cost_bd kd N C wl vl cl x; omega) wl vl cl a b c k1 k2 k3 W h)
  have HCo := Lib.hid (fun W (a b c xa : Option Addr) (k1 k2 k3 xc : Nat) (h : Prob W wl vl cl a b c) (hI : Ints W xa x) => cost_any kd N C wl vl cl x a b c xa k1 k2 k3 xc W h hI (by omega))
  have HVa := Lib.hid (fun W (a b c xa : Option Addr) (k1 k2 k3 xc : Nat) (h : Prob W wl vl cl a b c) (hI : Ints W xa x) => value_any kd N C wl vl cl x a b c xa k1 k2 k3 xc W h hI (by omega))
  have HRC := Lib.hid (fun W (a b c xa : Option Addr) (k1 k2 k3 xc : Nat) (h : Prob W wl vl cl a b c) (hI : Ints W xa x) => refCost_any kd N C wl vl cl x a b c xa k1 k2 k3 xc W h hI (by omega))
  have HNN := Lib.hid (err_nn kd N C wl vl cl x)
  have HVO := Lib.hid (show (costR kd N C wl vl cl x).2 = 0 → valueR kd N C wl vl cl x = (ofR kd N C wl vl cl (costR kd N C wl vl cl x).1, 0) from fun h => value_ok h)
  clear h1 h2 h3 bA h4
  generalize (costR kd N C wl vl cl x) = cr at *
  obtain ⟨co, ce⟩ := cr
  generalize (valueR kd N C wl vl cl x) = vr at *
  obtain ⟨vo, ve⟩ := vr
  generalize totalR kd N C wl vl cl = tot at *
  simp only at HCo HVa HRC HBd HOf HRO HVO
  generalize ofR kd N C wl vl cl co = ofc at *
  by_cases he : ce = 0
  · have hv := HVO.out he
    simp only [Prod.mk.injEq] at hv
    obtain ⟨rfl, rfl⟩ := hv
    subst he
    clear HSp HVO HBd HNN
    go_enter Try.func3, Try.ntmps3
    go_wp2_with fail
    refine HC.out.mono ?_; rintro e w1 ⟨g1, k1, g2, k2, ca', cc', rfl, hb, i1, i2, rw⟩
    have q0 : w1.heap[w.heap.size]? = some (.cells #[.int .i64 kd, .int .i64 N, .int .i64 C, .slice wa wn wc, .slice va vn vc, .slice ca cn cc] 25 (0, 0)) := (hb.block _ (by simp)).trans (heap_alloc_new w _)
    have P := put_copy (K := kd) (N := N) (C := C) (k1 := k1) (k2 := k2) (cc := cc') (Nat.le_refl _) q0 (bl_tr HB.out hb) i1 i2 rw l1 l2 l3 _ rfl
    have HP := Lib.hid P
    obtain ⟨c0, c1, c2, c3, c4, c5⟩ := box6 q0
    have cf := fr6 q0
    have hs := lt_hp q0
    clear hb i1 i2 rw q0 HC HB P
    go_upto_region 2 with (fail)
    clear c0 c1 c2 c3 c4 c5 cf
    generalize ((((((w1.setCell ⟨w.heap.size, 0, none⟩ (.int .i64 kd)).setCell ⟨w.heap.size, 1, none⟩ (.int .i64 N)).setCell ⟨w.heap.size, 2, none⟩ (.int .i64 C)).setCell ⟨w.heap.size, 3, none⟩ (.slice (some ⟨g1, 0, none⟩) wl.length k1)).setCell ⟨w.heap.size, 4, none⟩ (.slice (some ⟨g2, 0, none⟩) vl.length k2)).setCell ⟨w.heap.size, 5, none⟩ (.slice ca' cl.length cc')) = X at *
    have ho := own0 X
    rcases HArg.out X HP.out.2.2 with ⟨rfl, rfl, rfl, rfl⟩ | ⟨ad, rfl, rfl, q2, rfl⟩ | ⟨b, o, rfl, q1, q2, q3, q4, ⟨q5, q6⟩ | ⟨q5, q6⟩⟩
    · clear HArg
      have HX3 := Lib.hid (nil_own X)
      have BX := Lib.hid (bl_al (Below.refl X.heap.size X) (.cells #[] 3))
      clear ho
      simp only [List.length_nil] at *
      go_upto_region 3 with (fail)
      generalize X.alloc (.cells #[] 3) = w3 at *
      obtain ⟨c0, c1, c2, c3, c4, c5⟩ := box6_keep BX.out HP.out.1
      go_wp2_with fail
      refine (HCo.out w3 _ _ _ _ _ _ _ _ (HP.out.2.1.keep BX.out) HX3.out.ints).mono ?_; rintro e w4 ⟨rfl, hb⟩
      have D4 := Lib.hid hb
      have B4 := Lib.hid (bl_tr BX.out hb)
      clear c0 c1 c2 c3 c4 c5 hb
      obtain ⟨c0, c1, c2, c3, c4, c5⟩ := box6_keep B4.out HP.out.1
      go_wp2_with fail
      refine (HVa.out w4 _ _ _ _ _ _ _ _ (HP.out.2.1.keep B4.out) (HX3.out.keep D4.out).ints).mono ?_; rintro e w5 ⟨rfl, hb⟩
      have D5 := Lib.hid (bl_tr D4.out hb)
      have B5 := Lib.hid (bl_tr B4.out hb)
      clear c0 c1 c2 c3 c4 c5 hb
      obtain ⟨c0, c1, c2, c3, c4, c5⟩ := box6_keep B5.out HP.out.1
      go_wp2_with fail
      refine (HRC.out w5 _ _ _ _ _ _ _ _ (HP.out.2.1.keep B5.out) (HX3.out.keep D5.out).ints).mono ?_; rintro e w6 ⟨rfl, hb⟩
      have B6 := Lib.hid (bl_tr B5.out hb)
      clear c0 c1 c2 c3 c4 c5 hb
      obtain ⟨c0, c1, c2, c3, c4, c5⟩ := box6_keep B6.out HP.out.1
      go_wp2_with fail
      refine (HRO.out w6 _ _ _ _ _ _ (HP.out.2.1.keep B6.out)).mono ?_; rintro e w7 ⟨rfl, hb⟩
      have B7 := Lib.hid (bl_tr B6.out hb)
      clear c0 c1 c2 c3 c4 c5 hb
      go_wp2
      have K0 := Lib.hid (box6_keep B7.out HP.out.1)
      go_region_held3 (fun w' => w'.cell? ⟨w.heap.size, 0, none⟩ = some (.int .i64 kd) ∧ w'.cell? ⟨w.heap.size, 1, none⟩ = some (.int .i64 N) ∧ w'.cell? ⟨w.heap.size, 2, none⟩ = some (.int .i64 C) ∧ w'.cell? ⟨w.heap.size, 3, none⟩ = some (.slice (some ⟨g1, 0, none⟩) wl.length k1) ∧ w'.cell? ⟨w.heap.size, 4, none⟩ = some (.slice (some ⟨g2, 0, none⟩) vl.length k2) ∧ w'.cell? ⟨w.heap.size, 5, none⟩ = some (.slice ca' cl.length cc')) (first | exact K0.out | exact K1.out | exact K2.out | exact K3.out | exact K4.out)
        (first
          | (go_at_call 12; refine (HV.out _).mono ?_; rintro e x1 ⟨rfl, b1⟩; have b1 := bl_undr b1; have Y1 := Lib.hid (bl_tr B7.out b1); have K1 := Lib.hid (box6_keep Y1.out HP.out.1); clear b1)
          | (go_at_call 13; refine (HTo.out _ _ _ _ _ _ _ (HP.out.2.1.keep Y1.out)).mono ?_; rintro e x2 ⟨rfl, b2⟩; have Y2 := Lib.hid (bl_tr Y1.out b2); have K2 := Lib.hid (box6_keep Y2.out HP.out.1); clear b2)
          | (go_at_call 14; refine (HRT.out _ _ _ _ _ _ _ (HP.out.2.1.keep Y2.out)).mono ?_; rintro e x3 ⟨rfl, b3⟩; have Y3 := Lib.hid (bl_tr Y2.out b3); have K3 := Lib.hid (box6_keep Y3.out HP.out.1); clear b3)
          | (go_at_call 15; refine (HOf.out _ _ _ _ _ _ _ (HP.out.2.1.keep Y3.out)).mono ?_; rintro e x4 ⟨rfl, b4⟩; have Y4 := Lib.hid (bl_tr Y3.out b4); have K4 := Lib.hid (box6_keep Y4.out HP.out.1); clear b4))
      all_goals go_wp2
      all_goals
        go_ret
        exact ⟨rfl, HP.out.2.2.trans (Y4.out.mono HP.out.2.2.size)⟩

    · clear HArg
      simp only [List.length_nil] at *
      go_upto_region 3 with (at_builtin; refine wpList_append_own _ rfl _ _ 22 rfl X.heap.size 3 i0 (.int .i64 0) 1 8 Try.underlying22 hi hz0 hz1 hz2 rfl (by decide) _ _ _ rfl ho ad 0 xc [] rfl rfl (fun j u h => by simp at h) (by simp) (by decide) (by decide) (by simp) ?_)
      intro v' w3 hown hgrow hne
      obtain ⟨g, cap, rfl⟩ := own_form hown (by simpa using hne)
      have BX := Lib.hid ((bl_al (Below.refl _ _) _).grown hgrow (by simp) (fun j hj => by simp [Value.ownBlock] at hj; omega))
      have HX3 := Lib.hid (ints_own (l := []) rfl hown)
      clear hgrow hown hne ho
      obtain ⟨c0, c1, c2, c3, c4, c5⟩ := box6_keep BX.out HP.out.1
      go_wp2_with fail
      refine (HCo.out w3 _ _ _ _ _ _ _ _ (HP.out.2.1.keep BX.out) HX3.out.ints).mono ?_; rintro e w4 ⟨rfl, hb⟩
      have D4 := Lib.hid hb
      have B4 := Lib.hid (bl_tr BX.out hb)
      clear c0 c1 c2 c3 c4 c5 hb
      obtain ⟨c0, c1, c2, c3, c4, c5⟩ := box6_keep B4.out HP.out.1
      go_wp2_with fail
      refine (HVa.out w4 _ _ _ _ _ _ _ _ (HP.out.2.1.keep B4.out) (HX3.out.keep D4.out).ints).mono ?_; rintro e w5 ⟨rfl, hb⟩
      have D5 := Lib.hid (bl_tr D4.out hb)
      have B5 := Lib.hid (bl_tr B4.out hb)
      clear c0 c1 c2 c3 c4 c5 hb
      obtain ⟨c0, c1, c2, c3, c4, c5⟩ := box6_keep B5.out HP.out.1
      go_wp2_with fail
      refine (HRC.out w5 _ _ _ _ _ _ _ _ (HP.out.2.1.keep B5.out) (HX3.out.keep D5.out).ints).mono ?_; rintro e w6 ⟨rfl, hb⟩
      have B6 := Lib.hid (bl_tr B5.out hb)
      clear c0 c1 c2 c3 c4 c5 hb
      obtain ⟨c0, c1, c2, c3, c4, c5⟩ := box6_keep B6.out HP.out.1
      go_wp2_with fail
      refine (HRO.out w6 _ _ _ _ _ _ (HP.out.2.1.keep B6.out)).mono ?_; rintro e w7 ⟨rfl, hb⟩
      have B7 := Lib.hid (bl_tr B6.out hb)
      clear c0 c1 c2 c3 c4 c5 hb
      go_wp2
      have K0 := Lib.hid (box6_keep B7.out HP.out.1)
      go_region_held3 (fun w' => w'.cell? ⟨w.heap.size, 0, none⟩ = some (.int .i64 kd) ∧ w'.cell? ⟨w.heap.size, 1, none⟩ = some (.int .i64 N) ∧ w'.cell? ⟨w.heap.size, 2, none⟩ = some (.int .i64 C) ∧ w'.cell? ⟨w.heap.size, 3, none⟩ = some (.slice (some ⟨g1, 0, none⟩) wl.length k1) ∧ w'.cell? ⟨w.heap.size, 4, none⟩ = some (.slice (some ⟨g2, 0, none⟩) vl.length k2) ∧ w'.cell? ⟨w.heap.size, 5, none⟩ = some (.slice ca' cl.length cc')) (first | exact K0.out | exact K1.out | exact K2.out | exact K3.out | exact K4.out)
        (first
          | (go_at_call 12; refine (HV.out _).mono ?_; rintro e x1 ⟨rfl, b1⟩; have b1 := bl_undr b1; have Y1 := Lib.hid (bl_tr B7.out b1); have K1 := Lib.hid (box6_keep Y1.out HP.out.1); clear b1)
          | (go_at_call 13; refine (HTo.out _ _ _ _ _ _ _ (HP.out.2.1.keep Y1.out)).mono ?_; rintro e x2 ⟨rfl, b2⟩; have Y2 := Lib.hid (bl_tr Y1.out b2); have K2 := Lib.hid (box6_keep Y2.out HP.out.1); clear b2)
          | (go_at_call 14; refine (HRT.out _ _ _ _ _ _ _ (HP.out.2.1.keep Y2.out)).mono ?_; rintro e x3 ⟨rfl, b3⟩; have Y3 := Lib.hid (bl_tr Y2.out b3); have K3 := Lib.hid (box6_keep Y3.out HP.out.1); clear b3)
          | (go_at_call 15; refine (HOf.out _ _ _ _ _ _ _ (HP.out.2.1.keep Y3.out)).mono ?_; rintro e x4 ⟨rfl, b4⟩; have Y4 := Lib.hid (bl_tr Y3.out b4); have K4 := Lib.hid (box6_keep Y4.out HP.out.1); clear b4))
      all_goals go_wp2
      all_goals
        go_ret
        exact ⟨rfl, HP.out.2.2.trans (Y4.out.mono HP.out.2.2.size)⟩

    · clear HArg
      have hmn : min (xn : Int) 70 = (xn : Int) := by omega
      have HNs := Lib.hid (app_src q3 q4)
      clear q4
      go_upto_region 3 with (at_builtin; refine wpList_append_own _ rfl _ _ 22 rfl X.heap.size 3 i0 (.int .i64 0) 1 8 Try.underlying22 hi hz0 hz1 hz2 rfl (by decide) _ _ _ rfl ho ⟨b, o, none⟩ _ xc (x.map (Value.int .i64)) rfl (by simp [q6]) HNs.out (by simp [Value.oneCell']) (by unfold maxLen; omega) (by omega) (by simp) ?_)
      intro v' w3 hown hgrow hne
      obtain ⟨g, cap, rfl⟩ := own_form hown hne
      have BX := Lib.hid ((bl_al (Below.refl _ _) _).grown hgrow (by simp) (fun j hj => by simp [Value.ownBlock] at hj; omega))
      have HX3 := Lib.hid (ints_own q6 (by simpa using hown))
      clear hgrow hown hne ho HNs
      rw [q6] at HCo HVa HRC
      clear q6 hmn
      obtain ⟨c0, c1, c2, c3, c4, c5⟩ := box6_keep BX.out HP.out.1
      go_wp2_with fail
      refine (HCo.out w3 _ _ _ _ _ _ _ _ (HP.out.2.1.keep BX.out) HX3.out.ints).mono ?_; rintro e w4 ⟨rfl, hb⟩
      have D4 := Lib.hid hb
      have B4 := Lib.hid (bl_tr BX.out hb)
      clear c0 c1 c2 c3 c4 c5 hb
      obtain ⟨c0, c1, c2, c3, c4, c5⟩ := box6_keep B4.out HP.out.1
      go_wp2_with fail
      refine (HVa.out w4 _ _ _ _ _ _ _ _ (HP.out.2.1.keep B4.out) (HX3.out.keep D4.out).ints).mono ?_; rintro e w5 ⟨rfl, hb⟩
      have D5 := Lib.hid (bl_tr D4.out hb)
      have B5 := Lib.hid (bl_tr B4.out hb)
      clear c0 c1 c2 c3 c4 c5 hb
      obtain ⟨c0, c1, c2, c3, c4, c5⟩ := box6_keep B5.out HP.out.1
      go_wp2_with fail
      refine (HRC.out w5 _ _ _ _ _ _ _ _ (HP.out.2.1.keep B5.out) (HX3.out.keep D5.out).ints).mono ?_; rintro e w6 ⟨rfl, hb⟩
      have B6 := Lib.hid (bl_tr B5.out hb)
      clear c0 c1 c2 c3 c4 c5 hb
      obtain ⟨c0, c1, c2, c3, c4, c5⟩ := box6_keep B6.out HP.out.1
      go_wp2_with fail
      refine (HRO.out w6 _ _ _ _ _ _ (HP.out.2.1.keep B6.out)).mono ?_; rintro e w7 ⟨rfl, hb⟩
      have B7 := Lib.hid (bl_tr B6.out hb)
      clear c0 c1 c2 c3 c4 c5 hb
      go_wp2
      have K0 := Lib.hid (box6_keep B7.out HP.out.1)
      go_region_held3 (fun w' => w'.cell? ⟨w.heap.size, 0, none⟩ = some (.int .i64 kd) ∧ w'.cell? ⟨w.heap.size, 1, none⟩ = some (.int .i64 N) ∧ w'.cell? ⟨w.heap.size, 2, none⟩ = some (.int .i64 C) ∧ w'.cell? ⟨w.heap.size, 3, none⟩ = some (.slice (some ⟨g1, 0, none⟩) wl.length k1) ∧ w'.cell? ⟨w.heap.size, 4, none⟩ = some (.slice (some ⟨g2, 0, none⟩) vl.length k2) ∧ w'.cell? ⟨w.heap.size, 5, none⟩ = some (.slice ca' cl.length cc')) (first | exact K0.out | exact K1.out | exact K2.out | exact K3.out | exact K4.out)
        (first
          | (go_at_call 12; refine (HV.out _).mono ?_; rintro e x1 ⟨rfl, b1⟩; have b1 := bl_undr b1; have Y1 := Lib.hid (bl_tr B7.out b1); have K1 := Lib.hid (box6_keep Y1.out HP.out.1); clear b1)
          | (go_at_call 13; refine (HTo.out _ _ _ _ _ _ _ (HP.out.2.1.keep Y1.out)).mono ?_; rintro e x2 ⟨rfl, b2⟩; have Y2 := Lib.hid (bl_tr Y1.out b2); have K2 := Lib.hid (box6_keep Y2.out HP.out.1); clear b2)
          | (go_at_call 14; refine (HRT.out _ _ _ _ _ _ _ (HP.out.2.1.keep Y2.out)).mono ?_; rintro e x3 ⟨rfl, b3⟩; have Y3 := Lib.hid (bl_tr Y2.out b3); have K3 := Lib.hid (box6_keep Y3.out HP.out.1); clear b3)
          | (go_at_call 15; refine (HOf.out _ _ _ _ _ _ _ (HP.out.2.1.keep Y3.out)).mono ?_; rintro e x4 ⟨rfl, b4⟩; have Y4 := Lib.hid (bl_tr Y3.out b4); have K4 := Lib.hid (box6_keep Y4.out HP.out.1); clear b4))
      all_goals go_wp2
      all_goals
        go_ret
        exact ⟨rfl, HP.out.2.2.trans (Y4.out.mono HP.out.2.2.size)⟩

    · clear HArg
      have hmn : min (xn : Int) 70 = 70 := by omega
      have HNs := Lib.hid (app_src q3 q4)
      clear q4
      go_upto_region 3 with (at_builtin; refine wpList_append_own _ rfl _ _ 22 rfl X.heap.size 3 i0 (.int .i64 0) 1 8 Try.underlying22 hi hz0 hz1 hz2 rfl (by decide) _ _ _ rfl ho ⟨b, o, none⟩ _ xc (x.map (Value.int .i64)) rfl (by simp [q6]) HNs.out (by simp [Value.oneCell']) (by unfold maxLen; omega) (by omega) (by simp) ?_)
      intro v' w3 hown hgrow hne
      obtain ⟨g, cap, rfl⟩ := own_form hown hne
      have BX := Lib.hid ((bl_al (Below.refl _ _) _).grown hgrow (by simp) (fun j hj => by simp [Value.ownBlock] at hj; omega))
      have HX3 := Lib.hid (ints_own q6 (by simpa using hown))
      clear hgrow hown hne ho HNs
      rw [q6] at HCo HVa HRC
      clear q6 hmn
      obtain ⟨c0, c1, c2, c3, c4, c5⟩ := box6_keep BX.out HP.out.1
      go_wp2_with fail
      refine (HCo.out w3 _ _ _ _ _ _ _ _ (HP.out.2.1.keep BX.out) HX3.out.ints).mono ?_; rintro e w4 ⟨rfl, hb⟩
      have D4 := Lib.hid hb
      have B4 := Lib.hid (bl_tr BX.out hb)
      clear c0 c1 c2 c3 c4 c5 hb
      obtain ⟨c0, c1, c2, c3, c4, c5⟩ := box6_keep B4.out HP.out.1
      go_wp2_with fail
      refine (HVa.out w4 _ _ _ _ _ _ _ _ (HP.out.2.1.keep B4.out) (HX3.out.keep D4.out).ints).mono ?_; rintro e w5 ⟨rfl, hb⟩
      have D5 := Lib.hid (bl_tr D4.out hb)
      have B5 := Lib.hid (bl_tr B4.out hb)
      clear c0 c1 c2 c3 c4 c5 hb
      obtain ⟨c0, c1, c2, c3, c4, c5⟩ := box6_keep B5.out HP.out.1
      go_wp2_with fail
      refine (HRC.out w5 _ _ _ _ _ _ _ _ (HP.out.2.1.keep B5.out) (HX3.out.keep D5.out).ints).mono ?_; rintro e w6 ⟨rfl, hb⟩
      have B6 := Lib.hid (bl_tr B5.out hb)
      clear c0 c1 c2 c3 c4 c5 hb
      obtain ⟨c0, c1, c2, c3, c4, c5⟩ := box6_keep B6.out HP.out.1
      go_wp2_with fail
      refine (HRO.out w6 _ _ _ _ _ _ (HP.out.2.1.keep B6.out)).mono ?_; rintro e w7 ⟨rfl, hb⟩
      have B7 := Lib.hid (bl_tr B6.out hb)
      clear c0 c1 c2 c3 c4 c5 hb
      go_wp2
      have K0 := Lib.hid (box6_keep B7.out HP.out.1)
      go_region_held3 (fun w' => w'.cell? ⟨w.heap.size, 0, none⟩ = some (.int .i64 kd) ∧ w'.cell? ⟨w.heap.size, 1, none⟩ = some (.int .i64 N) ∧ w'.cell? ⟨w.heap.size, 2, none⟩ = some (.int .i64 C) ∧ w'.cell? ⟨w.heap.size, 3, none⟩ = some (.slice (some ⟨g1, 0, none⟩) wl.length k1) ∧ w'.cell? ⟨w.heap.size, 4, none⟩ = some (.slice (some ⟨g2, 0, none⟩) vl.length k2) ∧ w'.cell? ⟨w.heap.size, 5, none⟩ = some (.slice ca' cl.length cc')) (first | exact K0.out | exact K1.out | exact K2.out | exact K3.out | exact K4.out)
        (first
          | (go_at_call 12; refine (HV.out _).mono ?_; rintro e x1 ⟨rfl, b1⟩; have b1 := bl_undr b1; have Y1 := Lib.hid (bl_tr B7.out b1); have K1 := Lib.hid (box6_keep Y1.out HP.out.1); clear b1)
          | (go_at_call 13; refine (HTo.out _ _ _ _ _ _ _ (HP.out.2.1.keep Y1.out)).mono ?_; rintro e x2 ⟨rfl, b2⟩; have Y2 := Lib.hid (bl_tr Y1.out b2); have K2 := Lib.hid (box6_keep Y2.out HP.out.1); clear b2)
          | (go_at_call 14; refine (HRT.out _ _ _ _ _ _ _ (HP.out.2.1.keep Y2.out)).mono ?_; rintro e x3 ⟨rfl, b3⟩; have Y3 := Lib.hid (bl_tr Y2.out b3); have K3 := Lib.hid (box6_keep Y3.out HP.out.1); clear b3)
          | (go_at_call 15; refine (HOf.out _ _ _ _ _ _ _ (HP.out.2.1.keep Y3.out)).mono ?_; rintro e x4 ⟨rfl, b4⟩; have Y4 := Lib.hid (bl_tr Y3.out b4); have K4 := Lib.hid (box6_keep Y4.out HP.out.1); clear b4))
      all_goals go_wp2
      all_goals
        go_ret
        exact ⟨rfl, HP.out.2.2.trans (Y4.out.mono HP.out.2.2.size)⟩


  · have hv := HSp.out
    simp only at hv
    have hv2 : co = 0 ∧ vo = 0 ∧ ve = ce := by
      rcases hv with ⟨e1, e2, e3⟩ | ⟨e1, _⟩ | ⟨e1, _⟩
      · simp only [Prod.mk.injEq] at e3
        exact ⟨e2, e3.1, e3.2⟩
      · exact absurd e1 he
      · exact absurd e1 he
    obtain ⟨rfl, rfl, rfl⟩ := hv2
    have hnn := HNN.out
    simp only at hnn
    obtain ⟨er, rfl⟩ : ∃ er : Nat, ve = (er : Int) + 1 := ⟨(ve - 1).toNat, by omega⟩
    have he1 : ((er : Int) + 1 == 0) = false := by simpa using he
    have he2 : ((er : Int) + 1 != 0) = true := by simpa using he
    clear HSp HVO HBd hv he HOf HRO HNN hnn
    go_enter Try.func3, Try.ntmps3
    go_wp2_with fail
    refine HC.out.mono ?_; rintro e w1 ⟨g1, k1, g2, k2, ca', cc', rfl, hb, i1, i2, rw⟩
    have q0 : w1.heap[w.heap.size]? = some (.cells #[.int .i64 kd, .int .i64 N, .int .i64 C, .slice wa wn wc, .slice va vn vc, .slice ca cn cc] 25 (0, 0)) := (hb.block _ (by simp)).trans (heap_alloc_new w _)
    have P := put_copy (K := kd) (N := N) (C := C) (k1 := k1) (k2 := k2) (cc := cc') (Nat.le_refl _) q0 (bl_tr HB.out hb) i1 i2 rw l1 l2 l3 _ rfl
    have HP := Lib.hid P
    obtain ⟨c0, c1, c2, c3, c4, c5⟩ := box6 q0
    have cf := fr6 q0
    have hs := lt_hp q0
    clear hb i1 i2 rw q0 HC HB P
    go_upto_region 2 with (fail)
    clear c0 c1 c2 c3 c4 c5 cf
    generalize ((((((w1.setCell ⟨w.heap.size, 0, none⟩ (.int .i64 kd)).setCell ⟨w.heap.size, 1, none⟩ (.int .i64 N)).setCell ⟨w.heap.size, 2, none⟩ (.int .i64 C)).setCell ⟨w.heap.size, 3, none⟩ (.slice (some ⟨g1, 0, none⟩) wl.length k1)).setCell ⟨w.heap.size, 4, none⟩ (.slice (some ⟨g2, 0, none⟩) vl.length k2)).setCell ⟨w.heap.size, 5, none⟩ (.slice ca' cl.length cc')) = X at *
    have ho := own0 X
    rcases HArg.out X HP.out.2.2 with ⟨rfl, rfl, rfl, rfl⟩ | ⟨ad, rfl, rfl, q2, rfl⟩ | ⟨b, o, rfl, q1, q2, q3, q4, ⟨q5, q6⟩ | ⟨q5, q6⟩⟩
    · clear HArg
      have HX3 := Lib.hid (nil_own X)
      have BX := Lib.hid (bl_al (Below.refl X.heap.size X) (.cells #[] 3))
      clear ho
      simp only [List.length_nil] at *
      go_upto_region 3 with (fail)
      generalize X.alloc (.cells #[] 3) = w3 at *
      obtain ⟨c0, c1, c2, c3, c4, c5⟩ := box6_keep BX.out HP.out.1
      go_wp2_with fail
      refine (HCo.out w3 _ _ _ _ _ _ _ _ (HP.out.2.1.keep BX.out) HX3.out.ints).mono ?_; rintro e w4 ⟨rfl, hb⟩
      have D4 := Lib.hid hb
      have B4 := Lib.hid (bl_tr BX.out hb)
      clear c0 c1 c2 c3 c4 c5 hb
      obtain ⟨c0, c1, c2, c3, c4, c5⟩ := box6_keep B4.out HP.out.1
      go_wp2_with fail
      refine (HVa.out w4 _ _ _ _ _ _ _ _ (HP.out.2.1.keep B4.out) (HX3.out.keep D4.out).ints).mono ?_; rintro e w5 ⟨rfl, hb⟩
      have D5 := Lib.hid (bl_tr D4.out hb)
      have B5 := Lib.hid (bl_tr B4.out hb)
      clear c0 c1 c2 c3 c4 c5 hb
      obtain ⟨c0, c1, c2, c3, c4, c5⟩ := box6_keep B5.out HP.out.1
      go_wp2_with fail
      refine (HRC.out w5 _ _ _ _ _ _ _ _ (HP.out.2.1.keep B5.out) (HX3.out.keep D5.out).ints).mono ?_; rintro e w6 ⟨rfl, hb⟩
      have B6 := Lib.hid (bl_tr B5.out hb)
      clear c0 c1 c2 c3 c4 c5 hb
      obtain ⟨c0, c1, c2, c3, c4, c5⟩ := box6_keep B6.out HP.out.1
      go_wp2
      clear c0 c1 c2 c3 c4 c5
      refine wp_region_held_drew (S := (fun w' => w'.cell? ⟨w.heap.size, 0, none⟩ = some (.int .i64 kd) ∧ w'.cell? ⟨w.heap.size, 1, none⟩ = some (.int .i64 N) ∧ w'.cell? ⟨w.heap.size, 2, none⟩ = some (.int .i64 C) ∧ w'.cell? ⟨w.heap.size, 3, none⟩ = some (.slice (some ⟨g1, 0, none⟩) wl.length k1) ∧ w'.cell? ⟨w.heap.size, 4, none⟩ = some (.slice (some ⟨g2, 0, none⟩) vl.length k2) ∧ w'.cell? ⟨w.heap.size, 5, none⟩ = some (.slice ca' cl.length cc'))) (by kernel_rfl) (box6_keep (bl_tr B6.out (bl_drew _)) HP.out.1) (fun hHeld => ?_)
      refine wpAnyH_ready (rs := [0]) (by kernel_rfl) (by simp) ?_
      refine AllReadyH.cons (by rw [List.getElem?_toArray]; rfl) (fun K hK => ?_) AllReadyH.nil
      clear hHeld
      go_simp
      go_at_call 12; refine (HV.out _).mono ?_; rintro e x1 ⟨rfl, b1⟩; have b1 := bl_undr b1; have Y1 := Lib.hid (bl_tr B6.out b1); clear b1
      go_wp2_with fail
      refine hK.out _ _ (box6_keep Y1.out HP.out.1) (fun hHeld => ?_)
      clear hK K
      try simp only [Act.put, List.setIfInBounds_toArray, List.set_cons_zero, List.set_cons_succ]
      refine wpAnyH_take (i := 1) (v := ?vau1) (by rw [List.getElem?_toArray]; rfl) (by kernel_rfl) (by kernel_rfl) (by kernel_rfl) ?qau1 (Or.inl ⟨by rfl, ?yau1⟩) (by assumption) ?rau1
      case qau1 => exact fun _ _ _ h => h
      case yau1 => (intro wz hSw; go_simp; try (with_reducible rfl))
      try simp only [Act.put, List.setIfInBounds_toArray, List.set_cons_zero, List.set_cons_succ]
      refine wpAnyH_take (i := 2) (v := ?vau2) (by rw [List.getElem?_toArray]; rfl) (by kernel_rfl) (by kernel_rfl) (by kernel_rfl) ?qau2 (Or.inl ⟨by rfl, ?yau2⟩) (by assumption) ?rau2
      case qau2 => exact fun _ _ _ h => h
      case yau2 => (intro wz hSw; go_simp; try (with_reducible rfl))
      try simp only [Act.put, List.setIfInBounds_toArray, List.set_cons_zero, List.set_cons_succ]
      refine wpAnyH_take (i := 3) (v := ?vau3) (by rw [List.getElem?_toArray]; rfl) (by kernel_rfl) (by kernel_rfl) (by kernel_rfl) ?qau3 (Or.inl ⟨by rfl, ?yau3⟩) (by assumption) ?rau3
      case qau3 => exact fun _ _ _ h => h
      case yau3 => (intro wz hSw; go_simp; try (with_reducible rfl))
      try simp only [Act.put, List.setIfInBounds_toArray, List.set_cons_zero, List.set_cons_succ]
      refine wpAnyH_take (i := 4) (v := ?vau4) (by rw [List.getElem?_toArray]; rfl) (by kernel_rfl) (by kernel_rfl) (by kernel_rfl) ?qau4 (Or.inl ⟨by rfl, ?yau4⟩) (by assumption) ?rau4
      case qau4 => exact fun _ _ _ h => h
      case yau4 => (intro wz hSw; go_simp; try (with_reducible rfl))
      try simp only [Act.put, List.setIfInBounds_toArray, List.set_cons_zero, List.set_cons_succ]
      refine wpAnyH_take (i := 5) (v := ?vau5) (by rw [List.getElem?_toArray]; rfl) (by kernel_rfl) (by kernel_rfl) (by kernel_rfl) ?qau5 (Or.inl ⟨by rfl, ?yau5⟩) (by assumption) ?rau5
      case qau5 => exact fun _ _ _ h => h
      case yau5 => (intro wz hSw; go_simp; try (with_reducible rfl))
      try simp only [Act.put, List.setIfInBounds_toArray, List.set_cons_zero, List.set_cons_succ]
      refine wpAnyH_take (i := 6) (v := ?vau6) (by rw [List.getElem?_toArray]; rfl) (by kernel_rfl) (by kernel_rfl) (by kernel_rfl) ?qau6 (Or.inl ⟨by rfl, ?yau6⟩) (by assumption) ?rau6
      case qau6 => exact fun _ _ _ h => h
      case yau6 => (intro wz hSw; go_simp; try (with_reducible rfl))
      try simp only [Act.put, List.setIfInBounds_toArray, List.set_cons_zero, List.set_cons_succ]
      refine wpAnyH_take (i := 7) (v := ?vau7) (by rw [List.getElem?_toArray]; rfl) (by kernel_rfl) (by kernel_rfl) (by kernel_rfl) ?qau7 (Or.inl ⟨by rfl, ?yau7⟩) (by assumption) ?rau7
      case qau7 => exact fun _ _ _ h => h
      case yau7 => (intro wz hSw; go_simp; try (with_reducible rfl))
      try simp only [Act.put, List.setIfInBounds_toArray, List.set_cons_zero, List.set_cons_succ]
      refine wpAnyH_take (i := 8) (v := ?vau8) (by rw [List.getElem?_toArray]; rfl) (by kernel_rfl) (by kernel_rfl) (by kernel_rfl) ?qau8 (Or.inl ⟨by rfl, ?yau8⟩) (by assumption) ?rau8
      case qau8 => exact fun _ _ _ h => h
      case yau8 => (intro wz hSw; go_simp; try (with_reducible rfl))
      try simp only [Act.put, List.setIfInBounds_toArray, List.set_cons_zero, List.set_cons_succ]
      refine wpAnyH_take (i := 9) (v := ?vau9) (by rw [List.getElem?_toArray]; rfl) (by kernel_rfl) (by kernel_rfl) (by kernel_rfl) ?qau9 (Or.inl ⟨by rfl, ?yau9⟩) (by assumption) ?rau9
      case qau9 => exact fun _ _ _ h => h
      case yau9 => (intro wz hSw; go_simp; try (with_reducible rfl))
      try simp only [Act.put, List.setIfInBounds_toArray, List.set_cons_zero, List.set_cons_succ]
      refine wpAnyH_take (i := 10) (v := ?vau10) (by rw [List.getElem?_toArray]; rfl) (by kernel_rfl) (by kernel_rfl) (by kernel_rfl) ?qau10 (Or.inl ⟨by rfl, ?yau10⟩) (by assumption) ?rau10
      case qau10 => exact fun _ _ _ h => h
      case yau10 => (intro wz hSw; go_simp; try (with_reducible rfl))
      try simp only [Act.put, List.setIfInBounds_toArray, List.set_cons_zero, List.set_cons_succ]
      refine wpAnyH_take (i := 11) (v := ?vau11) (by rw [List.getElem?_toArray]; rfl) (by kernel_rfl) (by kernel_rfl) (by kernel_rfl) ?qau11 (Or.inl ⟨by rfl, ?yau11⟩) (by assumption) ?rau11
      case qau11 => exact fun _ _ _ h => h
      case yau11 => (intro wz hSw; go_simp; try (with_reducible rfl))
      try simp only [Act.put, List.setIfInBounds_toArray, List.set_cons_zero, List.set_cons_succ]
      refine wpAnyH_take (i := 12) (v := ?vau12) (by rw [List.getElem?_toArray]; rfl) (by kernel_rfl) (by kernel_rfl) (by kernel_rfl) ?qau12 (Or.inl ⟨by rfl, ?yau12⟩) (by assumption) ?rau12
      case qau12 => exact fun _ _ _ h => h
      case yau12 => (intro wz hSw; go_simp; try (with_reducible rfl))
      try simp only [Act.put, List.setIfInBounds_toArray, List.set_cons_zero, List.set_cons_succ]
      refine wpAnyH_take (i := 13) (v := ?vau13) (by rw [List.getElem?_toArray]; rfl) (by kernel_rfl) (by kernel_rfl) (by kernel_rfl) ?qau13 (Or.inl ⟨by rfl, ?yau13⟩) (by assumption) ?rau13
      case qau13 => exact fun _ _ _ h => h
      case yau13 => (intro wz hSw; go_simp; try (with_reducible rfl))
      try simp only [Act.put, List.setIfInBounds_toArray, List.set_cons_zero, List.set_cons_succ]
      refine wpAnyH_take (i := 14) (v := ?vau14) (by rw [List.getElem?_toArray]; rfl) (by kernel_rfl) (by kernel_rfl) (by kernel_rfl) ?qau14 (Or.inl ⟨by rfl, ?yau14⟩) (by assumption) ?rau14
      case qau14 => exact fun _ _ _ h => h
      case yau14 => (intro wz hSw; go_simp; try (with_reducible rfl))
      try simp only [Act.put, List.setIfInBounds_toArray, List.set_cons_zero, List.set_cons_succ]
      refine wpAnyH_take (i := 15) (v := ?vau15) (by rw [List.getElem?_toArray]; rfl) (by kernel_rfl) (by kernel_rfl) (by kernel_rfl) ?qau15 (Or.inl ⟨by rfl, ?yau15⟩) (by assumption) ?rau15
      case qau15 => exact fun _ _ _ h => h
      case yau15 => (intro wz hSw; go_simp; try (with_reducible rfl))
      try simp only [Act.put, List.setIfInBounds_toArray, List.set_cons_zero, List.set_cons_succ]
      refine wpAnyH_take (i := 16) (v := ?vau16) (by rw [List.getElem?_toArray]; rfl) (by kernel_rfl) (by kernel_rfl) (by kernel_rfl) ?qau16 (Or.inl ⟨by rfl, ?yau16⟩) (by assumption) ?rau16
      case qau16 => exact fun _ _ _ h => h
      case yau16 => (intro wz hSw; go_simp; try (with_reducible rfl))
      try simp only [Act.put, List.setIfInBounds_toArray, List.set_cons_zero, List.set_cons_succ]
      refine wpAnyH_take (i := 17) (v := ?vau17) (by rw [List.getElem?_toArray]; rfl) (by kernel_rfl) (by kernel_rfl) (by kernel_rfl) ?qau17 (Or.inl ⟨by rfl, ?yau17⟩) (by assumption) ?rau17
      case qau17 => exact fun _ _ _ h => h
      case yau17 => (intro wz hSw; go_simp; try (with_reducible rfl))
      try simp only [Act.put, List.setIfInBounds_toArray, List.set_cons_zero, List.set_cons_succ]
      refine wpAnyH_take (i := 18) (v := ?vau18) (by rw [List.getElem?_toArray]; rfl) (by kernel_rfl) (by kernel_rfl) (by kernel_rfl) ?qau18 (Or.inl ⟨by rfl, ?yau18⟩) (by assumption) ?rau18
      case qau18 => exact fun _ _ _ h => h
      case yau18 => (intro wz hSw; go_simp; try (with_reducible rfl))
      try simp only [Act.put, List.setIfInBounds_toArray, List.set_cons_zero, List.set_cons_succ]
      refine wpAnyH_take (i := 19) (v := ?vau19) (by rw [List.getElem?_toArray]; rfl) (by kernel_rfl) (by kernel_rfl) (by kernel_rfl) ?qau19 (Or.inl ⟨by rfl, ?yau19⟩) (by assumption) ?rau19
      case qau19 => exact fun _ _ _ h => h
      case yau19 => (intro wz hSw; go_simp; try (with_reducible rfl))
      try simp only [Act.put, List.setIfInBounds_toArray, List.set_cons_zero, List.set_cons_succ]
      refine wpAnyH_take (i := 20) (v := ?vau20) (by rw [List.getElem?_toArray]; rfl) (by kernel_rfl) (by kernel_rfl) (by kernel_rfl) ?qau20 (Or.inl ⟨by rfl, ?yau20⟩) (by assumption) ?rau20
      case qau20 => exact fun _ _ _ h => h
      case yau20 => (intro wz hSw; go_simp; try (with_reducible rfl))
      try simp only [Act.put, List.setIfInBounds_toArray, List.set_cons_zero, List.set_cons_succ]
      refine wpAnyH_take (i := 21) (v := ?vau21) (by rw [List.getElem?_toArray]; rfl) (by kernel_rfl) (by kernel_rfl) (by kernel_rfl) ?qau21 (Or.inl ⟨by rfl, ?yau21⟩) (by assumption) ?rau21
      case qau21 => exact fun _ _ _ h => h
      case yau21 => (intro wz hSw; go_simp; try (with_reducible rfl))
      try simp only [Act.put, List.setIfInBounds_toArray, List.set_cons_zero, List.set_cons_succ]
      refine wpAnyH_take (i := 22) (v := ?vau22) (by rw [List.getElem?_toArray]; rfl) (by kernel_rfl) (by kernel_rfl) (by kernel_rfl) ?qau22 (Or.inl ⟨by rfl, ?yau22⟩) (by assumption) ?rau22
      case qau22 => exact fun _ _ _ h => h
      case yau22 => (intro wz hSw; obtain ⟨q0, q1, q2, q3, q4, q5⟩ := hSw; go_simp; try (with_reducible rfl))
      try simp only [Act.put, List.setIfInBounds_toArray, List.set_cons_zero, List.set_cons_succ]
      refine wpAnyH_take (i := 24) (v := ?vau23) (by rw [List.getElem?_toArray]; rfl) (by kernel_rfl) (by kernel_rfl) (by kernel_rfl) ?qau23 (Or.inl ⟨by rfl, ?yau23⟩) (by assumption) ?rau23
      case qau23 => exact fun _ _ _ h => h
      case yau23 => (intro wz hSw; obtain ⟨q0, q1, q2, q3, q4, q5⟩ := hSw; go_simp; try (with_reducible rfl))
      try simp only [Act.put, List.setIfInBounds_toArray, List.set_cons_zero, List.set_cons_succ]
      refine wpAnyH_ready (rs := [23]) (by kernel_rfl) (by simp) ?_
      refine AllReadyH.cons (by rw [List.getElem?_toArray]; rfl) (fun K hK => ?_) AllReadyH.nil
      clear hHeld
      go_simp
      go_at_call 13; refine (HTo.out _ _ _ _ _ _ _ (HP.out.2.1.keep Y1.out)).mono ?_; rintro e x2 ⟨rfl, b2⟩; have Y2 := Lib.hid (bl_tr Y1.out b2); clear b2
      go_wp2_with fail
      refine hK.out _ _ (box6_keep Y2.out HP.out.1) (fun hHeld => ?_)
      clear hK K
      try simp only [Act.put, List.setIfInBounds_toArray, List.set_cons_zero, List.set_cons_succ]
      refine wpAnyH_ready (rs := [25]) (by kernel_rfl) (by simp) ?_
      refine AllReadyH.cons (by rw [List.getElem?_toArray]; rfl) (fun K hK => ?_) AllReadyH.nil
      clear hHeld
      go_simp
      go_at_call 14; refine (HRT.out _ _ _ _ _ _ _ (HP.out.2.1.keep Y2.out)).mono ?_; rintro e x3 ⟨rfl, b3⟩; have Y3 := Lib.hid (bl_tr Y2.out b3); clear b3
      go_wp2_with fail
      refine hK.out _ _ (box6_keep Y3.out HP.out.1) (fun hHeld => ?_)
      clear hK K
      try simp only [Act.put, List.setIfInBounds_toArray, List.set_cons_zero, List.set_cons_succ]
      refine wpAnyH_take (i := 26) (v := ?vau24) (by rw [List.getElem?_toArray]; rfl) (by kernel_rfl) (by kernel_rfl) (by kernel_rfl) ?qau24 (Or.inl ⟨by rfl, ?yau24⟩) (by assumption) ?rau24
      case qau24 => exact fun _ _ _ h => h
      case yau24 => (intro wz hSw; go_simp; try (with_reducible rfl))
      try simp only [Act.put, List.setIfInBounds_toArray, List.set_cons_zero, List.set_cons_succ]
      refine wpAnyH_take (i := 27) (v := ?vau25) (by rw [List.getElem?_toArray]; rfl) (by kernel_rfl) (by kernel_rfl) (by kernel_rfl) ?qau25 (Or.inl ⟨by rfl, ?yau25⟩) (by assumption) ?rau25
      case qau25 => exact fun _ _ _ h => h
      case yau25 => (intro wz hSw; go_simp; try (with_reducible rfl))
      try simp only [Act.put, List.setIfInBounds_toArray, List.set_cons_zero, List.set_cons_succ]
      refine wpAnyH_take (i := 28) (v := ?vau26) (by rw [List.getElem?_toArray]; rfl) (by kernel_rfl) (by kernel_rfl) (by kernel_rfl) ?qau26 (Or.inl ⟨by rfl, ?yau26⟩) (by assumption) ?rau26
      case qau26 => exact fun _ _ _ h => h
      case yau26 => (intro wz hSw; go_simp; try (with_reducible rfl))
      try simp only [Act.put, List.setIfInBounds_toArray, List.set_cons_zero, List.set_cons_succ]
      refine wpAnyH_take (i := 29) (v := ?vau27) (by rw [List.getElem?_toArray]; rfl) (by kernel_rfl) (by kernel_rfl) (by kernel_rfl) ?qau27 (Or.inl ⟨by rfl, ?yau27⟩) (by assumption) ?rau27
      case qau27 => exact fun _ _ _ h => h
      case yau27 => (intro wz hSw; go_simp; try (with_reducible rfl))
      try simp only [Act.put, List.setIfInBounds_toArray, List.set_cons_zero, List.set_cons_succ]
      refine wpAnyH_take (i := 30) (v := ?vau28) (by rw [List.getElem?_toArray]; rfl) (by kernel_rfl) (by kernel_rfl) (by kernel_rfl) ?qau28 (Or.inl ⟨by rfl, ?yau28⟩) (by assumption) ?rau28
      case qau28 => exact fun _ _ _ h => h
      case yau28 => (intro wz hSw; go_simp; try (with_reducible rfl))
      try simp only [Act.put, List.setIfInBounds_toArray, List.set_cons_zero, List.set_cons_succ]
      refine wpAnyH_take (i := 31) (v := ?vau29) (by rw [List.getElem?_toArray]; rfl) (by kernel_rfl) (by kernel_rfl) (by kernel_rfl) ?qau29 (Or.inl ⟨by rfl, ?yau29⟩) (by assumption) ?rau29
      case qau29 => exact fun _ _ _ h => h
      case yau29 => (intro wz hSw; go_simp; try (with_reducible rfl))
      try simp only [Act.put, List.setIfInBounds_toArray, List.set_cons_zero, List.set_cons_succ]
      refine wpAnyH_take (i := 32) (v := undef) (by rw [List.getElem?_toArray]; rfl) (by kernel_rfl) (by kernel_rfl) (by kernel_rfl) ?qau30 (Or.inr ⟨by rfl, rfl⟩) (by assumption) ?rau30
      case qau30 => exact fun _ _ _ h => h
      try simp only [Act.put, List.setIfInBounds_toArray, List.set_cons_zero, List.set_cons_succ]
      refine wpAnyH_take (i := 33) (v := undef) (by rw [List.getElem?_toArray]; rfl) (by kernel_rfl) (by kernel_rfl) (by kernel_rfl) ?qau31 (Or.inr ⟨by rfl, rfl⟩) (by assumption) ?rau31
      case qau31 => exact fun _ _ _ h => h
      try simp only [Act.put, List.setIfInBounds_toArray, List.set_cons_zero, List.set_cons_succ]
      refine wpAnyH_take (i := 34) (v := undef) (by rw [List.getElem?_toArray]; rfl) (by kernel_rfl) (by kernel_rfl) (by kernel_rfl) ?qau32 (Or.inr ⟨by rfl, rfl⟩) (by assumption) ?rau32
      case qau32 => exact fun _ _ _ h => h
      try simp only [Act.put, List.setIfInBounds_toArray, List.set_cons_zero, List.set_cons_succ]
      refine wpAnyH_take (i := 35) (v := undef) (by rw [List.getElem?_toArray]; rfl) (by kernel_rfl) (by kernel_rfl) (by kernel_rfl) ?qau33 (Or.inr ⟨by rfl, rfl⟩) (by assumption) ?rau33
      case qau33 => exact fun _ _ _ h => h
      try simp only [Act.put, List.setIfInBounds_toArray, List.set_cons_zero, List.set_cons_succ]
      refine wpAnyH_take (i := 36) (v := undef) (by rw [List.getElem?_toArray]; rfl) (by kernel_rfl) (by kernel_rfl) (by kernel_rfl) ?qau34 (Or.inr ⟨by rfl, rfl⟩) (by assumption) ?rau34
      case qau34 => exact fun _ _ _ h => h
      try simp only [Act.put, List.setIfInBounds_toArray, List.set_cons_zero, List.set_cons_succ]
      refine wpAnyH_take (i := 37) (v := ?vau35) (by rw [List.getElem?_toArray]; rfl) (by kernel_rfl) (by kernel_rfl) (by kernel_rfl) ?qau35 (Or.inl ⟨by rfl, ?yau35⟩) (by assumption) ?rau35
      case qau35 => exact fun _ _ _ h => h
      case yau35 => (intro wz hSw; go_simp; try (with_reducible rfl))
      try simp only [Act.put, List.setIfInBounds_toArray, List.set_cons_zero, List.set_cons_succ]
      refine wpAnyH_take (i := 38) (v := ?vau36) (by rw [List.getElem?_toArray]; rfl) (by kernel_rfl) (by kernel_rfl) (by kernel_rfl) ?qau36 (Or.inl ⟨by rfl, ?yau36⟩) (by assumption) ?rau36
      case qau36 => exact fun _ _ _ h => h
      case yau36 => (intro wz hSw; go_simp; try (with_reducible rfl))
      try simp only [Act.put, List.setIfInBounds_toArray, List.set_cons_zero, List.set_cons_succ]
      refine wpAnyH_take (i := 39) (v := ?vau37) (by rw [List.getElem?_toArray]; rfl) (by kernel_rfl) (by kernel_rfl) (by kernel_rfl) ?qau37 (Or.inl ⟨by rfl, ?yau37⟩) (by assumption) ?rau37
      case qau37 => exact fun _ _ _ h => h
      case yau37 => (intro wz hSw; go_simp; try (with_reducible rfl))
      try simp only [Act.put, List.setIfInBounds_toArray, List.set_cons_zero, List.set_cons_succ]
      refine wpAnyH_done (by kernel_rfl) ?_ _
      go_wp2
      go_ret
      exact ⟨by first | rfl | simp, HP.out.2.2.trans (Y3.out.mono HP.out.2.2.size)⟩

    · clear HArg
      simp only [List.length_nil] at *
      go_upto_region 3 with (at_builtin; refine wpList_append_own _ rfl _ _ 22 rfl X.heap.size 3 i0 (.int .i64 0) 1 8 Try.underlying22 hi hz0 hz1 hz2 rfl (by decide) _ _ _ rfl ho ad 0 xc [] rfl rfl (fun j u h => by simp at h) (by simp) (by decide) (by decide) (by simp) ?_)
      intro v' w3 hown hgrow hne
      obtain ⟨g, cap, rfl⟩ := own_form hown (by simpa using hne)
      have BX := Lib.hid ((bl_al (Below.refl _ _) _).grown hgrow (by simp) (fun j hj => by simp [Value.ownBlock] at hj; omega))
      have HX3 := Lib.hid (ints_own (l := []) rfl hown)
      clear hgrow hown hne ho
      obtain ⟨c0, c1, c2, c3, c4, c5⟩ := box6_keep BX.out HP.out.1
      go_wp2_with fail
      refine (HCo.out w3 _ _ _ _ _ _ _ _ (HP.out.2.1.keep BX.out) HX3.out.ints).mono ?_; rintro e w4 ⟨rfl, hb⟩
      have D4 := Lib.hid hb
      have B4 := Lib.hid (bl_tr BX.out hb)
      clear c0 c1 c2 c3 c4 c5 hb
      obtain ⟨c0, c1, c2, c3, c4, c5⟩ := box6_keep B4.out HP.out.1
      go_wp2_with fail
      refine (HVa.out w4 _ _ _ _ _ _ _ _ (HP.out.2.1.keep B4.out) (HX3.out.keep D4.out).ints).mono ?_; rintro e w5 ⟨rfl, hb⟩
      have D5 := Lib.hid (bl_tr D4.out hb)
      have B5 := Lib.hid (bl_tr B4.out hb)
      clear c0 c1 c2 c3 c4 c5 hb
      obtain ⟨c0, c1, c2, c3, c4, c5⟩ := box6_keep B5.out HP.out.1
      go_wp2_with fail
      refine (HRC.out w5 _ _ _ _ _ _ _ _ (HP.out.2.1.keep B5.out) (HX3.out.keep D5.out).ints).mono ?_; rintro e w6 ⟨rfl, hb⟩
      have B6 := Lib.hid (bl_tr B5.out hb)
      clear c0 c1 c2 c3 c4 c5 hb
      obtain ⟨c0, c1, c2, c3, c4, c5⟩ := box6_keep B6.out HP.out.1
      go_wp2
      clear c0 c1 c2 c3 c4 c5
      refine wp_region_held_drew (S := (fun w' => w'.cell? ⟨w.heap.size, 0, none⟩ = some (.int .i64 kd) ∧ w'.cell? ⟨w.heap.size, 1, none⟩ = some (.int .i64 N) ∧ w'.cell? ⟨w.heap.size, 2, none⟩ = some (.int .i64 C) ∧ w'.cell? ⟨w.heap.size, 3, none⟩ = some (.slice (some ⟨g1, 0, none⟩) wl.length k1) ∧ w'.cell? ⟨w.heap.size, 4, none⟩ = some (.slice (some ⟨g2, 0, none⟩) vl.length k2) ∧ w'.cell? ⟨w.heap.size, 5, none⟩ = some (.slice ca' cl.length cc'))) (by kernel_rfl) (box6_keep (bl_tr B6.out (bl_drew _)) HP.out.1) (fun hHeld => ?_)
      refine wpAnyH_ready (rs := [0]) (by kernel_rfl) (by simp) ?_
      refine AllReadyH.cons (by rw [List.getElem?_toArray]; rfl) (fun K hK => ?_) AllReadyH.nil
      clear hHeld
      go_simp
      go_at_call 12; refine (HV.out _).mono ?_; rintro e x1 ⟨rfl, b1⟩; have b1 := bl_undr b1; have Y1 := Lib.hid (bl_tr B6.out b1); clear b1
      go_wp2_with fail
      refine hK.out _ _ (box6_keep Y1.out HP.out.1) (fun hHeld => ?_)
      clear hK K
      try simp only [Act.put, List.setIfInBounds_toArray, List.set_cons_zero, List.set_cons_succ]
      refine wpAnyH_take (i := 1) (v := ?vbu1) (by rw [List.getElem?_toArray]; rfl) (by kernel_rfl) (by kernel_rfl) (by kernel_rfl) ?qbu1 (Or.inl ⟨by rfl, ?ybu1⟩) (by assumption) ?rbu1
      case qbu1 => exact fun _ _ _ h => h
      case ybu1 => (intro wz hSw; go_simp; try (with_reducible rfl))
      try simp only [Act.put, List.setIfInBounds_toArray, List.set_cons_zero, List.set_cons_succ]
      refine wpAnyH_take (i := 2) (v := ?vbu2) (by rw [List.getElem?_toArray]; rfl) (by kernel_rfl) (by kernel_rfl) (by kernel_rfl) ?qbu2 (Or.inl ⟨by rfl, ?ybu2⟩) (by assumption) ?rbu2
      case qbu2 => exact fun _ _ _ h => h
      case ybu2 => (intro wz hSw; go_simp; try (with_reducible rfl))
      try simp only [Act.put, List.setIfInBounds_toArray, List.set_cons_zero, List.set_cons_succ]
      refine wpAnyH_take (i := 3) (v := ?vbu3) (by rw [List.getElem?_toArray]; rfl) (by kernel_rfl) (by kernel_rfl) (by kernel_rfl) ?qbu3 (Or.inl ⟨by rfl, ?ybu3⟩) (by assumption) ?rbu3
      case qbu3 => exact fun _ _ _ h => h
      case ybu3 => (intro wz hSw; go_simp; try (with_reducible rfl))
      try simp only [Act.put, List.setIfInBounds_toArray, List.set_cons_zero, List.set_cons_succ]
      refine wpAnyH_take (i := 4) (v := ?vbu4) (by rw [List.getElem?_toArray]; rfl) (by kernel_rfl) (by kernel_rfl) (by kernel_rfl) ?qbu4 (Or.inl ⟨by rfl, ?ybu4⟩) (by assumption) ?rbu4
      case qbu4 => exact fun _ _ _ h => h
      case ybu4 => (intro wz hSw; go_simp; try (with_reducible rfl))
      try simp only [Act.put, List.setIfInBounds_toArray, List.set_cons_zero, List.set_cons_succ]
      refine wpAnyH_take (i := 5) (v := ?vbu5) (by rw [List.getElem?_toArray]; rfl) (by kernel_rfl) (by kernel_rfl) (by kernel_rfl) ?qbu5 (Or.inl ⟨by rfl, ?ybu5⟩) (by assumption) ?rbu5
      case qbu5 => exact fun _ _ _ h => h
      case ybu5 => (intro wz hSw; go_simp; try (with_reducible rfl))
      try simp only [Act.put, List.setIfInBounds_toArray, List.set_cons_zero, List.set_cons_succ]
      refine wpAnyH_take (i := 6) (v := ?vbu6) (by rw [List.getElem?_toArray]; rfl) (by kernel_rfl) (by kernel_rfl) (by kernel_rfl) ?qbu6 (Or.inl ⟨by rfl, ?ybu6⟩) (by assumption) ?rbu6
      case qbu6 => exact fun _ _ _ h => h
      case ybu6 => (intro wz hSw; go_simp; try (with_reducible rfl))
      try simp only [Act.put, List.setIfInBounds_toArray, List.set_cons_zero, List.set_cons_succ]
      refine wpAnyH_take (i := 7) (v := ?vbu7) (by rw [List.getElem?_toArray]; rfl) (by kernel_rfl) (by kernel_rfl) (by kernel_rfl) ?qbu7 (Or.inl ⟨by rfl, ?ybu7⟩) (by assumption) ?rbu7
      case qbu7 => exact fun _ _ _ h => h
      case ybu7 => (intro wz hSw; go_simp; try (with_reducible rfl))
      try simp only [Act.put, List.setIfInBounds_toArray, List.set_cons_zero, List.set_cons_succ]
      refine wpAnyH_take (i := 8) (v := ?vbu8) (by rw [List.getElem?_toArray]; rfl) (by kernel_rfl) (by kernel_rfl) (by kernel_rfl) ?qbu8 (Or.inl ⟨by rfl, ?ybu8⟩) (by assumption) ?rbu8
      case qbu8 => exact fun _ _ _ h => h
      case ybu8 => (intro wz hSw; go_simp; try (with_reducible rfl))
      try simp only [Act.put, List.setIfInBounds_toArray, List.set_cons_zero, List.set_cons_succ]
      refine wpAnyH_take (i := 9) (v := ?vbu9) (by rw [List.getElem?_toArray]; rfl) (by kernel_rfl) (by kernel_rfl) (by kernel_rfl) ?qbu9 (Or.inl ⟨by rfl, ?ybu9⟩) (by assumption) ?rbu9
      case qbu9 => exact fun _ _ _ h => h
      case ybu9 => (intro wz hSw; go_simp; try (with_reducible rfl))
      try simp only [Act.put, List.setIfInBounds_toArray, List.set_cons_zero, List.set_cons_succ]
      refine wpAnyH_take (i := 10) (v := ?vbu10) (by rw [List.getElem?_toArray]; rfl) (by kernel_rfl) (by kernel_rfl) (by kernel_rfl) ?qbu10 (Or.inl ⟨by rfl, ?ybu10⟩) (by assumption) ?rbu10
      case qbu10 => exact fun _ _ _ h => h
      case ybu10 => (intro wz hSw; go_simp; try (with_reducible rfl))
      try simp only [Act.put, List.setIfInBounds_toArray, List.set_cons_zero, List.set_cons_succ]
      refine wpAnyH_take (i := 11) (v := ?vbu11) (by rw [List.getElem?_toArray]; rfl) (by kernel_rfl) (by kernel_rfl) (by kernel_rfl) ?qbu11 (Or.inl ⟨by rfl, ?ybu11⟩) (by assumption) ?rbu11
      case qbu11 => exact fun _ _ _ h => h
      case ybu11 => (intro wz hSw; go_simp; try (with_reducible rfl))
      try simp only [Act.put, List.setIfInBounds_toArray, List.set_cons_zero, List.set_cons_succ]
      refine wpAnyH_take (i := 12) (v := ?vbu12) (by rw [List.getElem?_toArray]; rfl) (by kernel_rfl) (by kernel_rfl) (by kernel_rfl) ?qbu12 (Or.inl ⟨by rfl, ?ybu12⟩) (by assumption) ?rbu12
      case qbu12 => exact fun _ _ _ h => h
      case ybu12 => (intro wz hSw; go_simp; try (with_reducible rfl))
      try simp only [Act.put, List.setIfInBounds_toArray, List.set_cons_zero, List.set_cons_succ]
      refine wpAnyH_take (i := 13) (v := ?vbu13) (by rw [List.getElem?_toArray]; rfl) (by kernel_rfl) (by kernel_rfl) (by kernel_rfl) ?qbu13 (Or.inl ⟨by rfl, ?ybu13⟩) (by assumption) ?rbu13
      case qbu13 => exact fun _ _ _ h => h
      case ybu13 => (intro wz hSw; go_simp; try (with_reducible rfl))
      try simp only [Act.put, List.setIfInBounds_toArray, List.set_cons_zero, List.set_cons_succ]
      refine wpAnyH_take (i := 14) (v := ?vbu14) (by rw [List.getElem?_toArray]; rfl) (by kernel_rfl) (by kernel_rfl) (by kernel_rfl) ?qbu14 (Or.inl ⟨by rfl, ?ybu14⟩) (by assumption) ?rbu14
      case qbu14 => exact fun _ _ _ h => h
      case ybu14 => (intro wz hSw; go_simp; try (with_reducible rfl))
      try simp only [Act.put, List.setIfInBounds_toArray, List.set_cons_zero, List.set_cons_succ]
      refine wpAnyH_take (i := 15) (v := ?vbu15) (by rw [List.getElem?_toArray]; rfl) (by kernel_rfl) (by kernel_rfl) (by kernel_rfl) ?qbu15 (Or.inl ⟨by rfl, ?ybu15⟩) (by assumption) ?rbu15
      case qbu15 => exact fun _ _ _ h => h
      case ybu15 => (intro wz hSw; go_simp; try (with_reducible rfl))
      try simp only [Act.put, List.setIfInBounds_toArray, List.set_cons_zero, List.set_cons_succ]
      refine wpAnyH_take (i := 16) (v := ?vbu16) (by rw [List.getElem?_toArray]; rfl) (by kernel_rfl) (by kernel_rfl) (by kernel_rfl) ?qbu16 (Or.inl ⟨by rfl, ?ybu16⟩) (by assumption) ?rbu16
      case qbu16 => exact fun _ _ _ h => h
      case ybu16 => (intro wz hSw; go_simp; try (with_reducible rfl))
      try simp only [Act.put, List.setIfInBounds_toArray, List.set_cons_zero, List.set_cons_succ]
      refine wpAnyH_take (i := 17) (v := ?vbu17) (by rw [List.getElem?_toArray]; rfl) (by kernel_rfl) (by kernel_rfl) (by kernel_rfl) ?qbu17 (Or.inl ⟨by rfl, ?ybu17⟩) (by assumption) ?rbu17
      case qbu17 => exact fun _ _ _ h => h
      case ybu17 => (intro wz hSw; go_simp; try (with_reducible rfl))
      try simp only [Act.put, List.setIfInBounds_toArray, List.set_cons_zero, List.set_cons_succ]
      refine wpAnyH_take (i := 18) (v := ?vbu18) (by rw [List.getElem?_toArray]; rfl) (by kernel_rfl) (by kernel_rfl) (by kernel_rfl) ?qbu18 (Or.inl ⟨by rfl, ?ybu18⟩) (by assumption) ?rbu18
      case qbu18 => exact fun _ _ _ h => h
      case ybu18 => (intro wz hSw; go_simp; try (with_reducible rfl))
      try simp only [Act.put, List.setIfInBounds_toArray, List.set_cons_zero, List.set_cons_succ]
      refine wpAnyH_take (i := 19) (v := ?vbu19) (by rw [List.getElem?_toArray]; rfl) (by kernel_rfl) (by kernel_rfl) (by kernel_rfl) ?qbu19 (Or.inl ⟨by rfl, ?ybu19⟩) (by assumption) ?rbu19
      case qbu19 => exact fun _ _ _ h => h
      case ybu19 => (intro wz hSw; go_simp; try (with_reducible rfl))
      try simp only [Act.put, List.setIfInBounds_toArray, List.set_cons_zero, List.set_cons_succ]
      refine wpAnyH_take (i := 20) (v := ?vbu20) (by rw [List.getElem?_toArray]; rfl) (by kernel_rfl) (by kernel_rfl) (by kernel_rfl) ?qbu20 (Or.inl ⟨by rfl, ?ybu20⟩) (by assumption) ?rbu20
      case qbu20 => exact fun _ _ _ h => h
      case ybu20 => (intro wz hSw; go_simp; try (with_reducible rfl))
      try simp only [Act.put, List.setIfInBounds_toArray, List.set_cons_zero, List.set_cons_succ]
      refine wpAnyH_take (i := 21) (v := ?vbu21) (by rw [List.getElem?_toArray]; rfl) (by kernel_rfl) (by kernel_rfl) (by kernel_rfl) ?qbu21 (Or.inl ⟨by rfl, ?ybu21⟩) (by assumption) ?rbu21
      case qbu21 => exact fun _ _ _ h => h
      case ybu21 => (intro wz hSw; go_simp; try (with_reducible rfl))
      try simp only [Act.put, List.setIfInBounds_toArray, List.set_cons_zero, List.set_cons_succ]
      refine wpAnyH_take (i := 22) (v := ?vbu22) (by rw [List.getElem?_toArray]; rfl) (by kernel_rfl) (by kernel_rfl) (by kernel_rfl) ?qbu22 (Or.inl ⟨by rfl, ?ybu22⟩) (by assumption) ?rbu22
      case qbu22 => exact fun _ _ _ h => h
      case ybu22 => (intro wz hSw; obtain ⟨q0, q1, q2, q3, q4, q5⟩ := hSw; go_simp; try (with_reducible rfl))
      try simp only [Act.put, List.setIfInBounds_toArray, List.set_cons_zero, List.set_cons_succ]
      refine wpAnyH_take (i := 24) (v := ?vbu23) (by rw [List.getElem?_toArray]; rfl) (by kernel_rfl) (by kernel_rfl) (by kernel_rfl) ?qbu23 (Or.inl ⟨by rfl, ?ybu23⟩) (by assumption) ?rbu23
      case qbu23 => exact fun _ _ _ h => h
      case ybu23 => (intro wz hSw; obtain ⟨q0, q1, q2, q3, q4, q5⟩ := hSw; go_simp; try (with_reducible rfl))
      try simp only [Act.put, List.setIfInBounds_toArray, List.set_cons_zero, List.set_cons_succ]
      refine wpAnyH_ready (rs := [23]) (by kernel_rfl) (by simp) ?_
      refine AllReadyH.cons (by rw [List.getElem?_toArray]; rfl) (fun K hK => ?_) AllReadyH.nil
      clear hHeld
      go_simp
      go_at_call 13; refine (HTo.out _ _ _ _ _ _ _ (HP.out.2.1.keep Y1.out)).mono ?_; rintro e x2 ⟨rfl, b2⟩; have Y2 := Lib.hid (bl_tr Y1.out b2); clear b2
      go_wp2_with fail
      refine hK.out _ _ (box6_keep Y2.out HP.out.1) (fun hHeld => ?_)
      clear hK K
      try simp only [Act.put, List.setIfInBounds_toArray, List.set_cons_zero, List.set_cons_succ]
      refine wpAnyH_ready (rs := [25]) (by kernel_rfl) (by simp) ?_
      refine AllReadyH.cons (by rw [List.getElem?_toArray]; rfl) (fun K hK => ?_) AllReadyH.nil
      clear hHeld
      go_simp
      go_at_call 14; refine (HRT.out _ _ _ _ _ _ _ (HP.out.2.1.keep Y2.out)).mono ?_; rintro e x3 ⟨rfl, b3⟩; have Y3 := Lib.hid (bl_tr Y2.out b3); clear b3
      go_wp2_with fail
      refine hK.out _ _ (box6_keep Y3.out HP.out.1) (fun hHeld => ?_)
      clear hK K
      try simp only [Act.put, List.setIfInBounds_toArray, List.set_cons_zero, List.set_cons_succ]
      refine wpAnyH_take (i := 26) (v := ?vbu24) (by rw [List.getElem?_toArray]; rfl) (by kernel_rfl) (by kernel_rfl) (by kernel_rfl) ?qbu24 (Or.inl ⟨by rfl, ?ybu24⟩) (by assumption) ?rbu24
      case qbu24 => exact fun _ _ _ h => h
      case ybu24 => (intro wz hSw; go_simp; try (with_reducible rfl))
      try simp only [Act.put, List.setIfInBounds_toArray, List.set_cons_zero, List.set_cons_succ]
      refine wpAnyH_take (i := 27) (v := ?vbu25) (by rw [List.getElem?_toArray]; rfl) (by kernel_rfl) (by kernel_rfl) (by kernel_rfl) ?qbu25 (Or.inl ⟨by rfl, ?ybu25⟩) (by assumption) ?rbu25
      case qbu25 => exact fun _ _ _ h => h
      case ybu25 => (intro wz hSw; go_simp; try (with_reducible rfl))
      try simp only [Act.put, List.setIfInBounds_toArray, List.set_cons_zero, List.set_cons_succ]
      refine wpAnyH_take (i := 28) (v := ?vbu26) (by rw [List.getElem?_toArray]; rfl) (by kernel_rfl) (by kernel_rfl) (by kernel_rfl) ?qbu26 (Or.inl ⟨by rfl, ?ybu26⟩) (by assumption) ?rbu26
      case qbu26 => exact fun _ _ _ h => h
      case ybu26 => (intro wz hSw; go_simp; try (with_reducible rfl))
      try simp only [Act.put, List.setIfInBounds_toArray, List.set_cons_zero, List.set_cons_succ]
      refine wpAnyH_take (i := 29) (v := ?vbu27) (by rw [List.getElem?_toArray]; rfl) (by kernel_rfl) (by kernel_rfl) (by kernel_rfl) ?qbu27 (Or.inl ⟨by rfl, ?ybu27⟩) (by assumption) ?rbu27
      case qbu27 => exact fun _ _ _ h => h
      case ybu27 => (intro wz hSw; go_simp; try (with_reducible rfl))
      try simp only [Act.put, List.setIfInBounds_toArray, List.set_cons_zero, List.set_cons_succ]
      refine wpAnyH_take (i := 30) (v := ?vbu28) (by rw [List.getElem?_toArray]; rfl) (by kernel_rfl) (by kernel_rfl) (by kernel_rfl) ?qbu28 (Or.inl ⟨by rfl, ?ybu28⟩) (by assumption) ?rbu28
      case qbu28 => exact fun _ _ _ h => h
      case ybu28 => (intro wz hSw; go_simp; try (with_reducible rfl))
      try simp only [Act.put, List.setIfInBounds_toArray, List.set_cons_zero, List.set_cons_succ]
      refine wpAnyH_take (i := 31) (v := ?vbu29) (by rw [List.getElem?_toArray]; rfl) (by kernel_rfl) (by kernel_rfl) (by kernel_rfl) ?qbu29 (Or.inl ⟨by rfl, ?ybu29⟩) (by assumption) ?rbu29
      case qbu29 => exact fun _ _ _ h => h
      case ybu29 => (intro wz hSw; go_simp; try (with_reducible rfl))
      try simp only [Act.put, List.setIfInBounds_toArray, List.set_cons_zero, List.set_cons_succ]
      refine wpAnyH_take (i := 32) (v := undef) (by rw [List.getElem?_toArray]; rfl) (by kernel_rfl) (by kernel_rfl) (by kernel_rfl) ?qbu30 (Or.inr ⟨by rfl, rfl⟩) (by assumption) ?rbu30
      case qbu30 => exact fun _ _ _ h => h
      try simp only [Act.put, List.setIfInBounds_toArray, List.set_cons_zero, List.set_cons_succ]
      refine wpAnyH_take (i := 33) (v := undef) (by rw [List.getElem?_toArray]; rfl) (by kernel_rfl) (by kernel_rfl) (by kernel_rfl) ?qbu31 (Or.inr ⟨by rfl, rfl⟩) (by assumption) ?rbu31
      case qbu31 => exact fun _ _ _ h => h
      try simp only [Act.put, List.setIfInBounds_toArray, List.set_cons_zero, List.set_cons_succ]
      refine wpAnyH_take (i := 34) (v := undef) (by rw [List.getElem?_toArray]; rfl) (by kernel_rfl) (by kernel_rfl) (by kernel_rfl) ?qbu32 (Or.inr ⟨by rfl, rfl⟩) (by assumption) ?rbu32
      case qbu32 => exact fun _ _ _ h => h
      try simp only [Act.put, List.setIfInBounds_toArray, List.set_cons_zero, List.set_cons_succ]
      refine wpAnyH_take (i := 35) (v := undef) (by rw [List.getElem?_toArray]; rfl) (by kernel_rfl) (by kernel_rfl) (by kernel_rfl) ?qbu33 (Or.inr ⟨by rfl, rfl⟩) (by assumption) ?rbu33
      case qbu33 => exact fun _ _ _ h => h
      try simp only [Act.put, List.setIfInBounds_toArray, List.set_cons_zero, List.set_cons_succ]
      refine wpAnyH_take (i := 36) (v := undef) (by rw [List.getElem?_toArray]; rfl) (by kernel_rfl) (by kernel_rfl) (by kernel_rfl) ?qbu34 (Or.inr ⟨by rfl, rfl⟩) (by assumption) ?rbu34
      case qbu34 => exact fun _ _ _ h => h
      try simp only [Act.put, List.setIfInBounds_toArray, List.set_cons_zero, List.set_cons_succ]
      refine wpAnyH_take (i := 37) (v := ?vbu35) (by rw [List.getElem?_toArray]; rfl) (by kernel_rfl) (by kernel_rfl) (by kernel_rfl) ?qbu35 (Or.inl ⟨by rfl, ?ybu35⟩) (by assumption) ?rbu35
      case qbu35 => exact fun _ _ _ h => h
      case ybu35 => (intro wz hSw; go_simp; try (with_reducible rfl))
      try simp only [Act.put, List.setIfInBounds_toArray, List.set_cons_zero, List.set_cons_succ]
      refine wpAnyH_take (i := 38) (v := ?vbu36) (by rw [List.getElem?_toArray]; rfl) (by kernel_rfl) (by kernel_rfl) (by kernel_rfl) ?qbu36 (Or.inl ⟨by rfl, ?ybu36⟩) (by assumption) ?rbu36
      case qbu36 => exact fun _ _ _ h => h
      case ybu36 => (intro wz hSw; go_simp; try (with_reducible rfl))
      try simp only [Act.put, List.setIfInBounds_toArray, List.set_cons_zero, List.set_cons_succ]
      refine wpAnyH_take (i := 39) (v := ?vbu37) (by rw [List.getElem?_toArray]; rfl) (by kernel_rfl) (by kernel_rfl) (by kernel_rfl) ?qbu37 (Or.inl ⟨by rfl, ?ybu37⟩) (by assumption) ?rbu37
      case qbu37 => exact fun _ _ _ h => h
      case ybu37 => (intro wz hSw; go_simp; try (with_reducible rfl))
      try simp only [Act.put, List.setIfInBounds_toArray, List.set_cons_zero, List.set_cons_succ]
      refine wpAnyH_done (by kernel_rfl) ?_ _
      go_wp2
      go_ret
      exact ⟨by first | rfl | simp, HP.out.2.2.trans (Y3.out.mono HP.out.2.2.size)⟩

    · clear HArg
      have hmn : min (xn : Int) 70 = (xn : Int) := by omega
      have HNs := Lib.hid (app_src q3 q4)
      clear q4
      go_upto_region 3 with (at_builtin; refine wpList_append_own _ rfl _ _ 22 rfl X.heap.size 3 i0 (.int .i64 0) 1 8 Try.underlying22 hi hz0 hz1 hz2 rfl (by decide) _ _ _ rfl ho ⟨b, o, none⟩ _ xc (x.map (Value.int .i64)) rfl (by simp [q6]) HNs.out (by simp [Value.oneCell']) (by unfold maxLen; omega) (by omega) (by simp) ?_)
      intro v' w3 hown hgrow hne
      obtain ⟨g, cap, rfl⟩ := own_form hown hne
      have BX := Lib.hid ((bl_al (Below.refl _ _) _).grown hgrow (by simp) (fun j hj => by simp [Value.ownBlock] at hj; omega))
      have HX3 := Lib.hid (ints_own q6 (by simpa using hown))
      clear hgrow hown hne ho HNs
      rw [q6] at HCo HVa HRC
      clear q6 hmn
      obtain ⟨c0, c1, c2, c3, c4, c5⟩ := box6_keep BX.out HP.out.1
      go_wp2_with fail
      refine (HCo.out w3 _ _ _ _ _ _ _ _ (HP.out.2.1.keep BX.out) HX3.out.ints).mono ?_; rintro e w4 ⟨rfl, hb⟩
      have D4 := Lib.hid hb
      have B4 := Lib.hid (bl_tr BX.out hb)
      clear c0 c1 c2 c3 c4 c5 hb
      obtain ⟨c0, c1, c2, c3, c4, c5⟩ := box6_keep B4.out HP.out.1
      go_wp2_with fail
      refine (HVa.out w4 _ _ _ _ _ _ _ _ (HP.out.2.1.keep B4.out) (HX3.out.keep D4.out).ints).mono ?_; rintro e w5 ⟨rfl, hb⟩
      have D5 := Lib.hid (bl_tr D4.out hb)
      have B5 := Lib.hid (bl_tr B4.out hb)
      clear c0 c1 c2 c3 c4 c5 hb
      obtain ⟨c0, c1, c2, c3, c4, c5⟩ := box6_keep B5.out HP.out.1
      go_wp2_with fail
      refine (HRC.out w5 _ _ _ _ _ _ _ _ (HP.out.2.1.keep B5.out) (HX3.out.keep D5.out).ints).mono ?_; rintro e w6 ⟨rfl, hb⟩
      have B6 := Lib.hid (bl_tr B5.out hb)
      clear c0 c1 c2 c3 c4 c5 hb
      obtain ⟨c0, c1, c2, c3, c4, c5⟩ := box6_keep B6.out HP.out.1
      go_wp2
      clear c0 c1 c2 c3 c4 c5
      refine wp_region_held_drew (S := (fun w' => w'.cell? ⟨w.heap.size, 0, none⟩ = some (.int .i64 kd) ∧ w'.cell? ⟨w.heap.size, 1, none⟩ = some (.int .i64 N) ∧ w'.cell? ⟨w.heap.size, 2, none⟩ = some (.int .i64 C) ∧ w'.cell? ⟨w.heap.size, 3, none⟩ = some (.slice (some ⟨g1, 0, none⟩) wl.length k1) ∧ w'.cell? ⟨w.heap.size, 4, none⟩ = some (.slice (some ⟨g2, 0, none⟩) vl.length k2) ∧ w'.cell? ⟨w.heap.size, 5, none⟩ = some (.slice ca' cl.length cc'))) (by kernel_rfl) (box6_keep (bl_tr B6.out (bl_drew _)) HP.out.1) (fun hHeld => ?_)
      refine wpAnyH_ready (rs := [0]) (by kernel_rfl) (by simp) ?_
      refine AllReadyH.cons (by rw [List.getElem?_toArray]; rfl) (fun K hK => ?_) AllReadyH.nil
      clear hHeld
      go_simp
      go_at_call 12; refine (HV.out _).mono ?_; rintro e x1 ⟨rfl, b1⟩; have b1 := bl_undr b1; have Y1 := Lib.hid (bl_tr B6.out b1); clear b1
      go_wp2_with fail
      refine hK.out _ _ (box6_keep Y1.out HP.out.1) (fun hHeld => ?_)
      clear hK K
      try simp only [Act.put, List.setIfInBounds_toArray, List.set_cons_zero, List.set_cons_succ]
      refine wpAnyH_take (i := 1) (v := ?vcu1) (by rw [List.getElem?_toArray]; rfl) (by kernel_rfl) (by kernel_rfl) (by kernel_rfl) ?qcu1 (Or.inl ⟨by rfl, ?ycu1⟩) (by assumption) ?rcu1
      case qcu1 => exact fun _ _ _ h => h
      case ycu1 => (intro wz hSw; go_simp; try (with_reducible rfl))
      try simp only [Act.put, List.setIfInBounds_toArray, List.set_cons_zero, List.set_cons_succ]
      refine wpAnyH_take (i := 2) (v := ?vcu2) (by rw [List.getElem?_toArray]; rfl) (by kernel_rfl) (by kernel_rfl) (by kernel_rfl) ?qcu2 (Or.inl ⟨by rfl, ?ycu2⟩) (by assumption) ?rcu2
      case qcu2 => exact fun _ _ _ h => h
      case ycu2 => (intro wz hSw; go_simp; try (with_reducible rfl))
      try simp only [Act.put, List.setIfInBounds_toArray, List.set_cons_zero, List.set_cons_succ]
      refine wpAnyH_take (i := 3) (v := ?vcu3) (by rw [List.getElem?_toArray]; rfl) (by kernel_rfl) (by kernel_rfl) (by kernel_rfl) ?qcu3 (Or.inl ⟨by rfl, ?ycu3⟩) (by assumption) ?rcu3
      case qcu3 => exact fun _ _ _ h => h
      case ycu3 => (intro wz hSw; go_simp; try (with_reducible rfl))
      try simp only [Act.put, List.setIfInBounds_toArray, List.set_cons_zero, List.set_cons_succ]
      refine wpAnyH_take (i := 4) (v := ?vcu4) (by rw [List.getElem?_toArray]; rfl) (by kernel_rfl) (by kernel_rfl) (by kernel_rfl) ?qcu4 (Or.inl ⟨by rfl, ?ycu4⟩) (by assumption) ?rcu4
      case qcu4 => exact fun _ _ _ h => h
      case ycu4 => (intro wz hSw; go_simp; try (with_reducible rfl))
      try simp only [Act.put, List.setIfInBounds_toArray, List.set_cons_zero, List.set_cons_succ]
      refine wpAnyH_take (i := 5) (v := ?vcu5) (by rw [List.getElem?_toArray]; rfl) (by kernel_rfl) (by kernel_rfl) (by kernel_rfl) ?qcu5 (Or.inl ⟨by rfl, ?ycu5⟩) (by assumption) ?rcu5
      case qcu5 => exact fun _ _ _ h => h
      case ycu5 => (intro wz hSw; go_simp; try (with_reducible rfl))
      try simp only [Act.put, List.setIfInBounds_toArray, List.set_cons_zero, List.set_cons_succ]
      refine wpAnyH_take (i := 6) (v := ?vcu6) (by rw [List.getElem?_toArray]; rfl) (by kernel_rfl) (by kernel_rfl) (by kernel_rfl) ?qcu6 (Or.inl ⟨by rfl, ?ycu6⟩) (by assumption) ?rcu6
      case qcu6 => exact fun _ _ _ h => h
      case ycu6 => (intro wz hSw; go_simp; try (with_reducible rfl))
      try simp only [Act.put, List.setIfInBounds_toArray, List.set_cons_zero, List.set_cons_succ]
      refine wpAnyH_take (i := 7) (v := ?vcu7) (by rw [List.getElem?_toArray]; rfl) (by kernel_rfl) (by kernel_rfl) (by kernel_rfl) ?qcu7 (Or.inl ⟨by rfl, ?ycu7⟩) (by assumption) ?rcu7
      case qcu7 => exact fun _ _ _ h => h
      case ycu7 => (intro wz hSw; go_simp; try (with_reducible rfl))
      try simp only [Act.put, List.setIfInBounds_toArray, List.set_cons_zero, List.set_cons_succ]
      refine wpAnyH_take (i := 8) (v := ?vcu8) (by rw [List.getElem?_toArray]; rfl) (by kernel_rfl) (by kernel_rfl) (by kernel_rfl) ?qcu8 (Or.inl ⟨by rfl, ?ycu8⟩) (by assumption) ?rcu8
      case qcu8 => exact fun _ _ _ h => h
      case ycu8 => (intro wz hSw; go_simp; try (with_reducible rfl))
      try simp only [Act.put, List.setIfInBounds_toArray, List.set_cons_zero, List.set_cons_succ]
      refine wpAnyH_take (i := 9) (v := ?vcu9) (by rw [List.getElem?_toArray]; rfl) (by kernel_rfl) (by kernel_rfl) (by kernel_rfl) ?qcu9 (Or.inl ⟨by rfl, ?ycu9⟩) (by assumption) ?rcu9
      case qcu9 => exact fun _ _ _ h => h
      case ycu9 => (intro wz hSw; go_simp; try (with_reducible rfl))
      try simp only [Act.put, List.setIfInBounds_toArray, List.set_cons_zero, List.set_cons_succ]
      refine wpAnyH_take (i := 10) (v := ?vcu10) (by rw [List.getElem?_toArray]; rfl) (by kernel_rfl) (by kernel_rfl) (by kernel_rfl) ?qcu10 (Or.inl ⟨by rfl, ?ycu10⟩) (by assumption) ?rcu10
      case qcu10 => exact fun _ _ _ h => h
      case ycu10 => (intro wz hSw; go_simp; try (with_reducible rfl))
      try simp only [Act.put, List.setIfInBounds_toArray, List.set_cons_zero, List.set_cons_succ]
      refine wpAnyH_take (i := 11) (v := ?vcu11) (by rw [List.getElem?_toArray]; rfl) (by kernel_rfl) (by kernel_rfl) (by kernel_rfl) ?qcu11 (Or.inl ⟨by rfl, ?ycu11⟩) (by assumption) ?rcu11
      case qcu11 => exact fun _ _ _ h => h
      case ycu11 => (intro wz hSw; go_simp; try (with_reducible rfl))
      try simp only [Act.put, List.setIfInBounds_toArray, List.set_cons_zero, List.set_cons_succ]
      refine wpAnyH_take (i := 12) (v := ?vcu12) (by rw [List.getElem?_toArray]; rfl) (by kernel_rfl) (by kernel_rfl) (by kernel_rfl) ?qcu12 (Or.inl ⟨by rfl, ?ycu12⟩) (by assumption) ?rcu12
      case qcu12 => exact fun _ _ _ h => h
      case ycu12 => (intro wz hSw; go_simp; try (with_reducible rfl))
      try simp only [Act.put, List.setIfInBounds_toArray, List.set_cons_zero, List.set_cons_succ]
      refine wpAnyH_take (i := 13) (v := ?vcu13) (by rw [List.getElem?_toArray]; rfl) (by kernel_rfl) (by kernel_rfl) (by kernel_rfl) ?qcu13 (Or.inl ⟨by rfl, ?ycu13⟩) (by assumption) ?rcu13
      case qcu13 => exact fun _ _ _ h => h
      case ycu13 => (intro wz hSw; go_simp; try (with_reducible rfl))
      try simp only [Act.put, List.setIfInBounds_toArray, List.set_cons_zero, List.set_cons_succ]
      refine wpAnyH_take (i := 14) (v := ?vcu14) (by rw [List.getElem?_toArray]; rfl) (by kernel_rfl) (by kernel_rfl) (by kernel_rfl) ?qcu14 (Or.inl ⟨by rfl, ?ycu14⟩) (by assumption) ?rcu14
      case qcu14 => exact fun _ _ _ h => h
      case ycu14 => (intro wz hSw; go_simp; try (with_reducible rfl))
      try simp only [Act.put, List.setIfInBounds_toArray, List.set_cons_zero, List.set_cons_succ]
      refine wpAnyH_take (i := 15) (v := ?vcu15) (by rw [List.getElem?_toArray]; rfl) (by kernel_rfl) (by kernel_rfl) (by kernel_rfl) ?qcu15 (Or.inl ⟨by rfl, ?ycu15⟩) (by assumption) ?rcu15
      case qcu15 => exact fun _ _ _ h => h
      case ycu15 => (intro wz hSw; go_simp; try (with_reducible rfl))
      try simp only [Act.put, List.setIfInBounds_toArray, List.set_cons_zero, List.set_cons_succ]
      refine wpAnyH_take (i := 16) (v := ?vcu16) (by rw [List.getElem?_toArray]; rfl) (by kernel_rfl) (by kernel_rfl) (by kernel_rfl) ?qcu16 (Or.inl ⟨by rfl, ?ycu16⟩) (by assumption) ?rcu16
      case qcu16 => exact fun _ _ _ h => h
      case ycu16 => (intro wz hSw; go_simp; try (with_reducible rfl))
      try simp only [Act.put, List.setIfInBounds_toArray, List.set_cons_zero, List.set_cons_succ]
      refine wpAnyH_take (i := 17) (v := ?vcu17) (by rw [List.getElem?_toArray]; rfl) (by kernel_rfl) (by kernel_rfl) (by kernel_rfl) ?qcu17 (Or.inl ⟨by rfl, ?ycu17⟩) (by assumption) ?rcu17
      case qcu17 => exact fun _ _ _ h => h
      case ycu17 => (intro wz hSw; go_simp; try (with_reducible rfl))
      try simp only [Act.put, List.setIfInBounds_toArray, List.set_cons_zero, List.set_cons_succ]
      refine wpAnyH_take (i := 18) (v := ?vcu18) (by rw [List.getElem?_toArray]; rfl) (by kernel_rfl) (by kernel_rfl) (by kernel_rfl) ?qcu18 (Or.inl ⟨by rfl, ?ycu18⟩) (by assumption) ?rcu18
      case qcu18 => exact fun _ _ _ h => h
      case ycu18 => (intro wz hSw; go_simp; try (with_reducible rfl))
      try simp only [Act.put, List.setIfInBounds_toArray, List.set_cons_zero, List.set_cons_succ]
      refine wpAnyH_take (i := 19) (v := ?vcu19) (by rw [List.getElem?_toArray]; rfl) (by kernel_rfl) (by kernel_rfl) (by kernel_rfl) ?qcu19 (Or.inl ⟨by rfl, ?ycu19⟩) (by assumption) ?rcu19
      case qcu19 => exact fun _ _ _ h => h
      case ycu19 => (intro wz hSw; go_simp; try (with_reducible rfl))
      try simp only [Act.put, List.setIfInBounds_toArray, List.set_cons_zero, List.set_cons_succ]
      refine wpAnyH_take (i := 20) (v := ?vcu20) (by rw [List.getElem?_toArray]; rfl) (by kernel_rfl) (by kernel_rfl) (by kernel_rfl) ?qcu20 (Or.inl ⟨by rfl, ?ycu20⟩) (by assumption) ?rcu20
      case qcu20 => exact fun _ _ _ h => h
      case ycu20 => (intro wz hSw; go_simp; try (with_reducible rfl))
      try simp only [Act.put, List.setIfInBounds_toArray, List.set_cons_zero, List.set_cons_succ]
      refine wpAnyH_take (i := 21) (v := ?vcu21) (by rw [List.getElem?_toArray]; rfl) (by kernel_rfl) (by kernel_rfl) (by kernel_rfl) ?qcu21 (Or.inl ⟨by rfl, ?ycu21⟩) (by assumption) ?rcu21
      case qcu21 => exact fun _ _ _ h => h
      case ycu21 => (intro wz hSw; go_simp; try (with_reducible rfl))
      try simp only [Act.put, List.setIfInBounds_toArray, List.set_cons_zero, List.set_cons_succ]
      refine wpAnyH_take (i := 22) (v := ?vcu22) (by rw [List.getElem?_toArray]; rfl) (by kernel_rfl) (by kernel_rfl) (by kernel_rfl) ?qcu22 (Or.inl ⟨by rfl, ?ycu22⟩) (by assumption) ?rcu22
      case qcu22 => exact fun _ _ _ h => h
      case ycu22 => (intro wz hSw; obtain ⟨q0, q1, q2, q3, q4, q5⟩ := hSw; go_simp; try (with_reducible rfl))
      try simp only [Act.put, List.setIfInBounds_toArray, List.set_cons_zero, List.set_cons_succ]
      refine wpAnyH_take (i := 24) (v := ?vcu23) (by rw [List.getElem?_toArray]; rfl) (by kernel_rfl) (by kernel_rfl) (by kernel_rfl) ?qcu23 (Or.inl ⟨by rfl, ?ycu23⟩) (by assumption) ?rcu23
      case qcu23 => exact fun _ _ _ h => h
      case ycu23 => (intro wz hSw; obtain ⟨q0, q1, q2, q3, q4, q5⟩ := hSw; go_simp; try (with_reducible rfl))
      try simp only [Act.put, List.setIfInBounds_toArray, List.set_cons_zero, List.set_cons_succ]
      refine wpAnyH_ready (rs := [23]) (by kernel_rfl) (by simp) ?_
      refine AllReadyH.cons (by rw [List.getElem?_toArray]; rfl) (fun K hK => ?_) AllReadyH.nil
      clear hHeld
      go_simp
      go_at_call 13; refine (HTo.out _ _ _ _ _ _ _ (HP.out.2.1.keep Y1.out)).mono ?_; rintro e x2 ⟨rfl, b2⟩; have Y2 := Lib.hid (bl_tr Y1.out b2); clear b2
      go_wp2_with fail
      refine hK.out _ _ (box6_keep Y2.out HP.out.1) (fun hHeld => ?_)
      clear hK K
      try simp only [Act.put, List.setIfInBounds_toArray, List.set_cons_zero, List.set_cons_succ]
      refine wpAnyH_ready (rs := [25]) (by kernel_rfl) (by simp) ?_
      refine AllReadyH.cons (by rw [List.getElem?_toArray]; rfl) (fun K hK => ?_) AllReadyH.nil
      clear hHeld
      go_simp
      go_at_call 14; refine (HRT.out _ _ _ _ _ _ _ (HP.out.2.1.keep Y2.out)).mono ?_; rintro e x3 ⟨rfl, b3⟩; have Y3 := Lib.hid (bl_tr Y2.out b3); clear b3
      go_wp2_with fail
      refine hK.out _ _ (box6_keep Y3.out HP.out.1) (fun hHeld => ?_)
      clear hK K
      try simp only [Act.put, List.setIfInBounds_toArray, List.set_cons_zero, List.set_cons_succ]
      refine wpAnyH_take (i := 26) (v := ?vcu24) (by rw [List.getElem?_toArray]; rfl) (by kernel_rfl) (by kernel_rfl) (by kernel_rfl) ?qcu24 (Or.inl ⟨by rfl, ?ycu24⟩) (by assumption) ?rcu24
      case qcu24 => exact fun _ _ _ h => h
      case ycu24 => (intro wz hSw; go_simp; try (with_reducible rfl))
      try simp only [Act.put, List.setIfInBounds_toArray, List.set_cons_zero, List.set_cons_succ]
      refine wpAnyH_take (i := 27) (v := ?vcu25) (by rw [List.getElem?_toArray]; rfl) (by kernel_rfl) (by kernel_rfl) (by kernel_rfl) ?qcu25 (Or.inl ⟨by rfl, ?ycu25⟩) (by assumption) ?rcu25
      case qcu25 => exact fun _ _ _ h => h
      case ycu25 => (intro wz hSw; go_simp; try (with_reducible rfl))
      try simp only [Act.put, List.setIfInBounds_toArray, List.set_cons_zero, List.set_cons_succ]
      refine wpAnyH_take (i := 28) (v := ?vcu26) (by rw [List.getElem?_toArray]; rfl) (by kernel_rfl) (by kernel_rfl) (by kernel_rfl) ?qcu26 (Or.inl ⟨by rfl, ?ycu26⟩) (by assumption) ?rcu26
      case qcu26 => exact fun _ _ _ h => h
      case ycu26 => (intro wz hSw; go_simp; try (with_reducible rfl))
      try simp only [Act.put, List.setIfInBounds_toArray, List.set_cons_zero, List.set_cons_succ]
      refine wpAnyH_take (i := 29) (v := ?vcu27) (by rw [List.getElem?_toArray]; rfl) (by kernel_rfl) (by kernel_rfl) (by kernel_rfl) ?qcu27 (Or.inl ⟨by rfl, ?ycu27⟩) (by assumption) ?rcu27
      case qcu27 => exact fun _ _ _ h => h
      case ycu27 => (intro wz hSw; go_simp; try (with_reducible rfl))
      try simp only [Act.put, List.setIfInBounds_toArray, List.set_cons_zero, List.set_cons_succ]
      refine wpAnyH_take (i := 30) (v := ?vcu28) (by rw [List.getElem?_toArray]; rfl) (by kernel_rfl) (by kernel_rfl) (by kernel_rfl) ?qcu28 (Or.inl ⟨by rfl, ?ycu28⟩) (by assumption) ?rcu28
      case qcu28 => exact fun _ _ _ h => h
      case ycu28 => (intro wz hSw; go_simp; try (with_reducible rfl))
      try simp only [Act.put, List.setIfInBounds_toArray, List.set_cons_zero, List.set_cons_succ]
      refine wpAnyH_take (i := 31) (v := ?vcu29) (by rw [List.getElem?_toArray]; rfl) (by kernel_rfl) (by kernel_rfl) (by kernel_rfl) ?qcu29 (Or.inl ⟨by rfl, ?ycu29⟩) (by assumption) ?rcu29
      case qcu29 => exact fun _ _ _ h => h
      case ycu29 => (intro wz hSw; go_simp; try (with_reducible rfl))
      try simp only [Act.put, List.setIfInBounds_toArray, List.set_cons_zero, List.set_cons_succ]
      refine wpAnyH_take (i := 32) (v := undef) (by rw [List.getElem?_toArray]; rfl) (by kernel_rfl) (by kernel_rfl) (by kernel_rfl) ?qcu30 (Or.inr ⟨by rfl, rfl⟩) (by assumption) ?rcu30
      case qcu30 => exact fun _ _ _ h => h
      try simp only [Act.put, List.setIfInBounds_toArray, List.set_cons_zero, List.set_cons_succ]
      refine wpAnyH_take (i := 33) (v := undef) (by rw [List.getElem?_toArray]; rfl) (by kernel_rfl) (by kernel_rfl) (by kernel_rfl) ?qcu31 (Or.inr ⟨by rfl, rfl⟩) (by assumption) ?rcu31
      case qcu31 => exact fun _ _ _ h => h
      try simp only [Act.put, List.setIfInBounds_toArray, List.set_cons_zero, List.set_cons_succ]
      refine wpAnyH_take (i := 34) (v := undef) (by rw [List.getElem?_toArray]; rfl) (by kernel_rfl) (by kernel_rfl) (by kernel_rfl) ?qcu32 (Or.inr ⟨by rfl, rfl⟩) (by assumption) ?rcu32
      case qcu32 => exact fun _ _ _ h => h
      try simp only [Act.put, List.setIfInBounds_toArray, List.set_cons_zero, List.set_cons_succ]
      refine wpAnyH_take (i := 35) (v := undef) (by rw [List.getElem?_toArray]; rfl) (by kernel_rfl) (by kernel_rfl) (by kernel_rfl) ?qcu33 (Or.inr ⟨by rfl, rfl⟩) (by assumption) ?rcu33
      case qcu33 => exact fun _ _ _ h => h
      try simp only [Act.put, List.setIfInBounds_toArray, List.set_cons_zero, List.set_cons_succ]
      refine wpAnyH_take (i := 36) (v := undef) (by rw [List.getElem?_toArray]; rfl) (by kernel_rfl) (by kernel_rfl) (by kernel_rfl) ?qcu34 (Or.inr ⟨by rfl, rfl⟩) (by assumption) ?rcu34
      case qcu34 => exact fun _ _ _ h => h
      try simp only [Act.put, List.setIfInBounds_toArray, List.set_cons_zero, List.set_cons_succ]
      refine wpAnyH_take (i := 37) (v := ?vcu35) (by rw [List.getElem?_toArray]; rfl) (by kernel_rfl) (by kernel_rfl) (by kernel_rfl) ?qcu35 (Or.inl ⟨by rfl, ?ycu35⟩) (by assumption) ?rcu35
      case qcu35 => exact fun _ _ _ h => h
      case ycu35 => (intro wz hSw; go_simp; try (with_reducible rfl))
      try simp only [Act.put, List.setIfInBounds_toArray, List.set_cons_zero, List.set_cons_succ]
      refine wpAnyH_take (i := 38) (v := ?vcu36) (by rw [List.getElem?_toArray]; rfl) (by kernel_rfl) (by kernel_rfl) (by kernel_rfl) ?qcu36 (Or.inl ⟨by rfl, ?ycu36⟩) (by assumption) ?rcu36
      case qcu36 => exact fun _ _ _ h => h
      case ycu36 => (intro wz hSw; go_simp; try (with_reducible rfl))
      try simp only [Act.put, List.setIfInBounds_toArray, List.set_cons_zero, List.set_cons_succ]
      refine wpAnyH_take (i := 39) (v := ?vcu37) (by rw [List.getElem?_toArray]; rfl) (by kernel_rfl) (by kernel_rfl) (by kernel_rfl) ?qcu37 (Or.inl ⟨by rfl, ?ycu37⟩) (by assumption) ?rcu37
      case qcu37 => exact fun _ _ _ h => h
      case ycu37 => (intro wz hSw; go_simp; try (with_reducible rfl))
      try simp only [Act.put, List.setIfInBounds_toArray, List.set_cons_zero, List.set_cons_succ]
      refine wpAnyH_done (by kernel_rfl) ?_ _
      go_wp2
      go_ret
      exact ⟨by first | rfl | simp, HP.out.2.2.trans (Y3.out.mono HP.out.2.2.size)⟩

    · clear HArg
      have hmn : min (xn : Int) 70 = 70 := by omega
      have HNs := Lib.hid (app_src q3 q4)
      clear q4
      go_upto_region 3 with (at_builtin; refine wpList_append_own _ rfl _ _ 22 rfl X.heap.size 3 i0 (.int .i64 0) 1 8 Try.underlying22 hi hz0 hz1 hz2 rfl (by decide) _ _ _ rfl ho ⟨b, o, none⟩ _ xc (x.map (Value.int .i64)) rfl (by simp [q6]) HNs.out (by simp [Value.oneCell']) (by unfold maxLen; omega) (by omega) (by simp) ?_)
      intro v' w3 hown hgrow hne
      obtain ⟨g, cap, rfl⟩ := own_form hown hne
      have BX := Lib.hid ((bl_al (Below.refl _ _) _).grown hgrow (by simp) (fun j hj => by simp [Value.ownBlock] at hj; omega))
      have HX3 := Lib.hid (ints_own q6 (by simpa using hown))
      clear hgrow hown hne ho HNs
      rw [q6] at HCo HVa HRC
      clear q6 hmn
      obtain ⟨c0, c1, c2, c3, c4, c5⟩ := box6_keep BX.out HP.out.1
      go_wp2_with fail
      refine (HCo.out w3 _ _ _ _ _ _ _ _ (HP.out.2.1.keep BX.out) HX3.out.ints).mono ?_; rintro e w4 ⟨rfl, hb⟩
      have D4 := Lib.hid hb
      have B4 := Lib.hid (bl_tr BX.out hb)
      clear c0 c1 c2 c3 c4 c5 hb
      obtain ⟨c0, c1, c2, c3, c4, c5⟩ := box6_keep B4.out HP.out.1
      go_wp2_with fail
      refine (HVa.out w4 _ _ _ _ _ _ _ _ (HP.out.2.1.keep B4.out) (HX3.out.keep D4.out).ints).mono ?_; rintro e w5 ⟨rfl, hb⟩
      have D5 := Lib.hid (bl_tr D4.out hb)
      have B5 := Lib.hid (bl_tr B4.out hb)
      clear c0 c1 c2 c3 c4 c5 hb
      obtain ⟨c0, c1, c2, c3, c4, c5⟩ := box6_keep B5.out HP.out.1
      go_wp2_with fail
      refine (HRC.out w5 _ _ _ _ _ _ _ _ (HP.out.2.1.keep B5.out) (HX3.out.keep D5.out).ints).mono ?_; rintro e w6 ⟨rfl, hb⟩
      have B6 := Lib.hid (bl_tr B5.out hb)
      clear c0 c1 c2 c3 c4 c5 hb
      obtain ⟨c0, c1, c2, c3, c4, c5⟩ := box6_keep B6.out HP.out.1
      go_wp2
      clear c0 c1 c2 c3 c4 c5
      refine wp_region_held_drew (S := (fun w' => w'.cell? ⟨w.heap.size, 0, none⟩ = some (.int .i64 kd) ∧ w'.cell? ⟨w.heap.size, 1, none⟩ = some (.int .i64 N) ∧ w'.cell? ⟨w.heap.size, 2, none⟩ = some (.int .i64 C) ∧ w'.cell? ⟨w.heap.size, 3, none⟩ = some (.slice (some ⟨g1, 0, none⟩) wl.length k1) ∧ w'.cell? ⟨w.heap.size, 4, none⟩ = some (.slice (some ⟨g2, 0, none⟩) vl.length k2) ∧ w'.cell? ⟨w.heap.size, 5, none⟩ = some (.slice ca' cl.length cc'))) (by kernel_rfl) (box6_keep (bl_tr B6.out (bl_drew _)) HP.out.1) (fun hHeld => ?_)
      refine wpAnyH_ready (rs := [0]) (by kernel_rfl) (by simp) ?_
      refine AllReadyH.cons (by rw [List.getElem?_toArray]; rfl) (fun K hK => ?_) AllReadyH.nil
      clear hHeld
      go_simp
      go_at_call 12; refine (HV.out _).mono ?_; rintro e x1 ⟨rfl, b1⟩; have b1 := bl_undr b1; have Y1 := Lib.hid (bl_tr B6.out b1); clear b1
      go_wp2_with fail
      refine hK.out _ _ (box6_keep Y1.out HP.out.1) (fun hHeld => ?_)
      clear hK K
      try simp only [Act.put, List.setIfInBounds_toArray, List.set_cons_zero, List.set_cons_succ]
      refine wpAnyH_take (i := 1) (v := ?vdu1) (by rw [List.getElem?_toArray]; rfl) (by kernel_rfl) (by kernel_rfl) (by kernel_rfl) ?qdu1 (Or.inl ⟨by rfl, ?ydu1⟩) (by assumption) ?rdu1
      case qdu1 => exact fun _ _ _ h => h
      case ydu1 => (intro wz hSw; go_simp; try (with_reducible rfl))
      try simp only [Act.put, List.setIfInBounds_toArray, List.set_cons_zero, List.set_cons_succ]
      refine wpAnyH_take (i := 2) (v := ?vdu2) (by rw [List.getElem?_toArray]; rfl) (by kernel_rfl) (by kernel_rfl) (by kernel_rfl) ?qdu2 (Or.inl ⟨by rfl, ?ydu2⟩) (by assumption) ?rdu2
      case qdu2 => exact fun _ _ _ h => h
      case ydu2 => (intro wz hSw; go_simp; try (with_reducible rfl))
      try simp only [Act.put, List.setIfInBounds_toArray, List.set_cons_zero, List.set_cons_succ]
      refine wpAnyH_take (i := 3) (v := ?vdu3) (by rw [List.getElem?_toArray]; rfl) (by kernel_rfl) (by kernel_rfl) (by kernel_rfl) ?qdu3 (Or.inl ⟨by rfl, ?ydu3⟩) (by assumption) ?rdu3
      case qdu3 => exact fun _ _ _ h => h
      case ydu3 => (intro wz hSw; go_simp; try (with_reducible rfl))
      try simp only [Act.put, List.setIfInBounds_toArray, List.set_cons_zero, List.set_cons_succ]
      refine wpAnyH_take (i := 4) (v := ?vdu4) (by rw [List.getElem?_toArray]; rfl) (by kernel_rfl) (by kernel_rfl) (by kernel_rfl) ?qdu4 (Or.inl ⟨by rfl, ?ydu4⟩) (by assumption) ?rdu4
      case qdu4 => exact fun _ _ _ h => h
      case ydu4 => (intro wz hSw; go_simp; try (with_reducible rfl))
      try simp only [Act.put, List.setIfInBounds_toArray, List.set_cons_zero, List.set_cons_succ]
      refine wpAnyH_take (i := 5) (v := ?vdu5) (by rw [List.getElem?_toArray]; rfl) (by kernel_rfl) (by kernel_rfl) (by kernel_rfl) ?qdu5 (Or.inl ⟨by rfl, ?ydu5⟩) (by assumption) ?rdu5
      case qdu5 => exact fun _ _ _ h => h
      case ydu5 => (intro wz hSw; go_simp; try (with_reducible rfl))
      try simp only [Act.put, List.setIfInBounds_toArray, List.set_cons_zero, List.set_cons_succ]
      refine wpAnyH_take (i := 6) (v := ?vdu6) (by rw [List.getElem?_toArray]; rfl) (by kernel_rfl) (by kernel_rfl) (by kernel_rfl) ?qdu6 (Or.inl ⟨by rfl, ?ydu6⟩) (by assumption) ?rdu6
      case qdu6 => exact fun _ _ _ h => h
      case ydu6 => (intro wz hSw; go_simp; try (with_reducible rfl))
      try simp only [Act.put, List.setIfInBounds_toArray, List.set_cons_zero, List.set_cons_succ]
      refine wpAnyH_take (i := 7) (v := ?vdu7) (by rw [List.getElem?_toArray]; rfl) (by kernel_rfl) (by kernel_rfl) (by kernel_rfl) ?qdu7 (Or.inl ⟨by rfl, ?ydu7⟩) (by assumption) ?rdu7
      case qdu7 => exact fun _ _ _ h => h
      case ydu7 => (intro wz hSw; go_simp; try (with_reducible rfl))
      try simp only [Act.put, List.setIfInBounds_toArray, List.set_cons_zero, List.set_cons_succ]
      refine wpAnyH_take (i := 8) (v := ?vdu8) (by rw [List.getElem?_toArray]; rfl) (by kernel_rfl) (by kernel_rfl) (by kernel_rfl) ?qdu8 (Or.inl ⟨by rfl, ?ydu8⟩) (by assumption) ?rdu8
      case qdu8 => exact fun _ _ _ h => h
      case ydu8 => (intro wz hSw; go_simp; try (with_reducible rfl))
      try simp only [Act.put, List.setIfInBounds_toArray, List.set_cons_zero, List.set_cons_succ]
      refine wpAnyH_take (i := 9) (v := ?vdu9) (by rw [List.getElem?_toArray]; rfl) (by kernel_rfl) (by kernel_rfl) (by kernel_rfl) ?qdu9 (Or.inl ⟨by rfl, ?ydu9⟩) (by assumption) ?rdu9
      case qdu9 => exact fun _ _ _ h => h
      case ydu9 => (intro wz hSw; go_simp; try (with_reducible rfl))
      try simp only [Act.put, List.setIfInBounds_toArray, List.set_cons_zero, List.set_cons_succ]
      refine wpAnyH_take (i := 10) (v := ?vdu10) (by rw [List.getElem?_toArray]; rfl) (by kernel_rfl) (by kernel_rfl) (by kernel_rfl) ?qdu10 (Or.inl ⟨by rfl, ?ydu10⟩) (by assumption) ?rdu10
      case qdu10 => exact fun _ _ _ h => h
      case ydu10 => (intro wz hSw; go_simp; try (with_reducible rfl))
      try simp only [Act.put, List.setIfInBounds_toArray, List.set_cons_zero, List.set_cons_succ]
      refine wpAnyH_take (i := 11) (v := ?vdu11) (by rw [List.getElem?_toArray]; rfl) (by kernel_rfl) (by kernel_rfl) (by kernel_rfl) ?qdu11 (Or.inl ⟨by rfl, ?ydu11⟩) (by assumption) ?rdu11
      case qdu11 => exact fun _ _ _ h => h
      case ydu11 => (intro wz hSw; go_simp; try (with_reducible rfl))
      try simp only [Act.put, List.setIfInBounds_toArray, List.set_cons_zero, List.set_cons_succ]
      refine wpAnyH_take (i := 12) (v := ?vdu12) (by rw [List.getElem?_toArray]; rfl) (by kernel_rfl) (by kernel_rfl) (by kernel_rfl) ?qdu12 (Or.inl ⟨by rfl, ?ydu12⟩) (by assumption) ?rdu12
      case qdu12 => exact fun _ _ _ h => h
      case ydu12 => (intro wz hSw; go_simp; try (with_reducible rfl))
      try simp only [Act.put, List.setIfInBounds_toArray, List.set_cons_zero, List.set_cons_succ]
      refine wpAnyH_take (i := 13) (v := ?vdu13) (by rw [List.getElem?_toArray]; rfl) (by kernel_rfl) (by kernel_rfl) (by kernel_rfl) ?qdu13 (Or.inl ⟨by rfl, ?ydu13⟩) (by assumption) ?rdu13
      case qdu13 => exact fun _ _ _ h => h
      case ydu13 => (intro wz hSw; go_simp; try (with_reducible rfl))
      try simp only [Act.put, List.setIfInBounds_toArray, List.set_cons_zero, List.set_cons_succ]
      refine wpAnyH_take (i := 14) (v := ?vdu14) (by rw [List.getElem?_toArray]; rfl) (by kernel_rfl) (by kernel_rfl) (by kernel_rfl) ?qdu14 (Or.inl ⟨by rfl, ?ydu14⟩) (by assumption) ?rdu14
      case qdu14 => exact fun _ _ _ h => h
      case ydu14 => (intro wz hSw; go_simp; try (with_reducible rfl))
      try simp only [Act.put, List.setIfInBounds_toArray, List.set_cons_zero, List.set_cons_succ]
      refine wpAnyH_take (i := 15) (v := ?vdu15) (by rw [List.getElem?_toArray]; rfl) (by kernel_rfl) (by kernel_rfl) (by kernel_rfl) ?qdu15 (Or.inl ⟨by rfl, ?ydu15⟩) (by assumption) ?rdu15
      case qdu15 => exact fun _ _ _ h => h
      case ydu15 => (intro wz hSw; go_simp; try (with_reducible rfl))
      try simp only [Act.put, List.setIfInBounds_toArray, List.set_cons_zero, List.set_cons_succ]
      refine wpAnyH_take (i := 16) (v := ?vdu16) (by rw [List.getElem?_toArray]; rfl) (by kernel_rfl) (by kernel_rfl) (by kernel_rfl) ?qdu16 (Or.inl ⟨by rfl, ?ydu16⟩) (by assumption) ?rdu16
      case qdu16 => exact fun _ _ _ h => h
      case ydu16 => (intro wz hSw; go_simp; try (with_reducible rfl))
      try simp only [Act.put, List.setIfInBounds_toArray, List.set_cons_zero, List.set_cons_succ]
      refine wpAnyH_take (i := 17) (v := ?vdu17) (by rw [List.getElem?_toArray]; rfl) (by kernel_rfl) (by kernel_rfl) (by kernel_rfl) ?qdu17 (Or.inl ⟨by rfl, ?ydu17⟩) (by assumption) ?rdu17
      case qdu17 => exact fun _ _ _ h => h
      case ydu17 => (intro wz hSw; go_simp; try (with_reducible rfl))
      try simp only [Act.put, List.setIfInBounds_toArray, List.set_cons_zero, List.set_cons_succ]
      refine wpAnyH_take (i := 18) (v := ?vdu18) (by rw [List.getElem?_toArray]; rfl) (by kernel_rfl) (by kernel_rfl) (by kernel_rfl) ?qdu18 (Or.inl ⟨by rfl, ?ydu18⟩) (by assumption) ?rdu18
      case qdu18 => exact fun _ _ _ h => h
      case ydu18 => (intro wz hSw; go_simp; try (with_reducible rfl))
      try simp only [Act.put, List.setIfInBounds_toArray, List.set_cons_zero, List.set_cons_succ]
      refine wpAnyH_take (i := 19) (v := ?vdu19) (by rw [List.getElem?_toArray]; rfl) (by kernel_rfl) (by kernel_rfl) (by kernel_rfl) ?qdu19 (Or.inl ⟨by rfl, ?ydu19⟩) (by assumption) ?rdu19
      case qdu19 => exact fun _ _ _ h => h
      case ydu19 => (intro wz hSw; go_simp; try (with_reducible rfl))
      try simp only [Act.put, List.setIfInBounds_toArray, List.set_cons_zero, List.set_cons_succ]
      refine wpAnyH_take (i := 20) (v := ?vdu20) (by rw [List.getElem?_toArray]; rfl) (by kernel_rfl) (by kernel_rfl) (by kernel_rfl) ?qdu20 (Or.inl ⟨by rfl, ?ydu20⟩) (by assumption) ?rdu20
      case qdu20 => exact fun _ _ _ h => h
      case ydu20 => (intro wz hSw; go_simp; try (with_reducible rfl))
      try simp only [Act.put, List.setIfInBounds_toArray, List.set_cons_zero, List.set_cons_succ]
      refine wpAnyH_take (i := 21) (v := ?vdu21) (by rw [List.getElem?_toArray]; rfl) (by kernel_rfl) (by kernel_rfl) (by kernel_rfl) ?qdu21 (Or.inl ⟨by rfl, ?ydu21⟩) (by assumption) ?rdu21
      case qdu21 => exact fun _ _ _ h => h
      case ydu21 => (intro wz hSw; go_simp; try (with_reducible rfl))
      try simp only [Act.put, List.setIfInBounds_toArray, List.set_cons_zero, List.set_cons_succ]
      refine wpAnyH_take (i := 22) (v := ?vdu22) (by rw [List.getElem?_toArray]; rfl) (by kernel_rfl) (by kernel_rfl) (by kernel_rfl) ?qdu22 (Or.inl ⟨by rfl, ?ydu22⟩) (by assumption) ?rdu22
      case qdu22 => exact fun _ _ _ h => h
      case ydu22 => (intro wz hSw; obtain ⟨q0, q1, q2, q3, q4, q5⟩ := hSw; go_simp; try (with_reducible rfl))
      try simp only [Act.put, List.setIfInBounds_toArray, List.set_cons_zero, List.set_cons_succ]
      refine wpAnyH_take (i := 24) (v := ?vdu23) (by rw [List.getElem?_toArray]; rfl) (by kernel_rfl) (by kernel_rfl) (by kernel_rfl) ?qdu23 (Or.inl ⟨by rfl, ?ydu23⟩) (by assumption) ?rdu23
      case qdu23 => exact fun _ _ _ h => h
      case ydu23 => (intro wz hSw; obtain ⟨q0, q1, q2, q3, q4, q5⟩ := hSw; go_simp; try (with_reducible rfl))
      try simp only [Act.put, List.setIfInBounds_toArray, List.set_cons_zero, List.set_cons_succ]
      refine wpAnyH_ready (rs := [23]) (by kernel_rfl) (by simp) ?_
      refine AllReadyH.cons (by rw [List.getElem?_toArray]; rfl) (fun K hK => ?_) AllReadyH.nil
      clear hHeld
      go_simp
      go_at_call 13; refine (HTo.out _ _ _ _ _ _ _ (HP.out.2.1.keep Y1.out)).mono ?_; rintro e x2 ⟨rfl, b2⟩; have Y2 := Lib.hid (bl_tr Y1.out b2); clear b2
      go_wp2_with fail
      refine hK.out _ _ (box6_keep Y2.out HP.out.1) (fun hHeld => ?_)
      clear hK K
      try simp only [Act.put, List.setIfInBounds_toArray, List.set_cons_zero, List.set_cons_succ]
      refine wpAnyH_ready (rs := [25]) (by kernel_rfl) (by simp) ?_
      refine AllReadyH.cons (by rw [List.getElem?_toArray]; rfl) (fun K hK => ?_) AllReadyH.nil
      clear hHeld
      go_simp
      go_at_call 14; refine (HRT.out _ _ _ _ _ _ _ (HP.out.2.1.keep Y2.out)).mono ?_; rintro e x3 ⟨rfl, b3⟩; have Y3 := Lib.hid (bl_tr Y2.out b3); clear b3
      go_wp2_with fail
      refine hK.out _ _ (box6_keep Y3.out HP.out.1) (fun hHeld => ?_)
      clear hK K
      try simp only [Act.put, List.setIfInBounds_toArray, List.set_cons_zero, List.set_cons_succ]
      refine wpAnyH_take (i := 26) (v := ?vdu24) (by rw [List.getElem?_toArray]; rfl) (by kernel_rfl) (by kernel_rfl) (by kernel_rfl) ?qdu24 (Or.inl ⟨by rfl, ?ydu24⟩) (by assumption) ?rdu24
      case qdu24 => exact fun _ _ _ h => h
      case ydu24 => (intro wz hSw; go_simp; try (with_reducible rfl))
      try simp only [Act.put, List.setIfInBounds_toArray, List.set_cons_zero, List.set_cons_succ]
      refine wpAnyH_take (i := 27) (v := ?vdu25) (by rw [List.getElem?_toArray]; rfl) (by kernel_rfl) (by kernel_rfl) (by kernel_rfl) ?qdu25 (Or.inl ⟨by rfl, ?ydu25⟩) (by assumption) ?rdu25
      case qdu25 => exact fun _ _ _ h => h
      case ydu25 => (intro wz hSw; go_simp; try (with_reducible rfl))
      try simp only [Act.put, List.setIfInBounds_toArray, List.set_cons_zero, List.set_cons_succ]
      refine wpAnyH_take (i := 28) (v := ?vdu26) (by rw [List.getElem?_toArray]; rfl) (by kernel_rfl) (by kernel_rfl) (by kernel_rfl) ?qdu26 (Or.inl ⟨by rfl, ?ydu26⟩) (by assumption) ?rdu26
      case qdu26 => exact fun _ _ _ h => h
      case ydu26 => (intro wz hSw; go_simp; try (with_reducible rfl))
      try simp only [Act.put, List.setIfInBounds_toArray, List.set_cons_zero, List.set_cons_succ]
      refine wpAnyH_take (i := 29) (v := ?vdu27) (by rw [List.getElem?_toArray]; rfl) (by kernel_rfl) (by kernel_rfl) (by kernel_rfl) ?qdu27 (Or.inl ⟨by rfl, ?ydu27⟩) (by assumption) ?rdu27
      case qdu27 => exact fun _ _ _ h => h
      case ydu27 => (intro wz hSw; go_simp; try (with_reducible rfl))
      try simp only [Act.put, List.setIfInBounds_toArray, List.set_cons_zero, List.set_cons_succ]
      refine wpAnyH_take (i := 30) (v := ?vdu28) (by rw [List.getElem?_toArray]; rfl) (by kernel_rfl) (by kernel_rfl) (by kernel_rfl) ?qdu28 (Or.inl ⟨by rfl, ?ydu28⟩) (by assumption) ?rdu28
      case qdu28 => exact fun _ _ _ h => h
      case ydu28 => (intro wz hSw; go_simp; try (with_reducible rfl))
      try simp only [Act.put, List.setIfInBounds_toArray, List.set_cons_zero, List.set_cons_succ]
      refine wpAnyH_take (i := 31) (v := ?vdu29) (by rw [List.getElem?_toArray]; rfl) (by kernel_rfl) (by kernel_rfl) (by kernel_rfl) ?qdu29 (Or.inl ⟨by rfl, ?ydu29⟩) (by assumption) ?rdu29
      case qdu29 => exact fun _ _ _ h => h
      case ydu29 => (intro wz hSw; go_simp; try (with_reducible rfl))
      try simp only [Act.put, List.setIfInBounds_toArray, List.set_cons_zero, List.set_cons_succ]
      refine wpAnyH_take (i := 32) (v := undef) (by rw [List.getElem?_toArray]; rfl) (by kernel_rfl) (by kernel_rfl) (by kernel_rfl) ?qdu30 (Or.inr ⟨by rfl, rfl⟩) (by assumption) ?rdu30
      case qdu30 => exact fun _ _ _ h => h
      try simp only [Act.put, List.setIfInBounds_toArray, List.set_cons_zero, List.set_cons_succ]
      refine wpAnyH_take (i := 33) (v := undef) (by rw [List.getElem?_toArray]; rfl) (by kernel_rfl) (by kernel_rfl) (by kernel_rfl) ?qdu31 (Or.inr ⟨by rfl, rfl⟩) (by assumption) ?rdu31
      case qdu31 => exact fun _ _ _ h => h
      try simp only [Act.put, List.setIfInBounds_toArray, List.set_cons_zero, List.set_cons_succ]
      refine wpAnyH_take (i := 34) (v := undef) (by rw [List.getElem?_toArray]; rfl) (by kernel_rfl) (by kernel_rfl) (by kernel_rfl) ?qdu32 (Or.inr ⟨by rfl, rfl⟩) (by assumption) ?rdu32
      case qdu32 => exact fun _ _ _ h => h
      try simp only [Act.put, List.setIfInBounds_toArray, List.set_cons_zero, List.set_cons_succ]
      refine wpAnyH_take (i := 35) (v := undef) (by rw [List.getElem?_toArray]; rfl) (by kernel_rfl) (by kernel_rfl) (by kernel_rfl) ?qdu33 (Or.inr ⟨by rfl, rfl⟩) (by assumption) ?rdu33
      case qdu33 => exact fun _ _ _ h => h
      try simp only [Act.put, List.setIfInBounds_toArray, List.set_cons_zero, List.set_cons_succ]
      refine wpAnyH_take (i := 36) (v := undef) (by rw [List.getElem?_toArray]; rfl) (by kernel_rfl) (by kernel_rfl) (by kernel_rfl) ?qdu34 (Or.inr ⟨by rfl, rfl⟩) (by assumption) ?rdu34
      case qdu34 => exact fun _ _ _ h => h
      try simp only [Act.put, List.setIfInBounds_toArray, List.set_cons_zero, List.set_cons_succ]
      refine wpAnyH_take (i := 37) (v := ?vdu35) (by rw [List.getElem?_toArray]; rfl) (by kernel_rfl) (by kernel_rfl) (by kernel_rfl) ?qdu35 (Or.inl ⟨by rfl, ?ydu35⟩) (by assumption) ?rdu35
      case qdu35 => exact fun _ _ _ h => h
      case ydu35 => (intro wz hSw; go_simp; try (with_reducible rfl))
      try simp only [Act.put, List.setIfInBounds_toArray, List.set_cons_zero, List.set_cons_succ]
      refine wpAnyH_take (i := 38) (v := ?vdu36) (by rw [List.getElem?_toArray]; rfl) (by kernel_rfl) (by kernel_rfl) (by kernel_rfl) ?qdu36 (Or.inl ⟨by rfl, ?ydu36⟩) (by assumption) ?rdu36
      case qdu36 => exact fun _ _ _ h => h
      case ydu36 => (intro wz hSw; go_simp; try (with_reducible rfl))
      try simp only [Act.put, List.setIfInBounds_toArray, List.set_cons_zero, List.set_cons_succ]
      refine wpAnyH_take (i := 39) (v := ?vdu37) (by rw [List.getElem?_toArray]; rfl) (by kernel_rfl) (by kernel_rfl) (by kernel_rfl) ?qdu37 (Or.inl ⟨by rfl, ?ydu37⟩) (by assumption) ?rdu37
      case qdu37 => exact fun _ _ _ h => h
      case ydu37 => (intro wz hSw; go_simp; try (with_reducible rfl))
      try simp only [Act.put, List.setIfInBounds_toArray, List.set_cons_zero, List.set_cons_succ]
      refine wpAnyH_done (by kernel_rfl) ?_ _
      go_wp2
      go_ret
      exact ⟨by first | rfl | simp, HP.out.2.2.trans (Y3.out.mono HP.out.2.2.size)⟩


end Go.Proofs.Ytfpffggeehmedaa

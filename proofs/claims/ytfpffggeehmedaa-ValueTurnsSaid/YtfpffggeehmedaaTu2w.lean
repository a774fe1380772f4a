/-
  kurganlaw08.ValueTurns at an assignment, walked.
-/
import Derived.Test.YtfpffggeehmedaaTu2
namespace Go.Proofs.Ytfpffggeehmedaa
open Go.RowKit
open kc (IO RwsC)
set_option linter.unusedVariables false
set_option maxRecDepth 100000 in
set_option maxHeartbeats 16000000 in
theorem turn_rows (n : Nat) (C : Int) (wl vl : List Int) (cl : List (List Int)) (wa va ca : Option Addr) (wn vn cn wc vc cc : Nat) (x : List Int) (xa : Option Addr) (xn xc : Nat) (w : World) (h1 : Src w wa wn wc wl) (h2 : Src w va vn vc vl) (h3 : RSrc w ca cn cc cl) (h4 : Src w xa xn xc x) (hF : Fm 2 n C wl vl cl) (hx : okx 2 n x) :
    Calls Try.prog 6 #[.agg #[.int .i64 2, .int .i64 n, .int .i64 C, .slice wa wn wc, .slice va vn vc, .slice ca cn cc], .slice xa xn xc] w fun e w' => e = .returned (.bool true) ∧ Below w.heap.size w w' := by
  obtain ⟨i0, hi, hz0, hz1, hz2⟩ := info_parts info3
  have bA : Below w.heap.size w (w.alloc (.cells #[.int .i64 2, .int .i64 n, .int .i64 C, .slice wa wn wc, .slice va vn vc, .slice ca cn cc] 25)) := bl_al (Below.refl _ _) _
  have HC := Lib.hid (kc.refcopy_any 2 n C wl vl cl wa va ca wn vn cn wc vc cc _ (h1.keep bA) (h2.keep bA) (h3.keep bA))
  have HB := Lib.hid bA
  have l1 : wl.length ≤ 70 := by have := h1.1; omega
  have l2 : vl.length ≤ 70 := by have := h2.1; omega
  have l3 := (rsrc_len h3).1
  have HL3 := Lib.hid (rsrc_len h3).2
  have hx70 : x.length ≤ 70 := by have := h4.1; omega
  have HV := Lib.hid (fun W => vals_walk W)
  have HArg := Lib.hid (fun W (hb : Below w.heap.size w W) => arg_of (h4.keep hb))
  have HCo := Lib.hid (fun W (a b c xa : Option Addr) (k1 k2 k3 xc : Nat) (h : Prob W wl vl cl a b c) (hI : Ints W xa x) => cost_any 2 n C wl vl cl x a b c xa k1 k2 k3 xc W h hI (by omega))
  have n1 := hF.n1
  obtain ⟨a1, a2, a3, a4, a5, a6⟩ := hF.rs (by decide)
  have HXL := Lib.hid (show x.length = n by have := hx.1; omega)
  have HFR := Lib.hid (show cl.length = n ∧ (∀ a, a < n → (cl[a]?.getD []).length = n) ∧ 1 ≤ n ∧ n ≤ 24 from ⟨a5, fun a ha => (a6 a ha).1, n1, a1⟩)
  have HW := Lib.hid (And.intro a3 a4)
  have HT := Lib.hid (rows_turn hF hx)
  have he : (costR 2 n C wl vl cl x).2 = 0 := by rw [cost_rows hF.chk hx]
  have HCT := Lib.hid (fun W (a b c xa : Option Addr) (k1 k2 k3 xc : Nat) (y : List Int) (hy : y.length ≤ 1000) (h : Prob W wl vl cl.reverse a b c) (hI : Ints W xa y) => cost_any 2 n C wl vl cl.reverse y a b c xa k1 k2 k3 xc W h hI hy)
  rw [List.length_reverse] at HCT
  generalize hcr : costR 2 n C wl vl cl x = cr at *
  obtain ⟨co, er⟩ := cr
  clear hcr
  simp only at HCo he
  subst he
  clear a2 a3 a4 a5 a6 hF hx
  clear h1 h2 h3 bA h4
  go_enter Try.func6, Try.ntmps6
  go_wp2_with fail
  refine HC.out.mono ?_; rintro e w1 ⟨g1, k1, g2, k2, ca', cc', rfl, hb, i1, i2, rw⟩
  have q0 : w1.heap[w.heap.size]? = some (.cells #[.int .i64 2, .int .i64 n, .int .i64 C, .slice wa wn wc, .slice va vn vc, .slice ca cn cc] 25 (0, 0)) := (hb.block _ (by simp)).trans (heap_alloc_new w _)
  have HP := Lib.hid (store_tu (K := 2) (N := n) (C := C) (k1 := k1) (k2 := k2) (cc := cc') (Nat.le_refl _) q0 (bl_tr HB.out hb) i1 i2 rw (by omega) (by omega) (by omega) _ rfl)
  obtain ⟨c0, c1, c2, c3, c4, c5⟩ := box6 q0
  have cf := fr6 q0
  have hs := lt_hp q0
  clear hb i1 i2 rw q0 HC HB
  go_upto_region 2 with fail
  clear c0 c1 c2 c3 c4 c5 cf hs
  generalize ((((((w1.setCell ⟨w.heap.size, 0, none⟩ (.int .i64 2)).setCell ⟨w.heap.size, 1, none⟩ (.int .i64 n)).setCell ⟨w.heap.size, 2, none⟩ (.int .i64 C)).setCell ⟨w.heap.size, 3, none⟩ (.slice (some ⟨g1, 0, none⟩) wl.length k1)).setCell ⟨w.heap.size, 4, none⟩ (.slice (some ⟨g2, 0, none⟩) vl.length k2)).setCell ⟨w.heap.size, 5, none⟩ (.slice ca' cl.length cc')) = X at HP ⊢
  have ho := own0 X
  have HA := Lib.hid (HArg.out X HP.out.2.2.1)
  clear HArg
  go_cut [1] from 18 (fun v1 wx => ∃ gx cx, v1 = .slice (some ⟨gx, 0, none⟩) x.length cx ∧ Hid (Below X.heap.size X wx) ∧ Hid (IO X.heap.size wx gx cx x))
  case first =>
    clear HCo HV HCT HT HW HFR
    rcases HA.out with ⟨rfl, rfl, rfl, rfl⟩ | ⟨ad, rfl, rfl, q2, rfl⟩ | ⟨b, o, rfl, q1, q2, q3, q4, ⟨q5, q6⟩ | ⟨q5, q6⟩⟩
    · have HX3 : Hid (IO X.heap.size (X.alloc (.cells #[] 3)) X.heap.size 0 []) := Lib.hid ⟨nil_own X, by simp, by simp, Nat.le_refl _⟩
      have BX := Lib.hid (bl_al (Below.refl X.heap.size X) (.cells #[] 3))
      clear ho HA HP
      simp only [List.length_nil] at *
      go_wp2
      go_meet
      exact ⟨_, _, rfl, BX, HX3⟩
    · clear HA HP
      simp only [List.length_nil] at *
      go_wp2_with (at_builtin; refine wpList_append_own _ rfl _ _ 22 rfl X.heap.size 3 i0 (.int .i64 0) 1 8 Try.underlying22 hi hz0 hz1 hz2 rfl (by decide) _ _ _ rfl ho ad 0 xc [] rfl rfl (fun j u h => by simp at h) (by simp) (by decide) (by decide) (by simp) ?_)
      intro v' w3 hown hgrow hne
      obtain ⟨g, cap, rfl⟩ := own_form hown (by simpa using hne)
      have BX := Lib.hid ((bl_al (Below.refl _ _) _).grown hgrow (by simp) (fun j hj => by simp [Value.ownBlock] at hj; omega))
      have HX3 := Lib.hid (kc.own_io (B := X.heap.size) (l := []) (Nat.le_refl _) hown)
      clear hgrow hown hne ho
      go_wp2
      go_meet
      exact ⟨_, _, rfl, BX, HX3⟩
    · have hmn : min (xn : Int) 70 = (xn : Int) := by omega
      have HNs := Lib.hid (app_src q3 q4)
      clear q4 HA HP
      go_wp2_with (at_builtin; refine wpList_append_own _ rfl _ _ 22 rfl X.heap.size 3 i0 (.int .i64 0) 1 8 Try.underlying22 hi hz0 hz1 hz2 rfl (by decide) _ _ _ rfl ho ⟨b, o, none⟩ _ xc (x.map (Value.int .i64)) rfl (by simp [q6]) HNs.out (by simp [Value.oneCell']) (by unfold maxLen; omega) (by omega) (by simp) ?_)
      intro v' w3 hown hgrow hne
      obtain ⟨g, cap, rfl⟩ := own_form hown hne
      have BX := Lib.hid ((bl_al (Below.refl _ _) _).grown hgrow (by simp) (fun j hj => by simp [Value.ownBlock] at hj; omega))
      have HX3 := Lib.hid (kc.own_io (B := X.heap.size) (l := x) (cap := cap) (g := g) (Nat.le_refl _) (by rw [q6]; simpa using hown))
      clear hgrow hown hne ho HNs
      go_wp2
      go_meet
      exact ⟨_, _, by simp [q6], BX, HX3⟩
    · have hmn : min (xn : Int) 70 = 70 := by omega
      have HNs := Lib.hid (app_src q3 q4)
      clear q4 HA HP
      go_wp2_with (at_builtin; refine wpList_append_own _ rfl _ _ 22 rfl X.heap.size 3 i0 (.int .i64 0) 1 8 Try.underlying22 hi hz0 hz1 hz2 rfl (by decide) _ _ _ rfl ho ⟨b, o, none⟩ _ xc (x.map (Value.int .i64)) rfl (by simp [q6]) HNs.out (by simp [Value.oneCell']) (by unfold maxLen; omega) (by omega) (by simp) ?_)
      intro v' w3 hown hgrow hne
      obtain ⟨g, cap, rfl⟩ := own_form hown hne
      have BX := Lib.hid ((bl_al (Below.refl _ _) _).grown hgrow (by simp) (fun j hj => by simp [Value.ownBlock] at hj; omega))
      have HX3 := Lib.hid (kc.own_io (B := X.heap.size) (l := x) (cap := cap) (g := g) (Nat.le_refl _) (by rw [q6]; simpa using hown))
      clear hgrow hown hne ho HNs
      go_wp2
      go_meet
      exact ⟨_, _, by simp [q6], BX, HX3⟩
  case rest =>
    obtain ⟨gx, cx, rfl, BX, HX⟩ := hcut
    clear HA ho
    obtain ⟨c0, c1, c2, c3, c4, c5⟩ := box6_keep BX.out HP.out.1
    go_wp2_with fail
    refine (HCo.out wc _ _ _ _ _ _ _ _ (HP.out.2.1.keep BX.out) HX.out.1.ints).mono ?_; rintro e w4 ⟨rfl, hb⟩
    have X4 := Lib.hid (HX.out.keep hb)
    have B4 := Lib.hid (bl_tr BX.out hb)
    clear c0 c1 c2 c3 c4 c5 hb BX HX
    obtain ⟨c0, c1, c2, c3, c4, c5⟩ := box6_keep B4.out HP.out.1
    go_wp2_with fail
    refine (HV.out _).mono ?_; rintro e w5 ⟨rfl, hb⟩
    have X5 := Lib.hid (X4.out.keep hb)
    have B5 := Lib.hid (bl_tr B4.out hb)
    clear c0 c1 c2 c3 c4 c5 hb B4 X4
    obtain ⟨c0, c1, c2, c3, c4, c5⟩ := box6_keep B5.out HP.out.1
    have S1 := Lib.hid ((io_src HP.out.2.2.2.1 l1).keep B5.out)
    have S2 := Lib.hid ((io_src HP.out.2.2.2.2.1 l2).keep B5.out)
    have RS5 := Lib.hid ((rsrc_of HP.out.2.2.2.2.2 l3 HL3.out).keep B5.out)
    have HC2 := Lib.hid (kc.refcopy_any 2 n C wl vl cl _ _ _ _ _ _ _ _ _ w5 S1.out S2.out RS5.out)
    have RC5 := Lib.hid (rwsC_keep HP.out.2.2.2.2.2 B5.out)
    have QB := Lib.hid ((B5.out.block _ (lt_hp HP.out.1)).trans HP.out.1)
    have BW := Lib.hid (HP.out.2.2.1.trans (B5.out.mono HP.out.2.2.1.size))
    clear HCo S1 S2 B5 HP HL3
    go_wp2_with fail
    refine HC2.out.mono ?_; rintro e w6 ⟨g3, k3, g4, k4, ct', cc2, rfl, hb6, j1, j2, rw2⟩
    have bz : Below w6.heap.size w6 (w6.alloc (.cells #[.int .i64 2, .int .i64 n, .int .i64 C, .slice (some ⟨g3, 0, none⟩) wl.length k3, .slice (some ⟨g4, 0, none⟩) vl.length k4, .slice ct' cl.length cc2] 25)) := bl_al (Below.refl _ _) _
    have HP2 : Hid ((w6.alloc (.cells #[.int .i64 2, .int .i64 n, .int .i64 C, .slice (some ⟨g3, 0, none⟩) wl.length k3, .slice (some ⟨g4, 0, none⟩) vl.length k4, .slice ct' cl.length cc2] 25)).heap[w6.heap.size]? = some (.cells #[.int .i64 2, .int .i64 n, .int .i64 C, .slice (some ⟨g3, 0, none⟩) wl.length k3, .slice (some ⟨g4, 0, none⟩) vl.length k4, .slice ct' cl.length cc2] 25 (0, 0)) ∧ Prob (w6.alloc (.cells #[.int .i64 2, .int .i64 n, .int .i64 C, .slice (some ⟨g3, 0, none⟩) wl.length k3, .slice (some ⟨g4, 0, none⟩) vl.length k4, .slice ct' cl.length cc2] 25)) wl vl cl (some ⟨g3, 0, none⟩) (some ⟨g4, 0, none⟩) ct' ∧ Below w5.heap.size w5 (w6.alloc (.cells #[.int .i64 2, .int .i64 n, .int .i64 C, .slice (some ⟨g3, 0, none⟩) wl.length k3, .slice (some ⟨g4, 0, none⟩) vl.length k4, .slice ct' cl.length cc2] 25)) ∧ IO w5.heap.size (w6.alloc (.cells #[.int .i64 2, .int .i64 n, .int .i64 C, .slice (some ⟨g3, 0, none⟩) wl.length k3, .slice (some ⟨g4, 0, none⟩) vl.length k4, .slice ct' cl.length cc2] 25)) g3 k3 wl ∧ IO w5.heap.size (w6.alloc (.cells #[.int .i64 2, .int .i64 n, .int .i64 C, .slice (some ⟨g3, 0, none⟩) wl.length k3, .slice (some ⟨g4, 0, none⟩) vl.length k4, .slice ct' cl.length cc2] 25)) g4 k4 vl ∧ RwsC w5.heap.size (w6.alloc (.cells #[.int .i64 2, .int .i64 n, .int .i64 C, .slice (some ⟨g3, 0, none⟩) wl.length k3, .slice (some ⟨g4, 0, none⟩) vl.length k4, .slice ct' cl.length cc2] 25)) ct' cc2 cl) := Lib.hid ⟨heap_alloc_new w6 _, ⟨(j1.keep bz).1.ints, (j2.keep bz).1.ints, (rwsC_keep rw2 bz).rwsO.rws, by omega, by omega, by omega⟩, bl_tr hb6 bz, j1.keep bz, j2.keep bz, rwsC_keep rw2 bz⟩
    have hs6 := hb6.size
    clear hb6 j1 j2 rw2 bz HC2 c0 c1 c2 c3 c4 c5
    go_upto_region 8 with fail
    generalize (w6.alloc (.cells #[.int .i64 2, .int .i64 n, .int .i64 C, .slice (some ⟨g3, 0, none⟩) wl.length k3, .slice (some ⟨g4, 0, none⟩) vl.length k4, .slice ct' cl.length cc2] 25)) = Y at HP2 ⊢
    have hxl := HXL.out
    have ho := own0 Y
    have X6 := Lib.hid (X5.out.keep HP2.out.2.2.1)
    have HNs := Lib.hid (app_src X6.out.1.lt (fun j hj => by
      obtain ⟨b, o, e, _, m⟩ := X6.out.1.ints j hj
      injection e with e
      injection e with e1 e2
      subst e1 e2
      exact m))
    have hcx : x.length ≤ cx ∧ cx ≤ 9223372036854775807 := ⟨X5.out.2.1, X5.out.2.2.1⟩
    obtain ⟨hcx1, hcx2⟩ := hcx
    rw [hxl] at hcx1 ⊢
    clear hxl
    go_upto_region 9 with (at_builtin; refine wpList_append_own _ rfl _ _ 22 rfl Y.heap.size 3 i0 (.int .i64 0) 1 8 Try.underlying22 hi hz0 hz1 hz2 rfl (by decide) _ _ _ rfl ho ⟨gx, 0, none⟩ n cx (x.map (Value.int .i64)) rfl (by simp [HXL.out]) HNs.out (by simp [Value.oneCell']) (by unfold maxLen; omega) (by omega) (by simp) ?_)
    intro v' w7 hown hgrow hne
    obtain ⟨gy, cy, rfl⟩ := own_form hown hne
    have b7 : Below Y.heap.size Y w7 := (bl_al (Below.refl _ _) _).grown hgrow (by simp) (fun j hj => by simp [Value.ownBlock] at hj; omega)
    have ly := hown.lt gy rfl
    have Y0 := Lib.hid ((io_yt (n := n) (ints_own (l := x) (g := gy) (cap := cy) HXL.out (by simpa using hown)) HXL.out).congr (F' := (fun a => if a < 0 then x[n - 1 - a]?.getD 0 else x[a]?.getD 0)) (fun a ha => by rw [if_neg (by omega)]))
    obtain ⟨gt, rfl, J0⟩ := jt_start (gy := gy) HP2.out.2.2.2.2.2 HFR.out.1 HFR.out.2.1 n1 ly.1
    obtain ⟨gi, rfl, hgi, hsr⟩ := src_rows RC5.out HFR.out.1 HFR.out.2.1 n1
    have SR := Lib.hid (And.intro hgi hsr)
    have J1 := Lib.hid ((J0.keep b7).congr (R' := (fun a => if a < 0 then cl[n - 1 - a]?.getD [] else cl[a]?.getD [])) (fun a ha => by rw [if_neg (by omega)]))
    have BJ := Lib.hid ((b7.block _ (lt_hp HP2.out.1)).trans HP2.out.1)
    have BS := Lib.hid (bl_tr HP2.out.2.2.1 b7)
    rw [HFR.out.1] at BJ QB HCT
    have hcy : n ≤ cy := by
      have h := hown
      rcases h.2 with ⟨h', _⟩ | ⟨g', cap', cur, h', _, hg, h1, h2, _⟩
      · cases h'
      · injection h' with h0 hn' h'
        subst h'
        simpa using h1
    have GT := Lib.hid (show w6.heap.size ≠ gt ∧ w.heap.size ≠ gt ∧ gi ≠ gt ∧ w5.heap.size ≤ gt ∧ w5.heap.size ≤ gy ∧ w6.heap.size ≠ gy ∧ w.heap.size < w5.heap.size from by
      obtain ⟨cur, t1, _⟩ := J0
      have n6 := blk_ne HP2.out.1 t1 (by decide)
      have lw := lt_hp QB.out
      have l6 := lt_hp HP2.out.1
      have tb : w5.heap.size ≤ gt := HP2.out.2.2.2.2.2.1.2.2.1.2 gt rfl
      have l7 := ly.1
      refine ⟨n6, by omega, by omega, tb, by omega, by omega, lw⟩)
    have XI := Lib.hid X5.out.1
    have HCX := Lib.hid (And.intro hcx1 hcx2)
    clear hown hgrow hne b7 ly J0 hgi hsr RC5 X5 X6 HNs ho HP2 hcx1 hcx2
    obtain ⟨e0, e1, e2, e3, e4, e5⟩ := box6 ((BS.out.block _ (lt_hp QB.out)).trans QB.out)
    go_wp2
    clear e0 e1 e2 e3 e4 e5
    go_loopw [9] (fun kv wr => ∃ k : Nat, k ≤ n ∧ kv = .int .i64 (k : Int) ∧ Hid (JT gt gy n (fun a => if a < k then cl[n - 1 - a]?.getD [] else cl[a]?.getD []) wr) ∧ Hid (YT gy n (fun a => if a < k then x[n - 1 - a]?.getD 0 else x[a]?.getD 0) wr) ∧ Hid (wr.heap[w6.heap.size]? = some (.cells #[.int .i64 2, .int .i64 n, .int .i64 C, .slice (some ⟨g3, 0, none⟩) wl.length k3, .slice (some ⟨g4, 0, none⟩) vl.length k4, .slice (some ⟨gt, 0, none⟩) n cc2] 25 (0, 0))) ∧ Hid (Below w5.heap.size w5 wr)) (fun kv _ => n - (intOf kv).toNat)
    case atStart => exact ⟨0, by omega, rfl, J1, Y0, BJ, BS⟩
    case round =>
      clear J1 Y0 BJ BS
      obtain ⟨k, hk, rfl, HJ, HY, BJ, BS⟩ := hrel
      have QW := Lib.hid ((BS.out.block _ (lt_hp QB.out)).trans QB.out)
      obtain ⟨e0, e1, e2, e3, e4, e5⟩ := box6 QW.out
      obtain ⟨d0, d1, d2, d3, d4, d5⟩ := box6 BJ.out
      by_cases hlt : k < n
      · have p1 : (k : Int) < (n : Int) := by omega
        obtain ⟨r, hr⟩ : ∃ r, r + 1 + k = n := ⟨n - 1 - k, by omega⟩
        have hrr : (n : Int) - 1 - (k : Int) = (r : Int) := by omega
        have hrn : r < n := by omega
        have p2 : (r : Int) < (n : Int) := by omega
        have HRK := Lib.hid (show n - 1 - k = r by omega)
        have HR := Lib.hid hr
        clear hr
        obtain ⟨gr, cr, hc, hI, hcr1, hcr2⟩ := SR.out.2 r hrn
        have HRL := Lib.hid (HFR.out.2.1 r hrn)
        have HK : Hid (∀ W, Below wr.heap.size wr W → W.cell? ⟨w6.heap.size, 5, none⟩ = some (.slice (some ⟨gt, 0, none⟩) n cc2) ∧ W.cell? ⟨w.heap.size, 5, none⟩ = some (.slice (some ⟨gi, 0, none⟩) n cc') ∧ W.cell? ⟨w.heap.size, 1, none⟩ = some (.int .i64 n) ∧ W.cell? ⟨gi, r, none⟩ = some (.slice (some ⟨gr, 0, none⟩) n cr)) := Lib.hid fun W hb => by
          have hb5 : Below w5.heap.size w5 W := BS.out.trans (hb.mono BS.out.size)
          have j5 := (hb.block _ (lt_hp BJ.out)).trans BJ.out
          have q5 := (hb5.block _ (lt_hp QB.out)).trans QB.out
          exact ⟨cell_at j5 rfl, cell_at q5 rfl, cell_at q5 rfl, (hb5.cell (p := ⟨gi, r, none⟩) SR.out.1).trans hc⟩
        have K0 := Lib.hid (HK.out wr.drew (bl_drew wr))
        have ba : Below wr.heap.size wr (wr.drew.alloc (.cells #[] 3)) := (bl_drew wr).alloc (Nat.le_refl _) _
        have K1 := Lib.hid (HK.out _ ba)
        have IW := Lib.hid (hI.keep BS.out)
        have HNS := Lib.hid (app_src (X := wr.drew) (b := gr) (o := 0) (l := cl[r]?.getD []) IW.out.lt (fun j hj => by
          obtain ⟨b, o, e, _, m⟩ := IW.out.ints j hj
          injection e with e
          injection e with e1 e2
          subst e1 e2
          exact m))
        have ho := own0 wr.drew
        have ly := HY.out.lt
        have BA := Lib.hid ba
        clear hc hI ba
        have w1' : IntKind.i64.wrap ((n : Int) - 1) = (n : Int) - 1 := by rw [IntKind.wrap_i64]; omega
        have w2' : IntKind.i64.wrap ((n : Int) - 1 - (k : Int)) = (r : Int) := by rw [IntKind.wrap_i64]; omega
        have w3' : IntKind.i64.wrap (r : Int) = (r : Int) := by rw [IntKind.wrap_i64]; omega
        have p3 : (0 : Int) ≤ (r : Int) := by omega
        go_wp2
        go_region_held3 (fun w' => w'.cell? ⟨w6.heap.size, 5, none⟩ = some (.slice (some ⟨gt, 0, none⟩) n cc2) ∧ w'.cell? ⟨w.heap.size, 5, none⟩ = some (.slice (some ⟨gi, 0, none⟩) n cc') ∧ w'.cell? ⟨w.heap.size, 1, none⟩ = some (.int .i64 n) ∧ w'.cell? ⟨gi, r, none⟩ = some (.slice (some ⟨gr, 0, none⟩) n cr)) (first | exact K0.out | exact K1.out | exact K2.out | exact K3.out)
          (first
            | (refine step_append_lies _ (by rfl) _ _ _ (by rfl) wr.heap.size 3 i0 (.int .i64 0) 1 8 Try.underlying22 hi hz0 hz1 hz2 rfl (by decide) _ 0 [] (by rfl) ho ⟨gr, 0, none⟩ n cr ((cl[r]?.getD []).map (Value.int .i64)) (by rfl) (by simp [HRL.out]) HNS.out (by simp [Value.oneCell']) (by omega) (by unfold maxLen; omega) (by omega) (by simp) _ rfl ?_; intro g cap w2 hown hgrow hat hlg; simp only [Nat.zero_add] at hown ⊢; have b2 : Below wr.heap.size wr w2 := BA.out.grown hgrow (by simp) (fun j hj => by simp [Value.ownBlock] at hj; omega); have hgg : g ≠ gy := (by rcases hat with q | q <;> simp [Value.ownBlock] at q <;> omega); have K2 := Lib.hid (HK.out w2 b2); have J2 := Lib.hid (HJ.out.keep b2); have Y2 := Lib.hid (HY.out.keep b2); have IG := Lib.hid (ints_own (l := cl[r]?.getD []) HRL.out (by simpa using hown)); have BJ2 := Lib.hid ((b2.block _ (lt_hp BJ.out)).trans BJ.out); have BS2 := Lib.hid (BS.out.trans (b2.mono BS.out.size)); obtain ⟨⟨gp, cp, c6⟩, f6, _⟩ := J2.out.cell hlt; have K3 : Hid ((w2.setCell ⟨gt, k, none⟩ (.slice (some ⟨g, 0, none⟩) n cap)).cell? ⟨w6.heap.size, 5, none⟩ = some (.slice (some ⟨gt, 0, none⟩) n cc2) ∧ (w2.setCell ⟨gt, k, none⟩ (.slice (some ⟨g, 0, none⟩) n cap)).cell? ⟨w.heap.size, 5, none⟩ = some (.slice (some ⟨gi, 0, none⟩) n cc') ∧ (w2.setCell ⟨gt, k, none⟩ (.slice (some ⟨g, 0, none⟩) n cap)).cell? ⟨w.heap.size, 1, none⟩ = some (.int .i64 n) ∧ (w2.setCell ⟨gt, k, none⟩ (.slice (some ⟨g, 0, none⟩) n cap)).cell? ⟨gi, r, none⟩ = some (.slice (some ⟨gr, 0, none⟩) n cr)) := Lib.hid ⟨(cell_oth GT.out.1).trans K2.out.1, (cell_oth GT.out.2.1).trans K2.out.2.1, (cell_oth GT.out.2.1).trans K2.out.2.2.1, (cell_oth GT.out.2.2.1).trans K2.out.2.2.2⟩; have J3 := Lib.hid (J2.out.row (k := k) (c := cap) hlt IG.out HRL.out hgg); have Y3 := Lib.hid (Y2.out.row J2.out k (.slice (some ⟨g, 0, none⟩) n cap)); have BJ3 := Lib.hid ((set_oth w2 gt k (.slice (some ⟨g, 0, none⟩) n cap) GT.out.1).trans BJ2.out); have BS3 := Lib.hid (BS2.out.setCell (p := ⟨gt, k, none⟩) GT.out.2.2.2.1 (.slice (some ⟨g, 0, none⟩) n cap)); clear hown hgrow hat hlg b2 hgg J2 Y2 IG BJ2 BS2))
        clear K0 K1 K2 K3 HK IW HNS ho ly BA HJ HY BJ BS QW c6 f6 e0 e1 e2 e3 e4 e5 d0 d1 d2 d3 d4 d5
        generalize (w2.setCell ⟨gt, k, none⟩ (.slice (some ⟨g, 0, none⟩) n cap)) = W3 at J3 Y3 BJ3 BS3 ⊢
        obtain ⟨cur, t1, t2⟩ := XI.out.keep BS3.out
        obtain ⟨y, hy⟩ : ∃ y, y = x[r]?.getD 0 := ⟨_, rfl⟩
        have cxr : W3.cell? ⟨gx, r, none⟩ = some (.int .i64 y) := by rw [cell_of_row _ _ _ _ _ _ t1, hy]; exact t2 r (by have := HXL.out; omega)
        have c7 := (Y3.out.cell hlt).1
        have f7 := (Y3.out.cell hlt).2
        obtain ⟨e0, e1, e2, e3, e4, e5⟩ := box6 ((BS3.out.block _ (lt_hp QB.out)).trans QB.out)
        have J4 := Lib.hid ((J3.out.y Y3.out k (.int .i64 y)).congr (R' := (fun a => if a < k + 1 then cl[n - 1 - a]?.getD [] else cl[a]?.getD [])) (fun a ha => by
          by_cases c : a = k
          · rw [if_pos c, if_pos (by omega), c, HRK.out]
          · rw [if_neg c]
            by_cases c2 : a < k
            · rw [if_pos c2, if_pos (by omega)]
            · rw [if_neg c2, if_neg (by omega)]))
        have Y4 := Lib.hid ((Y3.out.set hlt y).congr (F' := (fun a => if a < k + 1 then x[n - 1 - a]?.getD 0 else x[a]?.getD 0)) (fun a ha => by
          by_cases c : a = k
          · rw [if_pos c, if_pos (by omega), c, HRK.out, hy]
          · rw [if_neg c]
            by_cases c2 : a < k
            · rw [if_pos c2, if_pos (by omega)]
            · rw [if_neg c2, if_neg (by omega)]))
        have BJ4 := Lib.hid ((set_oth W3 gy k (.int .i64 y) GT.out.2.2.2.2.2.1).trans BJ3.out)
        have BS4 := Lib.hid (BS3.out.setCell (p := ⟨gy, k, none⟩) GT.out.2.2.2.2.1 (.int .i64 y))
        clear hy t1 t2 J3 Y3 BJ3 BS3
        go_wp2
        go_roundw
        case rel => exact ⟨k + 1, by omega, by go_num, J4, Y4, BJ4, BS4⟩
        case measure => simp [intOf]; omega
      · obtain rfl : k = n := by omega
        have p1 : ¬ (k : Int) < (k : Int) := by omega
        have nilI : ∀ (W : World) (p : Option Addr) (l : List Int), l = [] → Ints W p l := fun W p l h j hj => by rw [h] at hj; simp at hj
        have HC3 := Lib.hid (HCT.out wr (some ⟨g3, 0, none⟩) (some ⟨g4, 0, none⟩) (some ⟨gt, 0, none⟩) (some ⟨gy, 0, none⟩) k3 k4 cc2 cy x.reverse (by simp [HXL.out]; omega)
          ⟨nilI _ _ _ HW.out.1, nilI _ _ _ HW.out.2, HJ.out.rws a1 (by rw [List.length_reverse]; exact HFR.out.1) (fun a ha => by rw [rev_get _ _ _ (by rw [HFR.out.1]; exact ha), HFR.out.1, if_pos ha]), by rw [HW.out.1]; simp, by rw [HW.out.2]; simp, by rw [List.length_reverse, HFR.out.1]; omega⟩
          (HY.out.ints (by rw [List.length_reverse]; exact HXL.out) (fun a ha => by rw [rev_get _ _ _ (by rw [HXL.out]; exact ha), HXL.out, if_pos ha])))
        rw [HT.out, List.length_reverse, HXL.out] at HC3
        clear nilI
        go_wp2_with fail
        refine HC3.out.mono ?_; rintro e w8 ⟨rfl, hb8⟩
        have BZ := Lib.hid (BW.out.trans ((BS.out.trans (hb8.mono BS.out.size)).mono BW.out.size))
        clear hb8 HC3 d0 d1 d2 d3 d4 d5 e0 e1 e2 e3 e4 e5
        go_wp2
        go_ret
        exact ⟨by simp, BZ.out⟩
end Go.Proofs.Ytfpffggeehmedaa
